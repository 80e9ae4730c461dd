import PyProof.Rows.All
import Wide.All
import OpenK.AllK
import Wide.FinOn
import HandS.Base
import HandS.Call
import HandS.List
import HandS.Ends
import HandS.Words
import HandS.WordsList
import HandS.More
import KE.KExcSuper
import HandS.Exc
import HandS.ExcInit
import HandS.ExcField
import HandS.ExcIs
import HandS.EndBits
import KE.KExcIs
import HandS.ExcOwn
import HandS.TryMany
import HandS.WordsExc
import HandS.ForMost
import HandS.Walk
import HandS.IsInst
import HandS.OwnEq
import HandS.NamedTupSort
import HandS.ListItems
import HandS.Property
import HandS.Style
import HandS.TupMul
import KE.SortData
import HandS.Deep
import HandS.Comp
import PyProof.Rows.StrMeet
import HandS.Star
import HandS.Flow
import HandS.CallLocal
import HandS.Codes
import HandS.Dict
import KE.KRevSl
import HandS.TupAny
import HandS.Conv
import PyProof.Draws
import PyProof.EnumMake
import KE.GoesMore
import HandS.Iter
import HandS.Zip
import HandS.SetFor
import HandS.DictComp
import HandS.NoneIn
import HandS.Text
import HandS.WideBits
import HandS.SortInts
import HandS.Strs
import PySem.Challenge.RW_shutbyrings_k08_known_comparisons
set_option Elab.async false
set_option linter.all false
set_option maxRecDepth 100000
set_option maxHeartbeats 2000000
namespace Dr
open PySem L2 PyProof.Rows
def top (i : Nat) : Stmt := PySem.Challenge.pw_shutbyrings_k08_known_comparisons.main.body.getD i (.Pass ⟨0, 0, 0, 0⟩)
abbrev sFeed : Stmt := top 40
abbrev sTake : Stmt := top 41
abbrev sPick : Stmt := top 42
structure DTxt (mg : Str → Option Value) : Prop where
  len : mg "len" = none
  max : mg "max" = none
  abs : mg "abs" = none
  int : mg "int" = none
def feedO (x y : Int) : HO := .lst [.int x, .int y]
def spFeed (K : PySem.W.Frag) : Sp := fun vs H Q _ => ∃ (a : Addr) (ns : List Int) (k : Nat), vs = [.ref a, .int (k : Int)] ∧ SqL K H a (ns.map V.int) ∧ k < 1000 ∧
  ∀ (p : Addr) (x y : Int), H p = none → Q (.ref p) (upd H p (feedO x y))
def spTake : Sp := fun vs H Q _ => ∃ (p : Addr) (x y m : Int), vs = [.ref p, .int m] ∧ H p = some (feedO x y) ∧ 0 < m ∧ m < 1000000 ∧
  ∀ (r x' y' : Int), 0 ≤ r → r < m → Q (.int r) (upd H p (feedO x' y'))
section
variable {P : Program} {w : World} {K : PySem.W.Frag} {mg : Str → Option Value} {base : Heap}
theorem scF : FnScope ["script", "k", "cell", "digits", "state"] ["script", "k"] (defScope sFeed) := ⟨rfl, rfl, rfl, by decide +kernel, rfl, by decide +kernel, by decide +kernel⟩
theorem ok_feed {f : Addr} {fd : FuncData} (F : Fun K "_law_feed" "_law_feed" sFeed f fd) (T : DTxt mg) : FnOk P w K mg base CX0 1 f fd ["script", "k"] (spFeed K) := by
  refine F.ok scF (fun vs H Q E h => ?_) (fun cdv A outer s H vs Q E hr h => ?_)
  · obtain ⟨a, ns, k, rfl, _⟩ := h
    rfl
  · obtain ⟨a, ns, k, rfl, hs, hk, q⟩ := h
    refine ⟨_, pss_cons (ps_set (i := 2) scF.nd rfl (Or.inl rfl) (pe_ifExp (pt_cmpR op_lt (pv 1) (pe_callB call_len (by rfl) T.len PySem.boot_len (pa_cons (pv 0) pa_nil)) (nomark _)) (pe_ix ix_list (pv 0) (pv 1) fun _ _ => rfl) (pe_op op_add (pe_op op_mul pe_int (pv 1)) pe_int)))
      (pss_cons (ps_set (i := 3) scF.nd rfl (Or.inl rfl) (pe_callB (call_max2 rfl) (by rfl) T.max boot_max (pa_cons pe_int (pa_cons (pe_op op_sub (pe_callB call_abs (by rfl) T.abs boot_abs (pa_cons (pv 2) pa_nil)) (pe_op op_pow pe_int pe_int)) pa_nil))))
      (pss_cons (ps_set (i := 4) scF.nd rfl (Or.inl rfl) (pe_op op_mod (pe_callTy call_int1 (by rfl) T.int (by decide +kernel) (pa_cons (pe_op op_add (pe_op op_add (pe_op op_mul (pv 2) pe_int) (pe_op op_mul pe_int (pv 1))) pe_int) pa_nil)) pe_int))
      (pss_one (ps_ret (pe_lst (pa_cons (pv 3) (pa_cons (pv 4) pa_nil))))))), ?_⟩
    refine ⟨_, rfl, _, rfl, _, _, rfl, .inl ⟨_, hs, rfl⟩, _, _, rfl, rfl, _, rfl, ?_⟩
    have he : (10 : Int) ^ (18 : Int).toNat = 1000000000000000000 := by decide
    have h7 : CMul 7919 (k : Int) := .inl ⟨by decide, by decide⟩
    have hC : ∀ c : Int, CMul c 6364136223846793005 := fun c => .inr ⟨by decide, by decide⟩
    have hP : CPow 10 18 := ⟨by decide, by decide, by decide⟩
    refine ite2 (fun h1 => ?_) (fun h1 => ?_)
    · have hkl : k < (ns.map V.int).length := by
        have := of_decide_eq_true h1
        omega
      obtain ⟨c, hc⟩ : ∃ c : Int, (ns.map V.int)[k]? = some (V.int c) := by
        rw [List.length_map] at hkl
        exact ⟨ns[k], by rw [List.getElem?_map, List.getElem?_eq_getElem hkl]; rfl⟩
      refine ⟨_, rfl, _, rfl, _, _, _, _, rfl, rfl, hs, atI_nat hc, ?_⟩
      refine ⟨_, rfl, _, rfl, _, _, rfl, rfl, hP, _, _, rfl, rfl, _, _, rfl, ?_⟩
      refine ⟨_, rfl, _, _, rfl, rfl, hC _, _, rfl, _, _, rfl, rfl, h7, _, _, rfl, rfl, _, _, rfl, rfl, .inl ⟨_, rfl, _, _, rfl, rfl, (by show (0 : Int) < 2305843009213693951; decide), ?_⟩⟩
      exact ⟨_, rfl, _, rfl, (by show 2 ≤ sizeLine; decide), fun p hp => q p _ _ hp⟩
    · refine ⟨_, rfl, _, _, rfl, rfl, .inl ⟨by decide, by decide⟩, _, _, rfl, rfl, ?_⟩
      refine ⟨_, rfl, _, rfl, _, _, rfl, rfl, hP, _, _, rfl, rfl, _, _, rfl, ?_⟩
      refine ⟨_, rfl, _, _, rfl, rfl, hC _, _, rfl, _, _, rfl, rfl, h7, _, _, rfl, rfl, _, _, rfl, rfl, .inl ⟨_, rfl, _, _, rfl, rfl, (by show (0 : Int) < 2305843009213693951; decide), ?_⟩⟩
      exact ⟨_, rfl, _, rfl, (by show 2 ≤ sizeLine; decide), fun p hp => q p _ _ hp⟩
theorem scT : FnScope ["feed", "many", "digit"] ["feed", "many"] (defScope sTake) := ⟨rfl, rfl, rfl, by decide +kernel, rfl, by decide +kernel, by decide +kernel⟩
theorem feed0 {H : Hp} {p : Addr} {x y : Int} (h : H p = some (feedO x y)) : SqL K H p [.int x, .int y] := SqL.of h
theorem at0 {x y : Int} : atI [V.int x, V.int y] 0 = some (.int x) := rfl
theorem at1 {x y : Int} : atI [V.int x, V.int y] 1 = some (.int y) := rfl
theorem upd2 {H : Hp} {p : Addr} {o u : HO} : upd (upd H p o) p u = upd H p u := by
  funext b
  by_cases h : b = p
  · subst h
    rw [upd_same, upd_same]
  · rw [upd_ne h, upd_ne h, upd_ne h]
theorem ok_take {f : Addr} {fd : FuncData} (F : Fun K "_law_take" "_law_take" sTake f fd) (T : DTxt mg) : FnOk P w K mg base CX0 1 f fd ["feed", "many"] spTake := by
  refine F.ok scT (fun vs H Q E h => ?_) (fun cdv A outer s H vs Q E hr h => ?_)
  · obtain ⟨p, x, y, m, rfl, _⟩ := h
    rfl
  · obtain ⟨p, x, y, m, rfl, hp, hm0, hm1, q⟩ := h
    refine ⟨_, pss_cons (ps_if (pt_cmpR op_gt (pe_ix ix_list (pv 0) pe_int fun _ _ => rfl) pe_int (nomark _))
        (pss_cons (ps_set (i := 2) scT.nd rfl (Or.inl rfl) (pe_op op_mod (pe_callTy call_int1 (by rfl) T.int (by decide +kernel) (pa_cons (pe_ix ix_list (pv 0) pe_int fun _ _ => rfl) pa_nil)) (pv 1)))
        (pss_cons (ps_asg (pe_op op_fdiv (pe_ix ix_list (pv 0) pe_int fun _ _ => rfl) (pv 1)) (pg_sub (pv 0) pe_int set_list))
        (pss_one (ps_ret (pv 2))))) pss_nil)
      (pss_cons (ps_asg (pe_op op_mod (pe_callTy call_int1 (by rfl) T.int (by decide +kernel) (pa_cons (pe_op op_add (pe_op op_mul (pe_ix ix_list (pv 0) pe_int fun _ _ => rfl) pe_int) pe_int) pa_nil)) pe_int) (pg_sub (pv 0) pe_int set_list))
      (pss_one (ps_ret (pe_op op_mod (pe_callTy call_int1 (by rfl) T.int (by decide +kernel) (pa_cons (pe_op op_fdiv (pe_ix ix_list (pv 0) pe_int fun _ _ => rfl) pe_int) pa_nil)) (pv 1))))), ?_⟩
    have hS := feed0 (K := K) hp
    refine ⟨_, rfl, _, _, _, _, rfl, rfl, hS, at0, _, _, rfl, rfl, _, rfl, ?_⟩
    refine ite2 (fun h1 => ?_) (fun h1 => ?_)
    · refine ⟨_, rfl, _, _, _, _, rfl, rfl, hS, at0, .inl ⟨_, rfl, _, rfl, _, _, rfl, rfl, hm0, ?_⟩⟩
      refine ⟨_, rfl, _, _, _, _, rfl, rfl, hS, at0, _, rfl, _, _, rfl, rfl, ⟨hm0, by omega⟩, ?_⟩
      refine ⟨_, rfl, _, _, _, 0, rfl, rfl, hp, rfl, _, rfl, ?_⟩
      exact q _ _ _ (Int.emod_nonneg _ (by omega)) (Int.emod_lt_of_pos _ hm0)
    · refine ⟨_, rfl, _, _, _, _, rfl, rfl, hS, at1, _, _, rfl, rfl, .inr ⟨by decide, by decide⟩, _, _, rfl, rfl, .inl ⟨_, rfl, _, _, rfl, rfl, (by show (0 : Int) < 2305843009213693951; decide), ?_⟩⟩
      refine ⟨_, rfl, _, _, _, 1, rfl, rfl, hp, rfl, ?_⟩
      refine ⟨_, rfl, _, _, _, _, rfl, rfl, SqL.of upd_same, at1, _, _, rfl, rfl, ⟨by decide, by decide⟩, .inl ⟨_, rfl, _, rfl, _, _, rfl, rfl, hm0, ?_⟩⟩
      exact q _ _ _ (Int.emod_nonneg _ (by omega)) (Int.emod_lt_of_pos _ hm0)
def spPick (K : PySem.W.Frag) : Sp := fun vs H Q _ => ∃ (p : Addr) (x y : Int), H p = some (feedO x y) ∧
  ((∃ (l : Addr) (xs : List V), vs = [.ref p, .ref l] ∧ SqL K H l xs ∧ l ≠ p ∧ 0 < xs.length ∧ xs.length < 1000000 ∧
      ∀ (v : V) (x' y' : Int), v ∈ xs → Q v (upd H p (feedO x' y'))) ∨
   (∃ (z : Str), vs = [.ref p, .str z] ∧ 0 < z.length ∧ z.length < 1000000 ∧
      ∀ (c : Nat) (x' y' : Int), c ∈ z.cps.toList → Q (.str ⟨#[c]⟩) (upd H p (feedO x' y'))))
theorem atI_in {α : Type} {xs : List α} {r : Int} (h0 : 0 ≤ r) (h1 : r < (xs.length : Int)) : ∃ v, atI xs r = some v ∧ v ∈ xs := by
  have h2 : r.toNat < xs.length := by omega
  refine ⟨xs[r.toNat], ?_, List.getElem_mem h2⟩
  unfold atI ixN
  rw [if_pos h0, if_pos h1]
  exact List.getElem?_eq_getElem h2
theorem scK : FnScope ["feed", "some"] ["feed", "some"] (defScope sPick) := ⟨rfl, rfl, rfl, by decide +kernel, rfl, by decide +kernel, by decide +kernel⟩
theorem seq_upd {H : Hp} {l p : Addr} {xs : List V} {o : HO} (h : SqL K H l xs) (n : l ≠ p) : SqL K (upd H p o) l xs := by
  rcases h with (h | ⟨u, h⟩) | h
  · exact .inl (.inl (by rw [upd_ne n]; exact h))
  · exact .inl (.inr ⟨u, by rw [upd_ne n]; exact h⟩)
  · exact .inr h
theorem ok_pick {f fT : Addr} {fd fdT : FuncData} (F : Fun K "_law_pick" "_law_pick" sPick f fd) (T : DTxt mg) (FT : Fun K "_law_take" "_law_take" sTake fT fdT) (bT : Binds K fdT ["feed", "many"] []) (gT : mg "_law_take" = some (.ref fT)) :
    FnOk P w K mg base CX0 2 f fd ["feed", "some"] (spPick K) := by
  have GT : FnOk P w K mg base CX0 1 fT fdT ["feed", "many"] spTake := ok_take FT T
  refine F.ok scK (fun vs H Q E h => ?_) (fun cdv A outer s H vs Q E hr h => ?_)
  · obtain ⟨p, x, y, _, ⟨l, xs, rfl, _⟩ | ⟨z, rfl, _⟩⟩ := h <;> rfl
  · refine ⟨_, pss_one (ps_ret (pe_ix ix_seq (pv 1) (pe_call GT hr (by rfl) gT FT.kp bT .nil pass0 (pa_cons (pv 0) (pa_cons (pe_callB call_len (by rfl) T.len PySem.boot_len (pa_cons (pv 1) pa_nil)) pa_nil))) fun _ _ => rfl)), ?_⟩
    obtain ⟨p, x, y, hp, ⟨l, xs, rfl, hl, hn, h0, h1, q⟩ | ⟨z, rfl, h0, h1, q⟩⟩ := h
    · refine ⟨_, rfl, _, rfl, _, rfl, _, _, rfl, .inl ⟨_, hl, rfl⟩, ?_⟩
      refine ⟨p, x, y, _, rfl, hp, by omega, by omega, fun r x' y' hr0 hr1 => ?_⟩
      have e : r = ((r.toNat : Nat) : Int) := by omega
      have hlt : r.toNat < xs.length := by omega
      refine .inl ⟨_, _, _, _, rfl, rfl, seq_upd hl hn, (by rw [e]; exact atI_nat (List.getElem?_eq_getElem hlt)), ?_⟩
      exact q _ _ _ (List.getElem_mem hlt)
    · refine ⟨_, rfl, _, rfl, _, rfl, _, z.length, rfl, ⟨Nat.le_trans (Nat.le_of_lt h1) (by decide), rfl⟩, ?_⟩
      refine ⟨p, x, y, _, rfl, hp, by omega, by omega, fun r x' y' hr0 hr1 => ?_⟩
      have el : z.length = z.cps.toList.length := by simp [Str.length]
      obtain ⟨c, hc, hm⟩ := atI_in (xs := z.cps.toList) hr0 (by omega)
      exact .inr (.inr ⟨_, _, _, rfl, rfl, Nat.le_trans (Nat.le_of_lt h1) (by decide), hc, q _ _ _ hm⟩)
end
end Dr

set_option maxRecDepth 100000
set_option maxHeartbeats 2000000
/-! Own errors over an own error over ValueError, each with an __init__ that says super().__init__('..') and keeps its argument, made as values. -/
namespace Er
open PySem PySem.W PySem.Calls PyProof.Rows PySem.HandSPX
/-- the text of such an __init__ -/
def sup (z : Str) (k : Nat) (p0 p1 p2 p3 p4 p5 : Pos) : Stmt :=
  .Expr (.Call (.Attribute (.Call (.Name "super" p0) [] [] p1) "__init__" p2) [.Constant (.str z) k p3] [] p4) p5
def keepS (fl : Str) (q1 q2 q3 q4 : Pos) : Stmt := .Assign [.Attribute (.Name "self" q1) fl q2] (.Name fl q3) q4
def body : Option Str → Str → Nat → Pos → Pos → Pos → Pos → Pos → Pos → Pos → Pos → Pos → Pos → List Stmt
  | none, z, k, p0, p1, p2, p3, p4, p5, _, _, _, _ => [sup z k p0 p1 p2 p3 p4 p5]
  | some fl, z, k, p0, p1, p2, p3, p4, p5, q1, q2, q3, q4 => [sup z k p0 p1 p2 p3 p4 p5, keepS fl q1 q2 q3 q4]
def pars : Option Str → Pos → Pos → Arguments
  | none, p, _ => { posonlyargs := [], args := [{ arg := "self", annotation := none, pos := p }], vararg := none, kwonlyargs := [], kw_defaults := [], kwarg := none, defaults := [] }
  | some fl, p, q => { posonlyargs := [], args := [{ arg := "self", annotation := none, pos := p }, { arg := fl, annotation := none, pos := q }], vararg := none, kwonlyargs := [], kw_defaults := [], kwarg := none, defaults := [] }
def names : Option Str → List (Str × NameKind)
  | none => [("self", .local), ("__class__", .free), ("super", .globalImplicit)]
  | some fl => [("self", .local), (fl, .local), ("__class__", .free), ("super", .globalImplicit)]
def scp (o : Option Str) : Scope := { kind := .function, names := names o, isGenerator := false, isCoroutine := false, more := [] }
/-- how the call super().__init__('..') is read (by its places) -/
def EvP (z : Str) (kz : Nat) (p0 p1 p2 p3 p4 p5 : Pos) : Prop := ∀ env : Env, (∃ pl, eval (.Call (.Attribute (.Call (.Name "super" p0) [] [] p1) "__init__" p2) [.Constant (.str z) kz p3] [] p4) env = (do
      let ov ← attributeBase (.Call (.Name "super" p0) [] [] p1) "__init__" env (eval (.Call (.Name "super" p0) [] [] p1) env)
      standAt p2.atName
      let (f, first) ← holding [ov] (getMethod ov "__init__" pl)
      callWith p4 f first (backTo p4 (starEach [.Constant (.str z) kz p3] env)) [])) ∧
    swapsWith (.Call (.Attribute (.Call (.Name "super" p0) [] [] p1) "__init__" p2) [.Constant (.str z) kz p3] [] p4) none p5.line env = pure false
/-- how its arguments bind -/
def BdP : Option Str → FuncData → Prop
  | none, fd => ∀ e, bindArgs fd ⟨[e], []⟩ = pure [(("self" : Str), e)]
  | some f, fd => ∀ e v, bindArgs fd ⟨[e, v], []⟩ = pure [(("self" : Str), e), (f, v)] ∧ bindArgs fd ⟨[e], [(f, v)]⟩ = pure [(("self" : Str), e), (f, v)]
/-- what the written part says of the class at C, of its __init__ at fI -/
structure ErrC (P : Program) (K : Frag) (x : Str) (fl : Option Str) (C fI : Addr) : Prop where
  kC : keepIn K (.ref C) = true
  cls : ∃ nm q N bs bm sn sub ab col dd k0 k1 k2 k3 k5, K.lookup C = some (excClassObj nm q C N bs bm true sn sub ab col dd k0 k1 k2 k3 k5 "ValueError.__new__") ∧ refsVE bm = true
  sa : findIn K (.ref C) "__setattr__" = some (some (.builtin "object.__setattr__"))
  iC : findIn K (.ref C) "__init__" = some (some (.ref fI))
  tI : typeIn K (.ref fI) = some (.type "function")
  fn : ∃ (oc : Value) (od : Option Addr) (doc pm : Value) (an : Option Addr) (ct : Value) (osl : Array (Option Value)) (cc cda : Addr) (qual z : Str) (kz : Nat) (p p' p0 p1 p2 p3 p4 p5 q1 q2 q3 q4 : Pos),
    K.lookup fI = some ⟨oc, od, .func (ksFn "__init__" qual (pars fl p p') (body fl z kz p0 p1 p2 p3 p4 p5 q1 q2 q3 q4) (scp fl) .none .none doc pm an (.ref cda) ct cc), osl⟩ ∧ codeIn K (.ref cda) qual = true ∧
    EvP z kz p0 p1 p2 p3 p4 p5 ∧ BdP fl (ksFn "__init__" qual (pars fl p p') (body fl z kz p0 p1 p2 p3 p4 p5 q1 q2 q3 q4) (scp fl) .none .none doc pm an (.ref cda) ct cc) ∧ (∃ (ccl : Value) (cdd : Option Addr) (vs : Array Value) (ccs : Array (Option Value)) (file : Str) (tf : Tok), K.lookup cda = some ⟨ccl, cdd, .fields vs, ccs⟩ ∧ vs[2]? = some (.str file tf) ∧ ((P.main.file : Str) == file) = true) ∧
    ∃ (cl : Value) (cld : Option Addr) (csl : Array (Option Value)), K.lookup cc = some ⟨cl, cld, .cell (some (.ref C)), csl⟩
  any : nsIn K cStatics "thirdparty.any" = some none
  along : ks_superIn K C C "__init__" = some (some (.builtin "ValueError.__init__"))
  subVE : subIn K (.ref C) (.type "ValueError") = some true
  mro : mroIn K C (.ref C) = some true
  top : (P.main.scope.names.lookup ("super" : Str)).isSome = false
  noF : ∀ f, fl = some f → findIn K (.ref C) f = some none
  kS : (names fl).lookup ("super" : Str) = some .globalImplicit
  kF : (names fl).lookup ("__class__" : Str) = some .free
  kL : (names fl).lookup ("self" : Str) = some .local
  kP : ∀ f, fl = some f → (names fl).lookup f = some .local ∧ (f == ("self" : Str)) = false ∧ (f == ("__debug__" : Str)) = false
theorem one_size (v : Value) : [v].length ≤ sizeLine := by
  rw [sizeLine_eq]
  exact (by decide : 1 ≤ 16777216)
section
variable {P : Program} {w : World} {A : Around} {E : Value → Shared → Prop} {R : Result → Shared → Prop} {K : Frag} {mg mb : Str → Option Value} {x : Str} {fl : Option Str} {C fI : Addr}
/-- the first row of __init__ -/
theorem sup_run (T : ErrC P K x fl C fI) {hh : Heap} {g : Array GenState} {d : Drawn} {t : Nat} {os : OsState} {e t0 cc cda L : Addr} {m : Str → Option Value} {q z : Str} {kz : Nat} {bd : List Stmt} {p0 p1 p2 p3 p4 p5 : Pos} {fd : FuncData} {Q : Flow → Shared → Prop}
    (ev : EvP z kz p0 p1 p2 p3 p4 p5) (X : K.In hh) (G : hh.Ns mainGlobals mg) (hmg : mg "super" = none) (B : hh.Ns builtinsNs mb) (hmb : mb "super" = some (.type "super")) (he : hh.get? e = some (excO C t0))
    (hns : hh.Ns L m) (hv : m "self" = some (.ref e)) (hf : ∃ of, hh.get? fI = some of ∧ of.data = .func fd) (hp : ∃ ar, (fd.params.posonlyargs ++ fd.params.args).head? = some ar ∧ ar.arg = ("self" : Str))
    (hcode : ∃ oc vs file tf, hh.get? cda = some oc ∧ oc.data = .fields vs ∧ vs[2]? = some (.str file tf) ∧ ((P.main.file : Str) == file) = true) (hcell : hh.IsCell cc (some (.ref C)))
    (hq : ∀ h' t1 tk, (∀ b o, b ≠ e → hh.get? b = some o → h'.get? b = some o) → h'.get? e = some (excO C t1) → Q .next ⟨h', g, d, tk, os⟩) :
    _root_.PySem.wpAt (model P w) A (.func bd (ksEnv q (scp fl) L fI (.ref cda) cc)) (exec (sup z kz p0 p1 p2 p3 p4 p5) (ksEnv q (scp fl) L fI (.ref cda) cc)) Q E ⟨hh, g, d, t, os⟩ := by
  obtain ⟨nm, q', N, bs, bm, sn, sub, ab, col, dd, k0, k1, k2, k3, k5, hC, hbm⟩ := T.cls
  have hcl : clsIn K C = some { name := nm, bases := bs, mro := .ref C :: bm, ns := N, qualname := q', hasDict := true, slotNames := sn, subclasses := sub, abstract := ab, collection := col, hasDel := false } := by
    unfold clsIn
    rw [hC] <;> rfl
  have I : InstAt hh e (excO C t0) C none := ⟨he, rfl, rfl, trivial⟩
  have neC : e ≠ C := ks_ne X I hcl
  obtain ⟨of, hf1, hf2⟩ := hf
  obtain ⟨ar, har, har2⟩ := hp
  obtain ⟨oc, vs, file, tf, hc1, hc2, hc3, hc4⟩ := hcode
  unfold sup
  obtain ⟨⟨pl, ev1⟩, ev2⟩ := ev (ksEnv q (scp fl) L fI (.ref cda) cc)
  refine ks_wpAt_Expr_any (ks_wpAt_MethodCall ?_ ev1) rfl ev2
  refine ks_wpAt_super_base (env := ksEnv q (scp fl) L fI (.ref cda) cc) T.kS T.kF rfl rfl hf1 hf2 har rfl hc1 hc2 hc3 hc4 T.top ?_
  refine ks_loadName_global rfl T.kS (loadGlobal_builtin (env := ksEnv q (scp fl) L fI (.ref cda) cc) G hmg B hmb ⟨rfl, ?_⟩)
  refine wpAny_loadName_free rfl T.kF rfl hcell ?_
  rw [har2]
  refine wpAny_loadName_local rfl T.kL hns hv ?_
  refine ks_wpAny_isType_cls (X _ _ hC) rfl ⟨rfl, ?_⟩
  refine ks_wpAny_call_super (X _ _ hC) rfl he rfl (fun c z => by cases z) (looks_mroIn X T.mro) (fun h1 hso k1 => ?_)
  have X1 : K.In h1 := X.keeps k1
  have I1 : InstAt h1 e (excO C t0) C none := ⟨k1 _ _ he, rfl, rfl, trivial⟩
  have hal : alongIn K "__init__" (((Value.ref C :: bm).dropWhile (· != .ref C)).drop 1) = some (some (.builtin "ValueError.__init__")) := by
    have z := T.along
    unfold ks_superIn at z
    rw [hcl] at z
    exact z
  refine kxs_getMethod kxs_ValueError hso (looks_opaque X1 T.any) (l₀ := .ref C :: bm) (fun A Q E s k q => wpAny_bind ((looks_clsIn X1 hcl) A _ E s k (wpAny_pure q))) rfl X1 hal (I1.type.andThen (looks_subIn X1 T.subVE)) neC rfl ?_
  have hu : (h1.push (kxs_mw "ValueError.__init__" e)).get? h1.objs.size = some (kxs_mw "ValueError.__init__" e) := Heap.get?_push_at rfl rfl
  have k2 : ∀ b o, hh.get? b = some o → (h1.push (kxs_mw "ValueError.__init__" e)).get? b = some o := fun b o q => Heap.get?_push_of_some _ (k1 b o q)
  refine kxs_callWith (i := "ValueError.__init__") (x := e) rfl ?_
  refine evalArgs_plain (Calls.spliced_cons (Calls.Constant_str (k := kz) (pos := p3) (Calls.spliced_nil ⟨hu, ?_⟩)))
  refine wpAny_call (codeAny_of_tree ?_)
  show wpAny _ A.in1 (callAny (.ref h1.objs.size) ⟨_, []⟩) _ _ _
  simp only [callAny]
  refine wpAny_bind (wpAny_load hu ?_)
  have c1 : (Value.type "method-wrapper" == Value.type "method" || Value.type "method-wrapper" == Value.type "builtin_function_or_method" || Value.type "method-wrapper" == Value.type "method-wrapper") = true := by decide
  simp only [kxs_mw, c1, if_true]
  refine KFB.if_so (by decide) ?_
  have FB := PySem.F.excBase_ValueError
  refine wpAny_bind (check_bound_init FB.toExcCallFacts (k2 _ _ (X _ _ hC)) (k2 _ _ he) rfl ?_)
  refine wpAny_bind (wpAny_pure (wpAny_pure ⟨plainId_quiet FB.init.plain _, codeAny_builtin FB.initEntry ?_⟩))
  refine exc_init_tree (cls := .ref C) (t0 := t0) (dv := none) (c2 := .none) (c3 := .none) (b4 := .bool false) (k2 _ _ he) (one_size _) fun h2 k3 e2 _ => ?_
  exact hq h2 _ _ (fun b o hb z => k3 b o hb (k2 b o z)) e2
theorem noCell (o : Option Str) : ∀ y ∈ names o, y.2 ≠ .cell := by
  intro y hy
  cases o <;> simp only [names, List.mem_cons, List.not_mem_nil, or_false] at hy
  · rcases hy with rfl | rfl | rfl <;> exact fun z => by cases z
  · rcases hy with rfl | rfl | rfl | rfl <;> exact fun z => by cases z
/-- what an exception is behind its making: its dict (none where it keeps nothing) -/
def fsOf : Option Str → List Value → List (Str × Value)
  | some f, [_, v] => [(f, v)]
  | _, _ => []
theorem err_init0 (T : ErrC P K x none C fI) {s : Shared} {e t0 : Addr} (X : K.In s.heap) (lim : s.heap.NoLimit) (G : s.heap.Ns mainGlobals mg) (hmg : mg "super" = none) (B : s.heap.Ns builtinsNs mb) (hmb : mb "super" = some (.type "super"))
    (he : s.heap.get? e = some (excO C t0)) (hroom : A.depth < recursionLimit)
    (hq : ∀ h' t1 tk, (∀ b o, b ≠ e → s.heap.get? b = some o → h'.get? b = some o) → h'.get? e = some (excO C t1) → R (.ok (.ret .none)) { s with heap := h', toks := tk }) :
    codeAny (model P w) A (.call (.ref fI) ⟨[.ref e], []⟩) R s := by
  obtain ⟨oc, od, doc, pm, an, ct, osl, cc, cda, qual, z, kz, p, p', p0, p1, p2, p3, p4, p5, q1, q2, q3, q4, hf, hcd, ev, bd, ⟨ccl, cdd, vs, ccs, file, tf, hc1, hc2, hc3⟩, cl, cld, csl, hcell⟩ := T.fn
  refine ks_codeAny_call_defAt (binds := [("self", .ref e)]) hroom (X _ _ hf) rfl lim (codeRec_of X hcd) rfl (BindsTo.of_eq (by first | rfl | with_unfolding_all rfl)) (noCell none) (by
    intro y hy
    obtain rfl : y = (("self" : Str), Value.ref e) := by simpa using hy
    exact T.kL) (fun h1 hns k1 => ?_) rfl rfl rfl
  obtain ⟨hh, g, d, t, os⟩ := s
  have X1 : K.In h1 := X.keeps k1
  show _root_.PySem.wpAt _ _ _ (execs (sup z kz p0 p1 p2 p3 p4 p5 :: []) _) _ _ _
  refine ks_wpAt_execs_cons (sup_run (m := fun y => [(("self" : Str), Value.ref e)].reverse.lookup y) T ev X1 (G.keeps k1) hmg (B.keeps k1) hmb (k1 _ _ he) hns (by with_unfolding_all rfl) ⟨_, X1 _ _ hf, rfl⟩ ⟨_, rfl, rfl⟩ ⟨_, vs, file, tf, X1 _ _ hc1, rfl, hc2, hc3⟩ ⟨_, X1 _ _ hcell, rfl⟩ fun h2 t1 tk k2 e2 => ?_)
  exact wpAt_of_wpAny (wpAny_execs_nil (hq h2 t1 tk (fun b o hb z => k2 b o hb (k1 b o z)) e2))
def args1 (f : Str) (v : Value) (e : Value) (byName : Bool) : Args := if byName = true then ⟨[e], [(f, v)]⟩ else ⟨[e, v], []⟩
theorem err_init1 {f : Str} (T : ErrC P K x (some f) C fI) {s : Shared} {e t0 : Addr} {v : Value} {bn : Bool} (X : K.In s.heap) (lim : s.heap.NoLimit) (G : s.heap.Ns mainGlobals mg) (hmg : mg "super" = none) (B : s.heap.Ns builtinsNs mb) (hmb : mb "super" = some (.type "super"))
    (he : s.heap.get? e = some (excO C t0)) (hne : K.lookup e = none) (hroom : A.depth < recursionLimit)
    (hq : ∀ h' t1 tk dx, (∀ b o, b ≠ e → s.heap.get? b = some o → h'.get? b = some o) → h'.get? e = some { cls := .ref C, dict := some dx, data := .fields #[.ref t1, .none, .none, .none, .bool false, .none] } →
      s.heap.objs.size ≤ dx → dx ≠ e → h'.Ns1 dx (fun y => if y = f then some v else none) → R (.ok (.ret .none)) { s with heap := h', toks := tk }) :
    codeAny (model P w) A (.call (.ref fI) (args1 f v (.ref e) bn)) R s := by
  obtain ⟨oc, od, doc, pm, an, ct, osl, cc, cda, qual, z, kz, p, p', p0, p1, p2, p3, p4, p5, q1, q2, q3, q4, hf, hcd, ev, bd, ⟨ccl, cdd, vs, ccs, file, tf, hc1, hc2, hc3⟩, cl, cld, csl, hcell⟩ := T.fn
  obtain ⟨nm, q', N, bs, bm, sn, sub, ab, col, dd, k0, k1, k2, k3, k5, hC, hbm⟩ := T.cls
  have hcl : clsIn K C = some { name := nm, bases := bs, mro := .ref C :: bm, ns := N, qualname := q', hasDict := true, slotNames := sn, subclasses := sub, abstract := ab, collection := col, hasDel := false } := by
    unfold clsIn
    rw [hC] <;> rfl
  obtain ⟨kf1, kf2, kf3⟩ := T.kP f rfl
  have hbd : BindsTo s (ksFn "__init__" qual (pars (some f) p p') (body (some f) z kz p0 p1 p2 p3 p4 p5 q1 q2 q3 q4) (scp (some f)) .none .none doc pm an (.ref cda) ct cc) (args1 f v (.ref e) bn) [("self", .ref e), (f, v)] := by
    cases bn
    · exact BindsTo.of_eq (bd _ _).1
    · exact BindsTo.of_eq (bd _ _).2
  refine ks_codeAny_call_defAt (binds := [("self", .ref e), (f, v)]) hroom (X _ _ hf) rfl lim (codeRec_of X hcd) rfl hbd (noCell (some f)) (by
    intro y hy
    rcases List.mem_cons.mp hy with rfl | hy
    · exact T.kL
    · obtain rfl : y = (f, v) := by simpa using hy
      exact kf1) (fun h1 hns kk => ?_) rfl rfl rfl
  obtain ⟨hh, g, d, t, os⟩ := s
  have X1 : K.In h1 := X.keeps kk
  have nsf : f ≠ ("self" : Str) := by simpa using kf2
  have lf : [(("self" : Str), Value.ref e), (f, v)].reverse.lookup f = some v := by simp [List.lookup]
  have ls : [(("self" : Str), Value.ref e), (f, v)].reverse.lookup ("self" : Str) = some (Value.ref e) := by
    have z : (("self" : Str) == f) = false := by simpa using (Ne.symm nsf)
    simp [List.lookup, z]
  have heL : e ≠ hh.objs.size := Nat.ne_of_lt (Heap.lt_size he)
  show _root_.PySem.wpAt _ _ _ (execs (sup z kz p0 p1 p2 p3 p4 p5 :: [keepS f q1 q2 q3 q4]) _) _ _ _
  refine ks_wpAt_execs_cons (sup_run (m := fun y => [(("self" : Str), Value.ref e), (f, v)].reverse.lookup y) T ev X1 (G.keeps kk) hmg (B.keeps kk) hmb (kk _ _ he) hns ls ⟨_, X1 _ _ hf, rfl⟩ ⟨_, rfl, rfl⟩ ⟨_, vs, file, tf, X1 _ _ hc1, rfl, hc2, hc3⟩ ⟨_, X1 _ _ hcell, rfl⟩ fun h2 t1 tk k4 e2 => ?_)
  have X2 : K.In h2 := fun a o q => k4 a o (fun y => by rw [y, hne] at q; cases q) (X1 a o q)
  obtain ⟨oL, esL, epL, hL, rL⟩ := hns
  have hns2 : h2.Ns hh.objs.size (fun y => [(("self" : Str), Value.ref e), (f, v)].reverse.lookup y) := ⟨oL, esL, epL, k4 _ _ (Ne.symm heL) hL, rL⟩
  refine wpAt_of_wpAny (wpAny_execs_cons (plainObj_wpAny_Assign_Attribute ?_))
  refine wpAny_Name (wpAny_loadName_local rfl kf1 hns2 lf ?_) kf3
  refine wpAny_Name (wpAny_loadName_local rfl T.kL hns2 ls ?_) (by decide)
  refine set_plain X2 (ox := excO C t1) (od := none) ⟨e2, rfl, rfl, trivial⟩ T.sa ?_
  refine exc_osa X2 e2 hcl (show refsVE (.ref C :: bm) = true from hbm) rfl (T.noF f rfl) (fun h3 tk3 dx k5 dn dne hx3 hn3 => ?_)
  have zz : hh.objs.size ≤ dx := Nat.le_trans (Nat.le_of_lt (Heap.lt_size (k4 _ _ (Ne.symm heL) hL))) dn
  exact wpAny_execs_nil (hq h3 t1 tk3 dx (fun b o hb z => k5 b o hb (k4 b o hb (kk b o z))) hx3 zz dne hn3)
end
end Er

set_option maxRecDepth 100000
set_option maxHeartbeats 2000000
namespace Er
open PySem PySem.W PySem.Calls PyProof.Rows PySem.HandSPX
section
variable {P : Program} {w : World} {A : Around} {E : Value → Shared → Prop} {R : Result → Shared → Prop} {h : Heap} {g : Array GenState} {d : Drawn} {t : Nat} {os : OsState}
variable {nm q : Str} {C N : Addr} {bs bm : List Value} {sn : List Str} {sub : List Value} {ab : Bool} {col : Option Bool} {dd : Option Addr} {k0 k1 k2 k3 k5 : Option Value}
/-- the class's own part of the making, with arguments by name -/
theorem newKw {kw : List (Str × Value)} (hbm : refsVE bm = true)
    (hC : h.get? C = some (excClassObj nm q C N bs bm true sn sub ab col dd k0 k1 k2 k3 k5 "ValueError.__new__"))
    (hq : R (.ok (.ret (.ref (h.objs.size + 1)))) ⟨(h.push (kdv_tup [])).push (excO C h.objs.size), g, d, t, os⟩) :
    codeAny (model P w) A (.builtin "ValueError.__new__" ⟨[.ref C], kw⟩) R ⟨h, g, d, t, os⟩ := by
  have FB := PySem.F.excBase_ValueError
  have ends := FB.ends
  have hT := fun Y => refsVE_contains Y bm hbm
  have cB : (Value.ref C :: bm).contains (.type "ValueError") = true := by rw [List.contains_cons, hT, FB.hasB, Bool.or_true]
  have cA : (Value.ref C :: bm).contains (.type "AttributeError") = false := by rw [List.contains_cons, hT, FB.noAttr]; rfl
  have cN : (Value.ref C :: bm).contains (.type "NameError") = false := by rw [List.contains_cons, hT, FB.noName]; rfl
  refine codeAny_builtinAt FB.entry ?_
  unfold Builtin.«BaseException.__new__»
  refine _root_.PySem.wpAt_bind ?_
  refine _root_.PySem.wpAt_bind (_root_.PySem.wpAt_stack fun p below => _root_.PySem.wpAt_of_wpAny ?_)
  wp_walk
  refine _root_.PySem.wpAt_of_wpAny ?_
  rw [FB.owner]
  repeat (first | with_reducible refine wpAny_madeHere_exc FB.canon hC ?_ | with_reducible refine wpAny_loadPart_at hC ?_ | (with_reducible refine wpAny_isSubtype_exc hC ?_; first | rw [cB] | rw [cA] | rw [cN]) | wp_step)
  rw [Heap.size_push]
  exact hq
theorem checkKw {kw : List (Str × Value)} {M : Model} {Q : Unit → Shared → Prop} (hbm : refsVE bm = true)
    (hC : h.get? C = some (excClassObj nm q C N bs bm true sn sub ab col dd k0 k1 k2 k3 k5 "ValueError.__new__")) (hq : Q () ⟨h, g, d, t, os⟩) :
    wpAny M A (checkBuiltinCall "ValueError.__new__" ⟨[.ref C], kw⟩) Q E ⟨h, g, d, t, os⟩ := by
  have FB := PySem.F.excBase_ValueError
  have cB : (Value.ref C :: bm).contains (.type "ValueError") = true := by rw [List.contains_cons, refsVE_contains "ValueError" bm hbm, FB.hasB, Bool.or_true]
  have st := FB.noStar
  simp only [checkBuiltinCall, FB.newKind, FB.newSplit, FB.newRow]
  repeat (first
    | refine wpAny_loadPart_at hC ?_
    | (refine wpAny_isSubtype_exc hC ?_; rw [cB])
    | refine wpAny_staticBase_exc hC ?_
    | refine wpAny_madeBy_exc hC ?_
    | simp only [bne_self_eq_false, Bool.false_eq_true, if_false]
    | wp_step)
  exact hq
theorem typeKw {kw : List (Str × Value)} {fI : Addr} {Q : Fin → Shared → Prop} (hbm : refsVE bm = true)
    (hC : h.get? C = some (excClassObj nm q C N bs bm true sn sub ab col dd k0 k1 k2 k3 k5 "ValueError.__new__"))
    (hi : Looks (model P w) h (typeLookup (.ref C) "__init__") (some (.ref fI))) (hb : ∀ self, Looks (model P w) h (bindSpecial (.ref fI) self) (.ref fI, [self]))
    (hq : codeAny (model P w) A (.call (.ref fI) ⟨[.ref (h.objs.size + 1)], kw⟩)
      (fun r s' => match r with | .ok (.ret v) => v = .none ∧ Q (.done (.ret (.ref (h.objs.size + 1)))) s' | .ok _ => False | .error e => E e s')
      ⟨(h.push (kdv_tup [])).push (excO C h.objs.size), g, d, t, os⟩) :
    wpAny (model P w) A (Builtin.«type.__call__» ⟨[.ref C], kw⟩) Q E ⟨h, g, d, t, os⟩ := by
  have FB := PySem.F.excBase_ValueError
  repeat (first | with_reducible refine wpAny_loadPart_at hC ?_ | with_reducible refine wpAny_madeBy_exc hC ?_ | wp_step)
  refine codeAny_call_builtin_code (Code.quiet_builtin _ FB.quiet) (checkKw hbm hC (newKw hbm hC ?_))
  have kk : ∀ b o, h.get? b = some o → ((h.push (kdv_tup [])).push (excO C h.objs.size)).get? b = some o := fun b o z => Heap.get?_push_of_some _ (Heap.get?_push_of_some _ z)
  have e1 : ((h.push (kdv_tup [])).push (excO C h.objs.size)).get? (h.objs.size + 1) = some (excO C h.objs.size) := by heap_get
  have cC : (Value.ref C :: bm).contains (.ref C) = true := by simp
  show wpAny _ _ _ _ _ _
  unfold isInstance
  repeat (first
    | with_reducible refine wpAny_loadPart_at e1 ?_
    | (with_reducible refine wpAny_isSubtype_exc (kk _ _ hC) ?_; rw [cC])
    | wp_step)
  show wpAny _ _ (typeLookup (.ref C) _) _ _ _
  refine (hi.keeps kk).at (wpAny_holding (wpAny_bind (((hb (.ref (h.objs.size + 1))).keeps kk).at ?_)))
  refine wpAny_bind (wpAny_call (codeAny_mono hq fun r s' z => ?_))
  cases r with
  | error e => exact z
  | ok fl =>
    cases fl with
    | ret v =>
      obtain ⟨rfl, z⟩ := z
      first
        | exact wpAny_pure (wpAny_pure z)
        | (wp_walk; exact z)
    | next => exact z.elim
    | brk => exact z.elim
    | cont => exact z.elim
theorem callKw {kw : List (Str × Value)} {fI : Addr} (hbm : refsVE bm = true)
    (hC : h.get? C = some (excClassObj nm q C N bs bm true sn sub ab col dd k0 k1 k2 k3 k5 "ValueError.__new__"))
    (hi : Looks (model P w) h (typeLookup (.ref C) "__init__") (some (.ref fI))) (hb : ∀ self, Looks (model P w) h (bindSpecial (.ref fI) self) (.ref fI, [self]))
    (hq : codeAny (model P w) (A.under (.builtin "type.__call__" ⟨[.ref C], kw⟩)) (.call (.ref fI) ⟨[.ref (h.objs.size + 1)], kw⟩) (InitBack (h.objs.size + 1) R)
      ⟨(h.push (kdv_tup [])).push (excO C h.objs.size), g, d, t, os⟩) :
    codeAny (model P w) A (.call (.ref C) ⟨[], kw⟩) R ⟨h, g, d, t, os⟩ := by
  have f1 := tc_lookup
  have f2 := tc_bind (.ref C)
  have ty : (⟨h, g, d, t, os⟩ : Shared).TypeIs (.ref C) "type" := ⟨_, hC, rfl⟩
  refine codeAny_of_tree ?_
  show wpAny _ _ (callAny (.ref C) _) _ _ _
  repeat (any_goals (first | assumption | with_reducible refine wpAny_loadPart_at hC ?_ | wp_step))
  refine ⟨rfl, codeAny_call_builtin_at (Code.quiet_builtin _ (by decide +kernel)) entry_typeCall (wpAny_check_type_call_sub hC (typeKw hbm hC hi hb ?_))⟩
  refine codeAny_mono hq fun r s' z => ?_
  rcases r with e | (v | _ | _ | _) <;> exact z
end
end Er

set_option maxRecDepth 100000
set_option maxHeartbeats 2000000
/-! A promise of a def that is called where no guard stands (so that repr may be asked in it). -/
namespace Gd
open PySem L2 PySem.Spec PyProof.Rows
structure FnG (P : Program) (w : World) (K : PySem.W.Frag) (mg : Str → Option Value) (base : Heap) (CX : CXT) (k : Nat) (f : Addr) (fd : FuncData) (ps : List Str) (sp : Sp) : Prop where
  len : ∀ vs H Q E, sp vs H Q E → vs.length = ps.length
  go : ∀ (A : Around) (outer : List Env) (s : Shared) (H : Hp) (args : Args) (us : List Value) (vs : List V) (Q : VK) (E : XK),
    A.guards = some [] → Room k A → Env0 P w K mg base A outer s H → BindsTo s fd args (ps.zip us) → Vals vs us →
    sp vs H Q E → codeAny (model P w) A (.call (.ref f) args) (CR CX outer P w H s Q E) s
section
variable {P : Program} {w : World} {K : PySem.W.Frag} {mg : Str → Option Value} {base : Heap} {CX : CXT} {k : Nat} {f : Addr} {fd : FuncData} {ps : List Str} {sp : Sp}
theorem FnG.of (F : FnOk P w K mg base CX k f fd ps sp) : FnG P w K mg base CX k f fd ps sp := ⟨F.len, fun A o s H a us vs Q E _ => F.run A o s H a us vs Q E⟩
theorem FnG.weaker {sp' : Sp} (F : FnG P w K mg base CX k f fd ps sp) (h : ∀ vs H Q E, sp' vs H Q E → sp vs H Q E) : FnG P w K mg base CX k f fd ps sp' :=
  ⟨fun vs H Q E q => F.len vs H Q E (h _ _ _ _ q), fun A o s H a us vs Q E g r e b v q => F.go A o s H a us vs Q E g r e b v (h _ _ _ _ q)⟩
theorem okG {x qual : Str} {st : Stmt} {N : List Str} (F : Fun K x qual st f fd) (S : FnScope N ps (defScope st)) (len : ∀ vs H Q E, sp vs H Q E → vs.length = ps.length)
    (body : ∀ (cdv : Value) (A : Around) (outer : List Env) (s : Shared) (H : Hp) (vs : List V) (Q : VK) (E : XK), A.guards = some [] →
      Room k (A.deeper (envOfC qual (defScope st) s.heap.objs.size f cdv)) → sp vs H Q E →
      ∃ t, PSs (cxOf CX P w K mg base N qual (defScope st) f cdv A outer s H E).nox (defBody st) t ∧ t { nx := fun _ H' => Q .non H', rt := Q } (start N vs) H) :
    FnG P w K mg base CX (k + 1) f fd ps sp := by
  obtain ⟨oc, od, kV, doc, pm, an, cdv, ct, osl, rfl, lk, hcd⟩ := F.ex
  constructor
  · exact len
  · intro A outer s H args us vs Q E hg hr e0 hb r hsp
    have nl := len _ _ _ _ hsp
    have kb : ∀ b o, base.get? b = some o → s.heap.get? b = some o := fun b o z => (e0.bs b o z).1
    have KX : K.In s.heap := e0.mod.kin.keeps kb
    have kinds : ∀ y ∈ ps.zip us, (defScope st).names.lookup y.1 = some .local ∨ ((defScope st).names.lookup y.1 = some .cell ∧ ((cellsFrom (s.heap.objs.size + 1) (defScope st).names []).lookup y.1).isSome = true) := by
      rintro ⟨n, v⟩ hy
      cases S.par n (List.of_mem_zip hy).1 with
      | inl q => exact Or.inl q
      | inr q => exact Or.inr ⟨q, PySem.W.cellsFrom_some _ _ _ (Or.inl q)⟩
    refine codeAny_call_function hr.depth (KX _ _ lk) rfl S.co S.gen rfl (PySem.W.codeRec_of KX hcd) (hb _ _ _ _ (wpAny_newFunctionEnv_cells S.kind kinds fun env he s1 x => ?_))
    subst he
    obtain ⟨t, ht, hq⟩ := body cdv A outer s H vs Q E hg (hr.deeper _) hsp
    refine ⟨(e0.mod.nolimit.keeps kb).keeps x.toInCall.keep, codeAny_func ?_⟩
    refine wpAny_mono (ht.nox.run [] s1 (start N vs) H _ (inv_start S hr.hd e0 nl r x) hq) (fun fl s' hs => ?_) fun e s' hs => hs
    cases fl with
    | ret u =>
      obtain ⟨v, σ', H', J, rv, q⟩ := hs
      exact ⟨v, H', J.os, J.bare, J.base, J.hok, rv, q⟩
    | next =>
      obtain ⟨σ', H', J, q⟩ := hs
      exact ⟨V.non, H', J.os, J.bare, J.base, J.hok, rfl, q⟩
    | brk => exact hs.choose_spec.choose_spec.2.elim
    | cont => exact hs.choose_spec.choose_spec.2.elim
end
section
variable {X : Cx} {CX : CXT} {k : Nat} {f : Addr} {fd : FuncData} {ps : List Str} {sp : Sp} {dvs : List V} {ds : List Value} {E : XK} {x : Str} {p pos : Pos} {e : Expr} {es : List Expr} {t : TA}
theorem runG {pins : List (Addr × Obj)} {σ : L2.St} {H : Hp} {s : Shared} {Q : VK} {us : List Value} {vs : List V} (F : FnG X.prog X.w X.K X.mg X.base CX k f fd ps sp) (hg : X.A.guards = some []) (hr : Room k X.A)
    (hb : L2.Binds X.K fd ps ds) (hd : Vals dvs ds) (hx : Passes CX X E) (I : Inv X pins σ H s) (r : Vals vs us) (h : sp (vs ++ dvs) H Q E) :
    wpAny (model X.prog X.w) X.A (call (.ref f) us) (EP X pins σ Q) X.xe s := by
  have r2 := r.append hd
  have nl : (us ++ ds).length = ps.length := r2.length.symm.trans (F.len _ _ _ _ h)
  refine wpAny_call (codeAny_mono (F.go X.A X.stack s H ⟨us, []⟩ _ _ Q E hg hr I.env0 (hb s us I.kIn nl) r2 h) ?_)
  intro r s' hq
  cases r with
  | error er => exact hx pins σ H s er s' I hq
  | ok fl => cases fl <;> first | exact I.after hq | exact False.elim hq
/-- f(e, ..) where f's promise asks that no guard stands -/
theorem pe_callG (F : FnG X.prog X.w X.K X.mg X.base CX k f fd ps sp) (hgd : X.A.guards = some []) (hr : Room k X.A) (hg : Gl X x) (hm : X.mg x = some (.ref f)) (hk : PySem.W.keepIn X.K (.ref f) = true)
    (hb : L2.Binds X.K fd ps ds) (hd : Vals dvs ds) (hx : Passes CX X E) (ha : PA X (e :: es) t)
    (hdb : (x == ("__debug__" : Str)) = false := by decide) (he : starEach (e :: es) X.env = (false, eval e X.env) :: starEach es X.env := by rfl) (hpl : (backTo pos (starEach es X.env)).any (·.1) = false := by rfl) :
    PE X (.Call (.Name x p) (e :: es) [] pos) (tCall sp dvs E t) := by
  constructor
  intro pins s σ H Q I h
  refine wpAny_Call_Name_kw (ld_glob I hg hm ?_ hdb)
  refine PySem.W.callWith_K (h₀ := X.base) I.ok.mod.kin hk (thn (ha.run pos pins s σ H _ I h) ?_) he hpl
  rintro us s1 ⟨vs, H1, I1, r, q⟩
  exact ⟨I1.kIn, runG F hgd hr hb hd hx I1 r q⟩
end
/-! ### repr of data -/
section
variable {X : Cx}
/-- repr(v): v is data d -/
def rRepr (K : PySem.W.Frag) : List V → Hp → VK → Prop := fun xs H Q => ∃ (v : V) (d : PyData), xs = [v] ∧ Dp K H v d ∧ d.showable = true ∧ d.hasDict = false ∧ d.shown.length ≤ sizeLine ∧ d.depth ≤ 60 ∧ Q (.str d.shown) H
theorem call_reprD (hg : X.A.guards = some []) (hu : X.A.units + 70 < cLine) : CallR X (.builtin "repr") (rRepr X.K) := by
  intro pins s σ H xs us Q I r h
  obtain ⟨v, d, rfl, hd, hs, hn, hz, hdp, q⟩ := h
  obtain ⟨u, rfl, ru⟩ := vals1 r
  cases hd with
  | non =>
    cases ru
    rw [PyData.shown_none] at q
    exact PySem.P.repr_of_none ⟨.str _, H, I.tok _, ⟨_, rfl⟩, q⟩
  | bl b =>
    cases ru
    rw [PyData.shown_bool] at q
    exact PySem.P.repr_of_bool ⟨.str _, H, I.tok _, ⟨_, rfl⟩, q⟩
  | int i =>
    obtain ⟨t, rfl⟩ := ru
    rw [PyData.shown_int] at q
    exact PySem.P.repr_of_int (by simpa [PyData.showable] using hs) ⟨.str _, H, I.tok _, ⟨_, rfl⟩, q⟩
  | str z =>
    obtain ⟨t, rfl⟩ := ru
    rw [PyData.shown_str] at q hz
    exact PySem.P.repr_of_str ⟨.str _, H, I.tok _, ⟨_, rfl⟩, q⟩
  | @lst a xs ds h1 h2 =>
    obtain rfl : u = Value.ref a := ru
    obtain ⟨as, rd⟩ := Dp.reads I _ _ _ (Dp.lst h1 h2) (rfl : RelV (.ref a) (.ref a))
    exact PySem.repr_of_reads' rd hs (fun z => by rw [hn] at z; cases z) hg (by omega) (fun _ _ e => e) (fun h' u tk k => ⟨.str _, H, I.kept (t' := tk) k, ⟨_, rfl⟩, q⟩) hz
  | @tup a xs ds h1 h2 =>
    obtain rfl : u = Value.ref a := ru
    obtain ⟨as, rd⟩ := Dp.reads I _ _ _ (Dp.tup h1 h2) (rfl : RelV (.ref a) (.ref a))
    exact PySem.repr_of_reads' rd hs (fun z => by rw [hn] at z; cases z) hg (by omega) (fun _ _ e => e) (fun h' u tk k => ⟨.str _, H, I.kept (t' := tk) k, ⟨_, rfl⟩, q⟩) hz
end
end Gd

set_option maxRecDepth 100000
set_option maxHeartbeats 2000000
namespace Er
open PySem PySem.Spec PyProof.Rows L2
section
variable {X : Cx} {pins : List (Addr × Obj)} {σ : L2.St} {H : Hp} {s : Shared}
/-- two new objects, tracked -/
theorem laid2 {h' : Heap} {a b : Addr} {oa ob : HO} {t' : Nat} (I : Inv X pins σ H s) (k : ∀ c u, s.heap.get? c = some u → h'.get? c = some u) (ha : s.heap.objs.size ≤ a) (hb : s.heap.objs.size ≤ b)
    (na : ObjOk X.prog X.w (upd (upd H b ob) a oa) h' a oa) (nb : a ≠ b → ObjOk X.prog X.w (upd (upd H b ob) a oa) h' b ob) : Inv X pins σ (upd (upd H b ob) a oa) { s with heap := h', toks := t' } := by
  have fa : H a = none := I.hok.fresh ha
  have fb : H b = none := I.hok.fresh hb
  have ne : ∀ {c u}, H c = some u → c ≠ a ∧ c ≠ b := fun {c u} q => ⟨ne_of_none q fa, ne_of_none q fb⟩
  have nh : ∀ {c u}, s.heap.get? c = some u → c ≠ a ∧ c ≠ b := fun {c u} q => ⟨Nat.ne_of_lt (Nat.lt_of_lt_of_le (Heap.lt_size q) ha), Nat.ne_of_lt (Nat.lt_of_lt_of_le (Heap.lt_size q) hb)⟩
  have up : ∀ {c}, c ≠ a → c ≠ b → upd (upd H b ob) a oa c = H c := fun {c} h1 h2 => by rw [upd_ne h1, upd_ne h2]
  refine I.un ⟨fun c u q _ _ _ => k c u q, fun c u q _ _ _ => ⟨u.slots, k c u q⟩, fun c u q n _ => by rw [up (nh q).1 (nh q).2]; exact n, fun c u q _ => ⟨u, k c u q⟩,
    fun c xs q => by rw [up (ne q).1 (ne q).2]; exact q, fun c o u q => by rw [up (ne q).1 (ne q).2]; exact q, fun c ps q => ⟨#[], by rw [up (ne q).1 (ne q).2, q]; simp⟩⟩ ?_
  intro c u q
  by_cases h1 : c = a
  · subst h1
    rw [upd_same] at q
    cases q
    exact na
  · by_cases h2 : c = b
    · subst h2
      rw [upd_ne h1, upd_same] at q
      cases q
      exact nb (Ne.symm h1)
    · rw [up h1 h2] at q
      exact (I.hok c u q).stay (fun e v _ z => k e v z) (fun e z => by rw [up (ne z).1 (ne z).2]; exact z) fun e xs z => by rw [up (ne z).1 (ne z).2]; exact z
end
section
variable {X : Cx} {x f : Str} {C fI : Addr} {k : Nat} {e : Expr} {te : TE} {p pos kp : Pos}
/-- what the world about says of the name super -/
structure SupOk (X : Cx) : Prop where
  mg : X.mg "super" = none
theorem facts {pins : List (Addr × Obj)} {σ : L2.St} {H : Hp} {s : Shared} (I : Inv X pins σ H s) : s.heap.NoLimit ∧ s.heap.Ns mainGlobals X.mg ∧ ∃ mb, s.heap.Ns builtinsNs mb ∧ mb "super" = some (.type "super") := by
  obtain ⟨mb, b1, b2⟩ := I.mod.blt
  exact ⟨I.mod.nolimit.keeps I.bk, I.mod.glob.keeps I.bk, mb, b1.keeps I.bk, (b2 _ (by decide +kernel)).trans (by decide +kernel)⟩
/-- C() as a value -/
def tErr0 (C : Addr) : TE := fun σ H Q => ∀ a, H a = none → Q (.ref a) (upd H a (exo a C none))
/-- C(e) as a value -/
def tErr1 (C : Addr) (f : Str) (te : TE) : TE := fun σ H Q => te σ H fun v H1 => ∀ a d, H1 a = none → H1 d = none → d ≠ a → Q (.ref a) (upd (upd H1 d (exd d [(f, v)])) a (exo a C (some d)))
theorem pe_err0 (T : ErrC X.prog X.K x none C fI) (S : X.mg "super" = none) (hr : Room k X.A) (hg : Gl X x) (hm : X.mg x = some (.ref C)) (hdb : (x == ("__debug__" : Str)) = false := by decide) :
    PE X (.Call (.Name x p) [] [] pos) (tErr0 C) := by
  constructor
  intro pins s σ H Q I h
  refine wpAny_Call_Name_kw (ld_glob I hg hm ?_ hdb)
  refine PySem.W.callWith_K0 I.kIn T.kC ?_
  show wpAny _ _ (call (.ref C) []) _ _ _
  obtain ⟨nm, q, N, bs, bm, sn, sub, ab, col, dd, k0, k1, k2, k3, k5, hC, hbm⟩ := T.cls
  obtain ⟨lim, G, mb, B, hmb⟩ := facts I
  obtain ⟨hp, g, dr, tk, os⟩ := s
  have X0 : X.K.In hp := I.kIn
  have kk : ∀ b o, hp.get? b = some o → ((hp.push (PySem.W.kdv_tup [])).push (PySem.HandSPX.excO C hp.objs.size)).get? b = some o := fun b o z => Heap.get?_push_of_some _ (Heap.get?_push_of_some _ z)
  have e1 : ((hp.push (PySem.W.kdv_tup [])).push (PySem.HandSPX.excO C hp.objs.size)).get? (hp.objs.size + 1) = some (PySem.HandSPX.excO C hp.objs.size) := by heap_get
  refine wpAny_call (callKw hbm (X0 _ _ hC) (PySem.W.looks_findIn X0 T.iC) (fun self => PySem.W.bind_fn X0 self T.tI) ?_)
  refine err_init0 (s := ⟨(hp.push (PySem.W.kdv_tup [])).push (PySem.HandSPX.excO C hp.objs.size), g, dr, tk, os⟩) T (X0.keeps kk) (lim.keeps kk) (G.keeps kk) S (B.keeps kk) hmb e1 ?_ ?_
  · have := hr.dp
    show X.A.depth + 1 < recursionLimit
    omega
  · intro h' t1 tk' k' e'
    have hn : H (hp.objs.size + 1) = none := I.hok.fresh (Nat.le_succ _)
    refine ⟨rfl, .ref (hp.objs.size + 1), upd H (hp.objs.size + 1) (exo (hp.objs.size + 1) C none), ?_, rfl, h _ hn⟩
    exact I.laid (t' := tk') (fun b o z => k' b o (Nat.ne_of_lt (Nat.lt_succ_of_lt (Heap.lt_size z))) (kk b o z)) (Nat.le_succ _) (exo_ok e')
theorem vals_one {v : V} {us : List Value} (r : Vals [v] us) : ∃ u, us = [u] ∧ RelV v u := by
  cases r with
  | cons a b => cases b; exact ⟨_, rfl, a⟩
/-- the making itself, behind the argument's reading -/
theorem make1 (T : ErrC X.prog X.K x (some f) C fI) (S : X.mg "super" = none) (hr : Room k X.A) (bn : Bool) {pins : List (Addr × Obj)} {σ : L2.St} {H1 : Hp} {s1 : Shared} {v : V} {u : Value} {Q : VK} (I1 : Inv X pins σ H1 s1) (ru : RelV v u)
    (q : ∀ a d, H1 a = none → H1 d = none → d ≠ a → Q (.ref a) (upd (upd H1 d (exd d [(f, v)])) a (exo a C (some d)))) :
    wpAny (model X.prog X.w) X.A (call (.ref C) (if bn = true then [] else [u]) (if bn = true then [(f, u)] else [])) (EP X pins σ Q) X.xe s1 := by
  obtain ⟨nm, qn, N, bs, bm, sn, sub, ab, col, dd, k0, k1, k2, k3, k5, hC, hbm⟩ := T.cls
  obtain ⟨lim, G, mb, B, hmb⟩ := facts I1
  obtain ⟨hp, g, dr, tk, os⟩ := s1
  have X0 : X.K.In hp := I1.kIn
  have fin : ∀ l : List Value, ∀ A' : Around, A'.depth < recursionLimit → ∀ R : Result → Shared → Prop, (∀ h' tk', (∃ w' H', Inv X pins σ H' ⟨h', g, dr, tk', os⟩ ∧ RelV w' (.ref (hp.objs.size + 1)) ∧ Q w' H') → R (.ok (.ret .none)) ⟨h', g, dr, tk', os⟩) →
      codeAny (model X.prog X.w) A' (.call (.ref fI) (args1 f u (.ref (hp.objs.size + 1)) bn)) R ⟨(hp.push (PySem.W.kdv_tup l)).push (PySem.HandSPX.excO C hp.objs.size), g, dr, tk, os⟩ := by
    intro l A' hA R hR
    have kk : ∀ b o, hp.get? b = some o → ((hp.push (PySem.W.kdv_tup l)).push (PySem.HandSPX.excO C hp.objs.size)).get? b = some o := fun b o z => Heap.get?_push_of_some _ (Heap.get?_push_of_some _ z)
    have e1 : ((hp.push (PySem.W.kdv_tup l)).push (PySem.HandSPX.excO C hp.objs.size)).get? (hp.objs.size + 1) = some (PySem.HandSPX.excO C hp.objs.size) := by heap_get
    have hne : X.K.lookup (hp.objs.size + 1) = none := by
      cases z : X.K.lookup (hp.objs.size + 1) with
      | none => rfl
      | some o => exact absurd (Nat.lt_of_succ_lt (Heap.lt_size (X0 _ _ z))) (Nat.lt_irrefl _)
    refine err_init1 (s := ⟨(hp.push (PySem.W.kdv_tup l)).push (PySem.HandSPX.excO C hp.objs.size), g, dr, tk, os⟩) T (X0.keeps kk) (lim.keeps kk) (G.keeps kk) S (B.keeps kk) hmb e1 hne hA ?_
    intro h' t1 tk' dx k' e' dn dne hns
    have dn' : hp.objs.size ≤ dx := by
      have z : hp.objs.size ≤ ((hp.push (PySem.W.kdv_tup l)).push (PySem.HandSPX.excO C hp.objs.size)).objs.size := by
        rw [Heap.size_push, Heap.size_push]
        omega
      exact Nat.le_trans z dn
    have fa : H1 (hp.objs.size + 1) = none := I1.hok.fresh (Nat.le_succ _)
    have fd : H1 dx = none := I1.hok.fresh dn'
    refine hR h' tk' ⟨.ref (hp.objs.size + 1), _, ?_, rfl, q _ dx fa fd dne⟩
    refine laid2 (t' := tk') I1 (fun b o z => k' b o (Nat.ne_of_lt (Nat.lt_succ_of_lt (Heap.lt_size z))) (kk b o z)) (Nat.le_succ _) dn' (exo_ok e') fun _ => exd_ok hns fun y => ?_
    exact relO_put (fs := []) (mA := fun _ => none) ru (fun _ => True.intro) y
  cases bn with
  | false =>
    refine wpAny_call (PySem.HandSPX.call_own (rest := [u]) F.excBase_ValueError (fun Y => PySem.HandSPX.refsVE_contains Y bm hbm) (X0 _ _ hC) (PySem.W.looks_findIn X0 T.iC) (fun self => PySem.W.bind_fn X0 self T.tI) (one_size u) ?_)
    refine fin [u] _ ?_ _ fun h' tk' hh => ⟨rfl, hh⟩
    have := hr.dp
    show X.A.depth + 1 < recursionLimit
    omega
  | true =>
    refine wpAny_call (callKw hbm (X0 _ _ hC) (PySem.W.looks_findIn X0 T.iC) (fun self => PySem.W.bind_fn X0 self T.tI) ?_)
    refine fin [] _ ?_ _ fun h' tk' hh => ⟨rfl, hh⟩
    have := hr.dp
    show X.A.depth + 1 < recursionLimit
    omega
theorem pe_err1 (T : ErrC X.prog X.K x (some f) C fI) (S : X.mg "super" = none) (hr : Room k X.A) (hg : Gl X x) (hm : X.mg x = some (.ref C)) (he : PE X e te) (hdb : (x == ("__debug__" : Str)) = false := by decide)
    (hs : starEach [e] X.env = (false, eval e X.env) :: starEach [] X.env := by rfl) : PE X (.Call (.Name x p) [e] [] pos) (tErr1 C f te) := by
  constructor
  intro pins s σ H Q I h
  refine wpAny_Call_Name_kw (ld_glob I hg hm (PySem.W.callWith_K (h₀ := X.base) I.ok.mod.kin T.kC ?_ hs (by rfl)) hdb)
  rw [hs]
  refine Calls.spliced_cons (thn (he.run pins s σ H _ I h) ?_)
  rintro u s1 ⟨v, H1, I1, r1, q1⟩
  exact Calls.spliced_nil ⟨I1.kIn, make1 T S hr false I1 r1 q1⟩
/-- C(f=e) -/
theorem pe_err1k (T : ErrC X.prog X.K x (some f) C fI) (S : X.mg "super" = none) (hr : Room k X.A) (hg : Gl X x) (hm : X.mg x = some (.ref C)) (he : PE X e te) (hdb : (x == ("__debug__" : Str)) = false := by decide)
    (hall : (backToKw pos (keywordEach [⟨some f, e, kp⟩] X.env)).all (·.1.isSome) = true := by rfl) (hks : (backToKw pos (keywordEach [⟨some f, e, kp⟩] X.env)).filterMap (·.1) = [f] := by rfl)
    (hpl : ((backTo pos (starEach [] X.env)).any (·.1) || (backToKw pos (keywordEach [⟨some f, e, kp⟩] X.env)).any (·.1.isNone)) = false := by rfl) :
    PE X (.Call (.Name x p) [] [⟨some f, e, kp⟩] pos) (tErr1 C f te) := by
  constructor
  intro pins s σ H Q I h
  refine wpAny_Call_Name_kw (ld_glob I hg hm (PySem.W.callWith_KW0 (h₀ := X.base) I.ok.mod.kin T.kC hall ?_ hpl) hdb)
  show wpAny _ _ (evalAll ((do let v ← eval e X.env; standAt pos; pure v) :: [])) _ _ s
  refine wpAny_evalAll_cons (wpAny_bind (thn (he.run pins s σ H _ I h) ?_))
  rintro u s1 ⟨v, H1, I1, r1, q1⟩
  refine wpAny_bind (wpAny_standAt (wpAny_pure (wpAny_evalAll_nil ⟨I1.kIn, ?_⟩)))
  rw [hks]
  exact make1 T S hr true I1 r1 q1
/-- e.n of a made error -/
def tErrF (K : PySem.W.Frag) (n : Str) (te : TE) : TE := fun σ H Q => te σ H fun y H1 => ∃ (a C d : Addr) (fs : List (Str × V)) (v : V), y = .ref a ∧ XfC K C ∧ PySem.W.findIn K (.ref C) n = some none ∧
  H1 a = some (exo a C (some d)) ∧ H1 d = some (exd d fs) ∧ fs.lookup n = some v ∧ Q v H1
theorem pe_errF {n : Str} (he : PE X e te) (hb : attributeBase e n X.env (eval e X.env) = eval e X.env := by rfl) : PE X (.Attribute e n pos) (tErrF X.K n te) := by
  constructor
  intro pins s σ H Q I h
  refine attr_of hb (thn (he.run pins s σ H _ I h) ?_)
  rintro u s1 ⟨y, H1, I1, rx, a, C, d, fs, v, rfl, T, hno, ea, ed, l, q⟩
  obtain rfl : u = Value.ref a := rx
  obtain ⟨t1, ho⟩ := exo_at I1.hok ea
  obtain ⟨mA, hns, hr⟩ := exd_at I1.hok ed
  obtain ⟨od, hod, hl⟩ := lookIn_ns hns
  obtain ⟨u, hu, ru⟩ := RelO.some_of (v := v) (o := mA n) (by rw [← l]; exact hr n)
  have J : PySem.W.InstAt s1.heap a _ C (some od) := ⟨ho, rfl, rfl, hod⟩
  exact HandSPX.exc_get I1.kIn J T.ga T.gg T.exC (PySem.W.findObj_own T.hdC hno rfl (by rw [hl, hu])) (handed_of ru) ⟨v, H1, I1.tok _, ru, q⟩
/-- isinstance(a made error, c) -/
def rIsErr (K : PySem.W.Frag) : List V → Hp → VK → Prop := fun xs H Q => ∃ (a C : Addr) (d : Option Addr) (c : V) (cv : Value) (b : Bool), xs = [.ref a, c] ∧ ExcC K C ∧ (PySem.W.clsIn K C).isSome = true ∧ H a = some (exo a C d) ∧
  (∀ dd, d = some dd → ∃ fs, H dd = some (exd dd fs)) ∧ (∀ u, RelV c u → u = cv) ∧ PySem.W.kitOne K (.ref C) cv = some b ∧ Q (.bl b) H
theorem call_isErr : CallR X (.builtin "isinstance") (rIsErr X.K) := by
  intro pins s σ H xs us Q I r h
  obtain ⟨a, C, d, c, cv, b, rfl, T, hcl, ea, ed, hcv, ek, q⟩ := h
  cases r with
  | cons rx rr =>
    cases rr with
    | cons rt rr =>
      cases rr
      cases rx
      obtain rfl := hcv _ rt
      obtain ⟨t1, ho⟩ := exo_at I.hok ea
      have J : ∃ od, PySem.W.InstAt s.heap a { cls := .ref C, dict := d, data := .fields #[.ref t1, .none, .none, .none, .bool false, .none] } C od := by
        cases d with
        | none => exact ⟨none, ho, rfl, rfl, trivial⟩
        | some dd =>
          obtain ⟨fs, e2⟩ := ed dd rfl
          obtain ⟨mA, hns, _⟩ := exd_at I.hok e2
          obtain ⟨od, hod, _⟩ := lookIn_ns hns
          exact ⟨some od, ho, rfl, rfl, hod⟩
      obtain ⟨od, J⟩ := J
      exact PySem.W.kia_one (PySem.W.kitx_exc hcl T.hg T.hk T.hs T.ha T.hn T.ht T.hm) I.kIn J ek (fun z => nomatch z) fun tk => ⟨.bl b, H, I.kept (t' := tk) fun _ _ z => z, rfl, q⟩
end
end Er

set_option maxRecDepth 100000
set_option maxHeartbeats 2000000
/-! Own errors (super().__init__('..')) raised. -/
namespace Er
open PySem PySem.Spec PyProof.Rows L2
section
variable {X : Cx} {x f : Str} {C fI : Addr} {k : Nat} {e : Expr} {te : TE} {p pos kp : Pos}
theorem pmk_err0 (T : ErrC X.prog X.K x none C fI) (S : X.mg "super" = none) (hr : Room k X.A) (rC : Raises X (.ref C)) (hm : X.mg x = some (.ref C)) (hg : Gl X x := by rfl) (hdb : (x == ("__debug__" : Str)) = false := by decide) :
    PMk X (.Call (.Name x p) [] [] pos) (fun σ H Q => Q (.ref C) none H) := by
  intro pins s σ H Q I h
  refine wpAny_Call_Name_kw (ld_glob I hg hm (PySem.W.callWith_K0 I.kIn T.kC ?_) hdb)
  show wpAny _ _ (call (.ref C) []) _ _ _
  obtain ⟨nm, q, N, bs, bm, sn, sub, ab, col, dd, k0, k1, k2, k3, k5, hC, hbm⟩ := T.cls
  obtain ⟨lim, G, mb, B, hmb⟩ := facts I
  obtain ⟨hp, g, dr, tk, os⟩ := s
  have X0 : X.K.In hp := I.kIn
  have kk : ∀ b o, hp.get? b = some o → ((hp.push (PySem.W.kdv_tup [])).push (PySem.HandSPX.excO C hp.objs.size)).get? b = some o := fun b o z => Heap.get?_push_of_some _ (Heap.get?_push_of_some _ z)
  have e1 : ((hp.push (PySem.W.kdv_tup [])).push (PySem.HandSPX.excO C hp.objs.size)).get? (hp.objs.size + 1) = some (PySem.HandSPX.excO C hp.objs.size) := by heap_get
  refine wpAny_call (callKw hbm (X0 _ _ hC) (PySem.W.looks_findIn X0 T.iC) (fun self => PySem.W.bind_fn X0 self T.tI) ?_)
  refine err_init0 (s := ⟨(hp.push (PySem.W.kdv_tup [])).push (PySem.HandSPX.excO C hp.objs.size), g, dr, tk, os⟩) T (X0.keeps kk) (lim.keeps kk) (G.keeps kk) S (B.keeps kk) hmb e1 ?_ ?_
  · have := hr.dp
    show X.A.depth + 1 < recursionLimit
    omega
  · intro h' t1 tk' k' e'
    have hn : H (hp.objs.size + 1) = none := I.hok.fresh (Nat.le_succ _)
    have hq : hp.get? (hp.objs.size + 1) = none := by
      cases z : hp.get? (hp.objs.size + 1) with
      | none => rfl
      | some o => exact absurd (Nat.lt_of_succ_lt (Heap.lt_size z)) (Nat.lt_irrefl _)
    exact ⟨rfl, hp.objs.size + 1, _, _, ⟨hp, g, dr, tk, os⟩, H, .ref C, none, rfl, I, fun b o z => k' b o (Nat.ne_of_lt (Nat.lt_succ_of_lt (Heap.lt_size z))) (kk b o z), hq, e', ⟨rfl, rfl⟩, rfl, rfl, hn, rfl, I.bare, rC, h⟩
theorem pmk_err1 (T : ErrC X.prog X.K x (some f) C fI) (S : X.mg "super" = none) (hr : Room k X.A) (rC : Raises X (.ref C)) (hm : X.mg x = some (.ref C)) (he : PE X e te) (hg : Gl X x := by rfl) (hdb : (x == ("__debug__" : Str)) = false := by decide)
    (hs : starEach [e] X.env = (false, eval e X.env) :: starEach [] X.env := by rfl) : PMk X (.Call (.Name x p) [e] [] pos) (fun σ H Q => te σ H fun v H1 => ∀ d, H1 d = none → Q (.ref C) (some d) (upd H1 d (.xd [(f, v)]))) := by
  intro pins s σ H Q I h
  refine wpAny_Call_Name_kw (ld_glob I hg hm (PySem.W.callWith_K (h₀ := X.base) I.ok.mod.kin T.kC ?_ hs (by rfl)) hdb)
  rw [hs]
  refine Calls.spliced_cons (thn (he.run pins s σ H _ I h) ?_)
  rintro u s1 ⟨v, H1, I1, ru, q1⟩
  refine Calls.spliced_nil ⟨I1.kIn, ?_⟩
  show wpAny _ _ (call (.ref C) [u]) _ _ _
  obtain ⟨nm, qn, N, bs, bm, sn, sub, ab, col, dd, k0, k1, k2, k3, k5, hC, hbm⟩ := T.cls
  obtain ⟨lim, G, mb, B, hmb⟩ := facts I1
  obtain ⟨hp, g, dr, tk, os⟩ := s1
  have X0 : X.K.In hp := I1.kIn
  have kk : ∀ b o, hp.get? b = some o → ((hp.push (PySem.W.kdv_tup [u])).push (PySem.HandSPX.excO C hp.objs.size)).get? b = some o := fun b o z => Heap.get?_push_of_some _ (Heap.get?_push_of_some _ z)
  have e1 : ((hp.push (PySem.W.kdv_tup [u])).push (PySem.HandSPX.excO C hp.objs.size)).get? (hp.objs.size + 1) = some (PySem.HandSPX.excO C hp.objs.size) := by heap_get
  have hne : X.K.lookup (hp.objs.size + 1) = none := by
    cases z : X.K.lookup (hp.objs.size + 1) with
    | none => rfl
    | some o => exact absurd (Nat.lt_of_succ_lt (Heap.lt_size (X0 _ _ z))) (Nat.lt_irrefl _)
  refine wpAny_call (PySem.HandSPX.call_own (rest := [u]) F.excBase_ValueError (fun Y => PySem.HandSPX.refsVE_contains Y bm hbm) (X0 _ _ hC) (PySem.W.looks_findIn X0 T.iC) (fun self => PySem.W.bind_fn X0 self T.tI) (one_size u) ?_)
  refine err_init1 (bn := false) (s := ⟨(hp.push (PySem.W.kdv_tup [u])).push (PySem.HandSPX.excO C hp.objs.size), g, dr, tk, os⟩) T (X0.keeps kk) (lim.keeps kk) (G.keeps kk) S (B.keeps kk) hmb e1 hne ?_ ?_
  · have := hr.dp
    show X.A.depth + 1 < recursionLimit
    omega
  · intro h' t1 tk' dx k' e' dn dne hns
    have dn' : hp.objs.size ≤ dx := by
      have z : hp.objs.size ≤ ((hp.push (PySem.W.kdv_tup [u])).push (PySem.HandSPX.excO C hp.objs.size)).objs.size := by
        rw [Heap.size_push, Heap.size_push]
        omega
      exact Nat.le_trans z dn
    have fa : H1 (hp.objs.size + 1) = none := I1.hok.fresh (Nat.le_succ _)
    have fd : H1 dx = none := I1.hok.fresh dn'
    have old : ∀ b o, hp.get? b = some o → h'.get? b = some o := fun b o z => k' b o (Nat.ne_of_lt (Nat.lt_succ_of_lt (Heap.lt_size z))) (kk b o z)
    have J := laid2 (t' := tk') I1 old (Nat.le_succ _) dn' (oa := exo (hp.objs.size + 1) C (some dx)) (ob := exd dx [(f, v)]) (exo_ok e') fun _ => exd_ok hns fun y => relO_put (fs := []) (mA := fun _ => none) ru (fun _ => True.intro) y
    have nh : ∀ {c u}, hp.get? c = some u → c ≠ hp.objs.size + 1 ∧ c ≠ dx := fun {c u} q => ⟨Nat.ne_of_lt (Nat.lt_succ_of_lt (Heap.lt_size q)), Nat.ne_of_lt (Nat.lt_of_lt_of_le (Heap.lt_size q) dn')⟩
    have ea : (upd (upd H1 dx (exd dx [(f, v)])) (hp.objs.size + 1) (exo (hp.objs.size + 1) C (some dx))) (hp.objs.size + 1) = some (exo (hp.objs.size + 1) C (some dx)) := upd_same
    have ed : (upd (upd H1 dx (exd dx [(f, v)])) (hp.objs.size + 1) (exo (hp.objs.size + 1) C (some dx))) dx = some (exd dx [(f, v)]) := by rw [upd_ne dne, upd_same]
    have un : Un (frs X.stack) [] (upd H1 (hp.objs.size + 1) (exo (hp.objs.size + 1) C none)) (upd (upd H1 dx (exd dx [(f, v)])) (hp.objs.size + 1) (exo (hp.objs.size + 1) C (some dx))) hp h' := by
      have go : ∀ {c : Addr} {o : HO}, (upd H1 (hp.objs.size + 1) (exo (hp.objs.size + 1) C none)) c = some o → o ≠ exo (hp.objs.size + 1) C none → (upd (upd H1 dx (exd dx [(f, v)])) (hp.objs.size + 1) (exo (hp.objs.size + 1) C (some dx))) c = some o := fun {c o} q ne => by
        have h1 : c ≠ hp.objs.size + 1 := fun z => by
          rw [z, upd_same] at q
          exact ne (Option.some.inj q).symm
        rw [upd_ne h1] at q
        rw [upd_ne h1, upd_ne (ne_of_none q fd)]
        exact q
      refine ⟨fun c o z _ _ _ => old c o z, fun c o z _ _ _ => ⟨o.slots, old c o z⟩, fun c o z n _ => ?_, fun c o z _ => ⟨o, old c o z⟩, fun c xs q => go q fun z => exo_tup z.symm, fun c o w q => go q fun z => exo_frz z.symm, fun c ps q => ⟨#[], by rw [go q fun z => exo_tbl z.symm]; simp⟩⟩
      rw [upd_ne (nh z).1] at n
      rw [upd_ne (nh z).1, upd_ne (nh z).2]
      exact n
    refine ⟨rfl, mk_end (d1 := dr) (t1 := tk) (os1 := os) (g1 := g) rC I1 (Nat.le_succ _) (fun _ _ z => z) un J.hok rfl I1.bare ea ed fd ?_⟩
    have eq1 : upd (del (upd (upd H1 dx (exd dx [(f, v)])) (hp.objs.size + 1) (exo (hp.objs.size + 1) C (some dx))) (hp.objs.size + 1)) dx (.xd [(f, v)]) = upd H1 dx (.xd [(f, v)]) := by
      funext b
      by_cases h1 : b = dx
      · subst h1
        rw [upd_same, upd_same]
      · rw [upd_ne h1, upd_ne h1]
        by_cases h2 : b = hp.objs.size + 1
        · subst h2
          rw [del_same, fa]
        · rw [del_ne h2, upd_ne h2, upd_ne h1]
    rw [eq1]
    exact q1 dx fd
end
end Er

set_option maxRecDepth 100000
set_option maxHeartbeats 4000000
namespace Cm
open PySem PySem.Spec PyProof.Rows L2
theorem same_upd {H : Hp} {p : Addr} {o : HO} (h : H p = none) : Same H (upd H p o) := fun b u e => by
  have : b ≠ p := fun z => by rw [z, h] at e; cases e
  rw [upd_ne this]; exact e
theorem seqT_same {K : PySem.W.Frag} {H H' : Hp} {a : Addr} {xs : List V} (e : Same H H') (h : SqT K H a xs) : SqT K H' a xs := by
  rcases h with (h | ⟨o, h⟩) | h
  · exact .inl (.inl (e _ _ h))
  · exact .inl (.inr ⟨o, e _ _ h⟩)
  · exact .inr h
mutual
theorem dp_same {K : PySem.W.Frag} {H H' : Hp} (s : Same H H') : ∀ (d : PyData) (v : V), Dp K H v d → Dp K H' v d
  | .none, _, h => by cases h; exact .non
  | .bool b, _, h => by cases h; exact .bl b
  | .int i, _, h => by cases h; exact .int i
  | .str x, _, h => by cases h; exact .str x
  | .list ds, _, h => by
    cases h with
    | lst h1 h2 => exact .lst (s.seq h1) (dpAll_same s ds _ h2)
  | .tuple ds, _, h => by
    cases h with
    | tup h1 h2 => exact .tup (seqT_same s h1) (dpAll_same s ds _ h2)
  | .dict kvs, _, h => by cases h
theorem dpAll_same {K : PySem.W.Frag} {H H' : Hp} (s : Same H H') : ∀ (ds : List PyData) (vs : List V), DpAll K H vs ds → DpAll K H' vs ds
  | [], _, h => by cases h; exact .nil
  | d :: ds, _, h => by
    cases h with
    | cons a b => exact .cons (dp_same s d _ a) (dpAll_same s ds _ b)
end
theorem dpAll_len {K : PySem.W.Frag} {H : Hp} : ∀ {vs : List V} {ds : List PyData}, DpAll K H vs ds → vs.length = ds.length
  | [], [], _ => rfl
  | _ :: _, _ :: _, h => by
    cases h with
    | cons _ b => exact congrArg (· + 1) (dpAll_len b)
theorem dpAll_get {K : PySem.W.Frag} {H : Hp} : ∀ {vs : List V} {ds : List PyData} {i : Nat} {d : PyData}, DpAll K H vs ds → ds[i]? = some d → ∃ v, vs[i]? = some v ∧ Dp K H v d
  | [], [], i, d, _, h => by simp at h
  | v :: vs, e :: ds, i, d, h, g => by
    cases h with
    | cons a b =>
      cases i with
      | zero => simp at g; subst g; exact ⟨v, rfl, a⟩
      | succ i =>
        simp at g
        obtain ⟨u, h1, h2⟩ := dpAll_get b g
        exact ⟨u, by simpa using h1, h2⟩
theorem dpAll_get' {K : PySem.W.Frag} {H : Hp} {vs : List V} {ds : List PyData} {i : Nat} {v : V} (h : DpAll K H vs ds) (g : vs[i]? = some v) : ∃ d, ds[i]? = some d ∧ Dp K H v d := by
  have hi : i < ds.length := by
    rw [← dpAll_len h]
    exact (List.getElem?_eq_some_iff.mp g).1
  obtain ⟨u, h1, h2⟩ := dpAll_get h (List.getElem?_eq_getElem hi)
  rw [g] at h1
  cases h1
  exact ⟨_, List.getElem?_eq_getElem hi, h2⟩
theorem dpAll_app {K : PySem.W.Frag} {H : Hp} : ∀ {vs us : List V} {ds es : List PyData}, DpAll K H vs ds → DpAll K H us es → DpAll K H (vs ++ us) (ds ++ es)
  | [], us, [], es, _, h => h
  | v :: vs, us, d :: ds, es, h, g => by
    cases h with
    | cons a b => exact .cons a (dpAll_app b g)
end Cm

set_option maxRecDepth 100000
set_option maxHeartbeats 4000000
namespace Sg
open PySem PySem.Spec PyProof.Rows L2 Dr Gd Er
/-! ### the mirror: values as data -/
def tyD : PyData → String
  | .none => "NoneType" | .bool _ => "bool" | .int _ => "int" | .str _ => "str" | .list _ => "list" | .tuple _ => "tuple" | .dict _ => "dict"
theorem ty_dp {K : PySem.W.Frag} {H : Hp} {v : V} {d : PyData} (h : Dp K H v d) : TyX K H v (.type (tyD d)) := by
  cases h with
  | non => exact .base .non
  | bl b => exact .base (.bl b)
  | int i => exact .base (.int i)
  | str x => exact .base (.str x)
  | lst h _ =>
    rcases h with (h | ⟨o, h⟩) | ⟨o, its, n, e, c, _⟩
    · exact .base (.lst h)
    · exact .base (.frz h)
    · exact .kList e c
  | tup h _ =>
    rcases h with (h | ⟨o, h⟩) | ⟨o, its, n, e, c, _⟩
    · exact .base (.tup h)
    · exact .fTuple h
    · exact .kTuple e c
def isWhole : PyData → Bool
  | .int _ => true
  | _ => false
def wordIn (L z : Str) : Bool := decide (1 ≤ z.length) && (decide (z.length ≤ 8) && z.cps.toList.all fun c => decide (c ∈ L.cps.toList))
def isWord (L : Str) : PyData → Bool
  | .str z => wordIn L z
  | _ => false
def isTup (n : Int) : PyData → Bool
  | .tuple ds => decide ((ds.length : Int) = n)
  | _ => false
abbrev sWhole : Stmt := top 22
abbrev sWord : Stmt := top 23
abbrev sTupOf : Stmt := top 24
structure KTxt (mg : Str → Option Value) : Prop where
  isi : mg "isinstance" = none
  int : mg "int" = none
  bool : mg "bool" = none
  str : mg "str" = none
  tup : mg "tuple" = none
  len : mg "len" = none
  all : mg "all" = none
  ml : ∃ t, mg "MOST_LETTERS" = some (.int 8 t)
def spWhole (K : PySem.W.Frag) : Sp := fun vs H Q _ => ∃ v d, vs = [v] ∧ Dp K H v d ∧ Q (.bl (isWhole d)) H
def spTupOf (K : PySem.W.Frag) : Sp := fun vs H Q _ => ∃ v d n, vs = [v, .int n] ∧ Dp K H v d ∧ Q (.bl (isTup n d)) H
def spWord (K : PySem.W.Frag) : Sp := fun vs H Q _ => ∃ v d L, vs = [v, .str L] ∧ Dp K H v d ∧ (∀ z, d = .str z → z.length ≤ sizeLine) ∧ ∀ H', Same H H' → Q (.bl (isWord L d)) H'
def kB (a b : String) : Option Bool := kitB a b
theorem k_int (d : PyData) : kitB (tyD d) "int" = some (isWhole d || (match d with | .bool _ => true | _ => false)) := by
  cases d
  · exact (by decide +kernel : kitB "NoneType" "int" = some false)
  · exact (by decide +kernel : kitB "bool" "int" = some true)
  · exact (by decide +kernel : kitB "int" "int" = some true)
  · exact (by decide +kernel : kitB "str" "int" = some false)
  · exact (by decide +kernel : kitB "list" "int" = some false)
  · exact (by decide +kernel : kitB "tuple" "int" = some false)
  · exact (by decide +kernel : kitB "dict" "int" = some false)
theorem k_bool (d : PyData) : kitB (tyD d) "bool" = some (match d with | .bool _ => true | _ => false) := by
  cases d
  · exact (by decide +kernel : kitB "NoneType" "bool" = some false)
  · exact (by decide +kernel : kitB "bool" "bool" = some true)
  · exact (by decide +kernel : kitB "int" "bool" = some false)
  · exact (by decide +kernel : kitB "str" "bool" = some false)
  · exact (by decide +kernel : kitB "list" "bool" = some false)
  · exact (by decide +kernel : kitB "tuple" "bool" = some false)
  · exact (by decide +kernel : kitB "dict" "bool" = some false)
theorem k_str (d : PyData) : kitB (tyD d) "str" = some (match d with | .str _ => true | _ => false) := by
  cases d
  · exact (by decide +kernel : kitB "NoneType" "str" = some false)
  · exact (by decide +kernel : kitB "bool" "str" = some false)
  · exact (by decide +kernel : kitB "int" "str" = some false)
  · exact (by decide +kernel : kitB "str" "str" = some true)
  · exact (by decide +kernel : kitB "list" "str" = some false)
  · exact (by decide +kernel : kitB "tuple" "str" = some false)
  · exact (by decide +kernel : kitB "dict" "str" = some false)
theorem k_tup (d : PyData) : kitB (tyD d) "tuple" = some (match d with | .tuple _ => true | _ => false) := by
  cases d
  · exact (by decide +kernel : kitB "NoneType" "tuple" = some false)
  · exact (by decide +kernel : kitB "bool" "tuple" = some false)
  · exact (by decide +kernel : kitB "int" "tuple" = some false)
  · exact (by decide +kernel : kitB "str" "tuple" = some false)
  · exact (by decide +kernel : kitB "list" "tuple" = some false)
  · exact (by decide +kernel : kitB "tuple" "tuple" = some true)
  · exact (by decide +kernel : kitB "dict" "tuple" = some false)
theorem k_list (d : PyData) : kitB (tyD d) "list" = some (match d with | .list _ => true | _ => false) := by
  cases d
  · exact (by decide +kernel : kitB "NoneType" "list" = some false)
  · exact (by decide +kernel : kitB "bool" "list" = some false)
  · exact (by decide +kernel : kitB "int" "list" = some false)
  · exact (by decide +kernel : kitB "str" "list" = some false)
  · exact (by decide +kernel : kitB "list" "list" = some true)
  · exact (by decide +kernel : kitB "tuple" "list" = some false)
  · exact (by decide +kernel : kitB "dict" "list" = some false)
section
variable {P : Program} {w : World} {K : PySem.W.Frag} {mg : Str → Option Value} {base : Heap}
theorem scWh : FnScope ["value"] ["value"] (defScope sWhole) := ⟨rfl, rfl, rfl, by decide +kernel, rfl, by decide +kernel, by decide +kernel⟩
theorem ok_whole {f : Addr} {fd : FuncData} (F : Fun K "is_whole" "is_whole" sWhole f fd) (T : KTxt mg) : FnOk P w K mg base CX0 1 f fd ["value"] (spWhole K) := by
  refine F.ok scWh (fun vs H Q E h => ?_) (fun cdv A outer s H vs Q E hr h => ?_)
  · obtain ⟨v, d, rfl, _⟩ := h
    rfl
  · obtain ⟨v, d, rfl, hd, q⟩ := h
    refine ⟨_, pss_one (ps_ret (pe_and (pe_callB call_isi (by rfl) T.isi (by decide +kernel) (pa_cons (pv 0) (pa_cons (pe_bltn (v := .ty "int") (by rfl) T.int (by decide +kernel) rfl) pa_nil)))
      (pe_one (pe_not (pe_callB call_isi (by rfl) T.isi (by decide +kernel) (pa_cons (pv 0) (pa_cons (pe_bltn (v := .ty "bool") (by rfl) T.bool (by decide +kernel) rfl) pa_nil))))))), ?_⟩
    refine ⟨_, rfl, v, .ty "int", .type (tyD d), .type "int", _, rfl, .ty _, ty_dp hd, kit_ty (k_int d), _, rfl, ?_⟩
    refine ite2 (fun c => ?_) (fun c => ?_)
    · refine ⟨_, rfl, v, .ty "bool", .type (tyD d), .type "bool", _, rfl, .ty _, ty_dp hd, kit_ty (k_bool d), _, rfl, ?_⟩
      cases d <;> first | exact q | (simp [isWhole] at c)
    · cases d <;> first | exact q | (simp [isWhole] at c)
end
end Sg

set_option maxRecDepth 100000
set_option maxHeartbeats 4000000
namespace Sg
open PySem PySem.Spec PyProof.Rows L2 Dr Gd Er Cm
theorem lcYes {σ : L2.St} {H : Hp} {A B : Hp → Prop} (h : A H) : tYes σ H (fun b H3 => if b = true then A H3 else B H3) := by
  show (if true = true then A H else B H)
  rw [if_pos rfl]
  exact h
section
variable {P : Program} {w : World} {K : PySem.W.Frag} {mg : Str → Option Value} {base : Heap}
theorem scTo : FnScope ["value", "many"] ["value", "many"] (defScope sTupOf) := ⟨rfl, rfl, rfl, by decide +kernel, rfl, by decide +kernel, by decide +kernel⟩
theorem ok_tupOf {f : Addr} {fd : FuncData} (F : Fun K "is_tuple_of" "is_tuple_of" sTupOf f fd) (T : KTxt mg) : FnOk P w K mg base CX0 1 f fd ["value", "many"] (spTupOf K) := by
  refine F.ok scTo (fun vs H Q E h => ?_) (fun cdv A outer s H vs Q E hr h => ?_)
  · obtain ⟨v, d, n, rfl, _⟩ := h
    rfl
  · obtain ⟨v, d, n, rfl, hd, q⟩ := h
    refine ⟨_, pss_one (ps_ret (pe_and (pe_callB call_isi (by rfl) T.isi (by decide +kernel) (pa_cons (pv 0) (pa_cons (pe_bltn (v := .ty "tuple") (by rfl) T.tup (by decide +kernel) rfl) pa_nil)))
      (pe_one (pe_cmpR op_eq (pe_callB call_len_seq (by rfl) T.len PySem.boot_len (pa_cons (pv 0) pa_nil)) (pv 1) (nomark _))))), ?_⟩
    refine ⟨_, rfl, v, .ty "tuple", .type (tyD d), .type "tuple", _, rfl, .ty _, ty_dp hd, kit_ty (k_tup d), _, rfl, ?_⟩
    refine ite2 (fun c => ?_) (fun c => ?_)
    · cases d with
      | tuple ds =>
        cases hd with
        | tup h1 h2 =>
          rename_i a xs
          refine ⟨_, rfl, a, _, rfl, .inr h1, _, rfl, rfl, ?_⟩
          rw [dpAll_len h2]
          have e : decide (V.int (ds.length : Int) = V.int n) = isTup n (.tuple ds) := by
            unfold isTup
            congr 1
            exact propext ⟨fun h => by cases h; rfl, fun h => by rw [h]⟩
          rw [e]
          exact q
      | _ => exact absurd c (by simp)
    · cases d <;> first | exact q | (simp at c)
theorem scWo : FnScope ["value", "letters", "letter"] ["value", "letters"] (defScope sWord) := ⟨rfl, rfl, rfl, by decide +kernel, rfl, by decide +kernel, by decide +kernel⟩
theorem ok_word {f : Addr} {fd : FuncData} (F : Fun K "is_word" "is_word" sWord f fd) (T : KTxt mg) : FnOk P w K mg base CX0 1 f fd ["value", "letters"] (spWord K) := by
  obtain ⟨t8, ml⟩ := T.ml
  refine F.ok scWo (fun vs H Q E h => ?_) (fun cdv A outer s H vs Q E hr h => ?_)
  · obtain ⟨v, d, L, rfl, _⟩ := h
    rfl
  · obtain ⟨v, d, L, rfl, hd, hz, q⟩ := h
    refine ⟨_, pss_cons (ps_if (PW.pt (pw_or (pt_not (pt_val (pe_callB call_isi (by rfl) T.isi (by decide +kernel) (pa_cons (pv 0) (pa_cons (pe_bltn (v := .ty "str") (by rfl) T.str (by decide +kernel) rfl) pa_nil)))))
        (pw_or1 (pt_not (pt_chain op_le op_le pe_int (pe_callB call_len_str (by rfl) T.len PySem.boot_len (pa_cons (pv 0) pa_nil)) (pe_glob (v := .int 8) rfl ml ⟨_, rfl⟩)))))) (pss_one (ps_ret pe_bl)) pss_nil)
      (pss_one (ps_ret (pe_callB (cr_all rfl) (by rfl) T.all (by decide +kernel) (pa_cons
        (pe_lc (own := [("letter", 2)]) (g := gName 2) (tt := tYes) rfl scWo.nd (pi_str (pv 0)) (blkOk_by (N := ["value", "letters", "letter"]) (sc := defScope sWord) (by decide +kernel)) (fun _ _ _ _ _ => pg_name (i := 2) scWo.nd rfl (Or.inl rfl)) (fun _ _ _ _ _ => pts_nil) (fun _ _ _ _ _ => pe_cmpR op_in_sign (pv 2) (pv 1) (by rfl))) pa_nil)))), ?_⟩
    refine ⟨_, rfl, v, .ty "str", .type (tyD d), .type "str", _, rfl, .ty _, ty_dp hd, kit_ty (k_str d), _, rfl, ?_⟩
    cases d with
    | str z =>
      cases hd
      refine iteF ?_
      refine ⟨_, rfl, _, rfl, hz z rfl, _, _, rfl, rfl, _, rfl, ?_⟩
      have done : ∀ b : Bool, b = wordIn L z → ∀ H', Same H H' → Q (.bl b) H' := fun b e H' s => by
        rw [e]
        exact q H' s
      have zl : (z.length : Nat) = z.cps.size := rfl
      refine ite2 (fun c1 => ?_) (fun c1 => ?_)
      · refine ⟨_, _, rfl, rfl, _, rfl, ?_⟩
        have c1 := of_decide_eq_true c1
        refine ite2 (fun c2 => ?_) (fun c2 => ?_)
        · exact done _ (by simp [wordIn] at *; omega) H (Same.refl H)
        · have c2 : (z.length : Int) ≤ 8 := by simpa using c2
          refine ⟨_, rfl, z, rfl, fun D hD => ?_⟩
          refine lc_it walk_str (fun i H1 => ∃ bs : List Bool, bs = (z.cps.toList.take i).map (fun c => decide (c ∈ L.cps.toList)) ∧ H1 = upd H D (.lst (bs.map V.bl))) ⟨[], by simp, rfl⟩ (fun _ _ _ _ => trivial) (fun i x H1 H2 hi hp hy => ?_) (fun H1 hp => ?_)
          · obtain ⟨bs, rfl, rfl⟩ := hp
            obtain ⟨rfl, c, hc, rfl⟩ := hy
            refine ⟨rfl, lcYes ?_⟩
            refine ⟨_, rfl, _, rfl, c, L, rfl, rfl, _, upd_same, ?_, (z.cps.toList.take (i + 1)).map (fun c => decide (c ∈ L.cps.toList)), ?_, ?_⟩
            · rw [List.length_map, List.length_map, List.length_take]
              have : i < 8 := by omega
              exact Nat.lt_of_le_of_lt (Nat.min_le_left _ _) (Nat.lt_trans this (by decide))
            · exact rfl
            · rw [upd2]
              have e : z.cps.toList[i]? = some c := by rw [Array.getElem?_toList]; exact hc
              have hi' : i < z.cps.toList.length := by simpa using hi
              rw [List.take_succ, e]
              simp
          · obtain ⟨bs, e, rfl⟩ := hp
            refine ⟨D, bs, rfl, SqL.of upd_same, ?_⟩
            refine done _ ?_ _ (same_upd hD)
            rw [e, List.take_of_length_le (by simp)]
            unfold wordIn
            rw [decide_eq_true (show 1 ≤ z.length by omega), decide_eq_true (show z.length ≤ 8 by omega), Bool.true_and, Bool.true_and, List.all_map]
            rfl
      · exact ⟨_, rfl, iteT (done _ (by simp [wordIn] at *; omega) H (Same.refl H))⟩
    | _ => exact iteT (q H (Same.refl H))
end
end Sg

set_option maxRecDepth 100000
set_option maxHeartbeats 4000000
namespace Sg
open PySem PySem.Spec PyProof.Rows L2 Dr Gd Er Cm
abbrev sIsSign : Stmt := top 30
def Lc : Str := "abcdefghijklmnopqrstuvwxyz"
def isAr : PyData → Bool
  | .int n => decide (0 ≤ n) && decide (n ≤ 3)
  | _ => false
def isSign : PyData → Bool
  | .tuple ds => (match ds with
    | [x, y] => isWord Lc x && isAr y
    | _ => false)
  | _ => false
/-- texts that stand first in pairs are no longer than a line -/
def Short : PyData → Prop
  | .tuple [.str z, _] => z.length ≤ sizeLine
  | _ => True
structure Kn (K : PySem.W.Frag) (mg : Str → Option Value) (f1 f2 f3 : Addr) (d1 d2 d3 : FuncData) : Prop where
  t : KTxt mg
  F1 : Fun K "is_whole" "is_whole" sWhole f1 d1
  F2 : Fun K "is_word" "is_word" sWord f2 d2
  F3 : Fun K "is_tuple_of" "is_tuple_of" sTupOf f3 d3
  g1 : mg "is_whole" = some (.ref f1)
  g2 : mg "is_word" = some (.ref f2)
  g3 : mg "is_tuple_of" = some (.ref f3)
  sm : ∃ t, mg "SMALL" = some (.str Lc t)
  ma : ∃ t, mg "MOST_ARGUMENTS" = some (.int 3 t)
section
variable {P : Program} {w : World} {K : PySem.W.Frag} {mg : Str → Option Value} {base : Heap} {f1 f2 f3 : Addr} {d1 d2 d3 : FuncData}
theorem Kn.b1 (k : Kn K mg f1 f2 f3 d1 d2 d3) : Binds K d1 ["value"] [] := k.F1.binds fun _ _ _ _ _ _ us hl => match us, hl with | [_], _ => rfl
theorem Kn.b2 (k : Kn K mg f1 f2 f3 d1 d2 d3) : Binds K d2 ["value", "letters"] [] := k.F2.binds fun _ _ _ _ _ _ us hl => match us, hl with | [_, _], _ => rfl
theorem Kn.b3 (k : Kn K mg f1 f2 f3 d1 d2 d3) : Binds K d3 ["value", "many"] [] := k.F3.binds fun _ _ _ _ _ _ us hl => match us, hl with | [_, _], _ => rfl
theorem scIs : FnScope ["value"] ["value"] (defScope sIsSign) := ⟨rfl, rfl, rfl, by decide +kernel, rfl, by decide +kernel, by decide +kernel⟩
def spIsSign (K : PySem.W.Frag) : Sp := fun vs H Q _ => ∃ v d, vs = [v] ∧ Dp K H v d ∧ Short d ∧ ∀ H', Same H H' → Q (.bl (isSign d)) H'
theorem ok_isSign {f : Addr} {fd : FuncData} (F : Fun K "_is_sign" "_is_sign" sIsSign f fd) (T : Kn K mg f1 f2 f3 d1 d2 d3) : FnOk P w K mg base CX0 2 f fd ["value"] (spIsSign K) := by
  obtain ⟨tS, mS⟩ := T.sm
  obtain ⟨tA, mA⟩ := T.ma
  refine F.ok scIs (fun vs H Q E h => ?_) (fun cdv A outer s H vs Q E hr h => ?_)
  · obtain ⟨v, d, rfl, _⟩ := h
    rfl
  · obtain ⟨v, d, rfl, hd, hs, q⟩ := h
    refine ⟨_, pss_cons (ps_if (PW.pt (pw_or (pt_not (pt_val (pe_call (ok_tupOf T.F3 T.t) hr rfl T.g3 T.F3.kp T.b3 .nil pass0 (pa_cons (pv 0) (pa_cons pe_int pa_nil)))))
        (pw_or1 (pt_not (pt_val (pe_call (ok_word T.F2 T.t) hr rfl T.g2 T.F2.kp T.b2 .nil pass0 (pa_cons (pe_ix ix_tup (pv 0) pe_int fun _ _ => rfl) (pa_cons (pe_glob (v := .str Lc) rfl mS ⟨_, rfl⟩) pa_nil)))))))) (pss_one (ps_ret pe_bl)) pss_nil)
      (pss_one (ps_ret (pe_and (pe_call (ok_whole T.F1 T.t) hr rfl T.g1 T.F1.kp T.b1 .nil pass0 (pa_cons (pe_ix ix_tup (pv 0) pe_int fun _ _ => rfl) pa_nil))
        (pe_one (pe_chain op_le op_le pe_int (pe_ix ix_tup (pv 0) pe_int fun _ _ => rfl) (pe_glob (v := .int 3) rfl mA ⟨_, rfl⟩)))))), ?_⟩
    refine ⟨_, rfl, v, d, 2, rfl, hd, _, rfl, ?_⟩
    have no : isTup 2 d = false → isSign d = false := fun e => by
      cases d with
      | tuple ds =>
        match ds with
        | [] => rfl
        | [_] => rfl
        | [x, y] => simp [isTup] at e
        | _ :: _ :: _ :: _ => rfl
      | _ => rfl
    refine ite2 (fun c => ?_) (fun c => ?_)
    · have c : isTup 2 d = false := by simpa using c
      have z := q H (Same.refl H)
      rw [no c] at z
      exact z
    · cases d with
      | tuple ds =>
        match ds, hd, c with
        | [x, y], hd, _ =>
          cases hd with
          | tup h1 h2 =>
            rename_i a xs
            cases h2 with
            | cons hx h2 =>
              cases h2 with
              | cons hy h2 =>
                cases h2
                rename_i vx vy
                refine ⟨_, rfl, a, _, 0, vx, rfl, rfl, h1, rfl, ?_⟩
                refine ⟨vx, x, Lc, rfl, hx, (fun z e => by subst e; exact hs), fun H1 s1 => ⟨_, rfl, ?_⟩⟩
                refine ite2 (fun c2 => ?_) (fun c2 => ?_)
                · have c2 : isWord Lc x = false := by simpa using c2
                  have z := q H1 s1
                  have e : isSign (.tuple [x, y]) = false := by
                    show (isWord Lc x && isAr y) = false; rw [c2]; rfl
                  rw [e] at z
                  exact z
                · have c2 : isWord Lc x = true := by simpa using c2
                  have e : isSign (.tuple [x, y]) = isAr y := by
                    show (isWord Lc x && isAr y) = _; rw [c2]; rfl
                  have q := fun H' (s : Same H H') => q H' s
                  rw [e] at q
                  refine ⟨_, rfl, a, _, 1, vy, rfl, rfl, seqT_same s1 h1, rfl, ?_⟩
                  refine ⟨vy, y, rfl, dp_same s1 _ _ hy, _, rfl, ?_⟩
                  refine ite2 (fun c3 => ?_) (fun c3 => ?_)
                  · cases y with
                    | int n =>
                      cases hy
                      refine ⟨_, rfl, a, _, 1, _, rfl, rfl, seqT_same s1 h1, rfl, ?_⟩
                      refine ⟨_, _, rfl, rfl, _, rfl, ?_⟩
                      refine ite2 (fun c4 => ?_) (fun c4 => ?_)
                      · refine ⟨_, _, rfl, rfl, ?_⟩
                        have z := q H1 s1
                        rw [show isAr (.int n) = decide (n ≤ 3) from by show (decide (0 ≤ n) && decide (n ≤ 3)) = _; rw [show decide (0 ≤ n) = true from c4]; rfl] at z
                        exact z
                      · have z := q H1 s1
                        rw [show isAr (.int n) = false from by show (decide (0 ≤ n) && decide (n ≤ 3)) = _; rw [show decide (0 ≤ n) = false from by simpa using c4]; rfl] at z
                        exact z
                    | _ => cases c3
                  · have z := q H1 s1
                    rw [show isAr y = false from by cases y <;> first | rfl | exact absurd rfl c3] at z
                    exact z
      | _ => exact absurd rfl c
end
end Sg

set_option maxRecDepth 100000
set_option maxHeartbeats 4000000
/-! in, ==, != by an own __contains__, __eq__, with both answers; C(..) where what is raised is wished for at the caller's slots. -/
namespace Ow
open PySem PySem.Spec PyProof.Rows L2
section
variable {X : Cx} {CX : CXT} {n : Nat} {C f : Addr} {fd : FuncData} {ps : List Str} {sp : Sp} {E : XK}
theorem own_call (F : FnOk X.prog X.w X.K X.mg X.base CX n f fd ps sp) (hb : Binds X.K fd ps []) (hx : Passes CX X E) {A : Around} (sb : Sub X n A) {pins : List (Addr × Obj)} {s : Shared} {σ : L2.St} {H : Hp} {a : Addr} {y : V} {u : Value} {G : Bool → Hp → Prop}
    (I : Inv X pins σ H s) (ry : RelV y u) (h : sp [.ref a, y] H (fun v H' => ∃ b, v = .bl b ∧ G b H') E) :
    wpAny (model X.prog X.w) A (call (.ref f) [.ref a, u]) (fun r s' => ∃ b H', r = .bool b ∧ Inv X pins σ H' s' ∧ G b H') X.xe s := by
  have e0 : Env0 X.prog X.w X.K X.mg X.base A X.stack s H := by
    have e := I.env0
    exact ⟨by rw [sb.fr]; exact e.frames, e.mod, e.bs, e.bsz, e.funs, e.frf, e.hok, e.bare⟩
  have hl := F.len _ _ _ _ h
  have r2 : Vals [V.ref a, y] [Value.ref a, u] := .cons rfl (.cons ry .nil)
  refine wpAny_call (codeAny_mono (F.run A X.stack s H ⟨[.ref a, u], []⟩ [.ref a, u] [.ref a, y] _ E sb.room e0 (by
    have := hb s [.ref a, u] I.kIn (by simpa using hl)
    simpa using this) r2 h) fun r s' hq => ?_)
  cases r with
  | error e => exact hx pins σ H s e s' I hq
  | ok fl =>
    cases fl with
    | ret w =>
      obtain ⟨z, H', I', rz, b, ez, q⟩ := I.after hq
      subst ez
      cases rz
      exact ⟨b, H', rfl, I', q⟩
    | next => exact False.elim hq
    | brk => exact False.elim hq
    | cont => exact False.elim hq
/-- x in o, o of a class with an own __contains__ -/
def rInOwn (C : Addr) (sp : Sp) (E : XK) : R2 := fun x y H Q => ∃ a dx fs, y = .ref a ∧ H a = some (.ins C dx fs) ∧ sp [.ref a, x] H (fun v H' => ∃ b, v = .bl b ∧ Q (.bl b) H') E
def rNotInOwn (C : Addr) (sp : Sp) (E : XK) : R2 := fun x y H Q => ∃ a dx fs, y = .ref a ∧ H a = some (.ins C dx fs) ∧ sp [.ref a, x] H (fun v H' => ∃ b, v = .bl b ∧ Q (.bl (!b)) H') E
theorem op_inOwn (F : FnOk X.prog X.w X.K X.mg X.base CX n f fd ps sp) (hr : Room n X.A) (hs : PySem.W.findIn X.K (.ref C) "__contains__" = some (some (.ref f))) (hf : PySem.W.isFn X.K (.ref f) = true) (hb : Binds X.K fd ps []) (hx : Passes CX X E) :
    OpR X (compareOp .In) (rInOwn C sp E) := by
  intro pins s σ H x y v u Q I rx ry h
  obtain ⟨a, dx, fs, rfl, ha, h⟩ := h
  cases ry
  obtain ⟨mA, J, _⟩ := ins_get I.hok ha
  obtain ⟨od, J, _⟩ := J.look
  obtain ⟨m, hF⟩ := I.fr
  refine PySem.W.in_K hF I.ok.mod.kin J hs hf (wpAny_mono (own_call F hb hx ⟨hr, rfl⟩ I rx h) (fun r s' q => ?_) fun _ _ z => z)
  obtain ⟨b, H', rfl, I', q⟩ := q
  exact wpAny_truthy_bool ⟨.bl b, H', I', rfl, q⟩
theorem op_notInOwn (F : FnOk X.prog X.w X.K X.mg X.base CX n f fd ps sp) (hr : Room n X.A) (hs : PySem.W.findIn X.K (.ref C) "__contains__" = some (some (.ref f))) (hf : PySem.W.isFn X.K (.ref f) = true) (hb : Binds X.K fd ps []) (hx : Passes CX X E) :
    OpR X (compareOp .NotIn) (rNotInOwn C sp E) := by
  intro pins s σ H x y v u Q I rx ry h
  obtain ⟨a, dx, fs, rfl, ha, h⟩ := h
  cases ry
  obtain ⟨mA, J, _⟩ := ins_get I.hok ha
  obtain ⟨od, J, _⟩ := J.look
  obtain ⟨m, hF⟩ := I.fr
  refine PySem.W.notIn_K hF I.ok.mod.kin J hs hf (wpAny_mono (own_call F hb hx ⟨hr, rfl⟩ I rx h) (fun r s' q => ?_) fun _ _ z => z)
  obtain ⟨b, H', rfl, I', q⟩ := q
  exact wpAny_truthy_bool ⟨.bl (!b), H', I', rfl, q⟩
/-- the type of the right one, seen by the model -/
def TyR (K : PySem.W.Frag) (H : Hp) (y : V) (tb : Value) : Prop := TyX K H y tb ∨ ∃ a C dx fs, y = .ref a ∧ H a = some (.ins C dx fs) ∧ tb = .ref C
theorem TyR.looks {pins : List (Addr × Obj)} {σ : L2.St} {H : Hp} {s : Shared} {y : V} {u tb : Value} (t : TyR X.K H y tb) (I : Inv X pins σ H s) (ry : RelV y u) : PySem.W.Looks (model X.prog X.w) s.heap (typeOf u) tb := by
  rcases t with t | ⟨a, C, dx, fs, rfl, ha, rfl⟩
  · obtain ⟨Pq, Z, p, _⟩ := kit_of I ry t
    exact Z.ty _ _ I.kIn p
  · cases ry
    obtain ⟨mA, J, _⟩ := ins_get I.hok ha
    obtain ⟨od, J, _⟩ := J.look
    exact J.type
def rEqOwn (K : PySem.W.Frag) (C : Addr) (sp : Sp) (E : XK) : R2 := fun x y H Q => ∃ a dx fs tb, x = .ref a ∧ H a = some (.ins C dx fs) ∧ TyR K H y tb ∧ PySem.W.notFirst K C tb = true ∧ sp [.ref a, y] H (fun v H' => ∃ b, v = .bl b ∧ Q (.bl b) H') E
def rNeOwn (K : PySem.W.Frag) (C : Addr) (sp : Sp) (E : XK) : R2 := fun x y H Q => ∃ a dx fs tb, x = .ref a ∧ H a = some (.ins C dx fs) ∧ TyR K H y tb ∧ PySem.W.notFirst K C tb = true ∧ sp [.ref a, y] H (fun v H' => ∃ b, v = .bl b ∧ Q (.bl (!b)) H') E
theorem op_eqOwn (F : FnOk X.prog X.w X.K X.mg X.base CX n f fd ps sp) (hr : Room n X.A) (hs : PySem.W.findIn X.K (.ref C) "__eq__" = some (some (.ref f))) (hf : PySem.W.isFn X.K (.ref f) = true) (hb : Binds X.K fd ps []) (hx : Passes CX X E) :
    OpR X (compareOp .Eq) (rEqOwn X.K C sp E) := by
  intro pins s σ H x y v u Q I rx ry h
  obtain ⟨a, dx, fs, tb, rfl, ha, ty, nf, h⟩ := h
  cases rx
  obtain ⟨mA, J, _⟩ := ins_get I.hok ha
  obtain ⟨od, J, _⟩ := J.look
  obtain ⟨m, hF⟩ := I.fr
  show wpAny (model X.prog X.w) X.A (richCompare .Eq (.ref a) u) (EP X pins σ Q) X.xe s
  refine PySem.W.cmp_K (op := .Eq) hr.units0 hF I.ok.mod.kin J (ty.looks I ry) nf hs hf (wpAny_mono (own_call F hb hx ⟨hr, rfl⟩ I ry h) (fun r s' q => ?_) fun _ _ z => z)
  obtain ⟨b, H', rfl, I', q⟩ := q
  exact ⟨.bl b, H', I', rfl, q⟩
theorem op_neOwn (F : FnOk X.prog X.w X.K X.mg X.base CX n f fd ps sp) (hr : Room (n + 1) X.A) (hs : PySem.W.findIn X.K (.ref C) "__eq__" = some (some (.ref f))) (hf : PySem.W.isFn X.K (.ref f) = true) (hb : Binds X.K fd ps []) (hx : Passes CX X E)
    (hne : PySem.W.findIn X.K (.ref C) "__ne__" = some (some (.builtin "object.__ne__"))) (hm : PySem.W.mroIn X.K C (.type "object") = some true) : OpR X (compareOp .NotEq) (rNeOwn X.K C sp E) := by
  intro pins s σ H x y v u Q I rx ry h
  obtain ⟨a, dx, fs, tb, rfl, ha, ty, nf, h⟩ := h
  cases rx
  obtain ⟨mA, J, _⟩ := ins_get I.hok ha
  obtain ⟨od, J, _⟩ := J.look
  obtain ⟨m, hF⟩ := I.fr
  have hk := I.kIn
  have LT := ty.looks I ry
  have LJ := J.type (M := model X.prog X.w)
  show wpAny (model X.prog X.w) X.A (richCompare .NotEq (.ref a) u) (EP X pins σ Q) X.xe s
  have eq1 : wpAny (model X.prog X.w) X.A.in1 (callSpecialIfBound? (.ref a) "__eq__" [u]) (fun r s' => ∃ b H', r = some (.bool b) ∧ Inv X pins σ H' s' ∧ Q (.bl (!b)) H') X.xe s := by
    refine PySem.W.ifBound_K hk J hs hf (wpAny_mono (own_call F hb hx (Sub.in1 ⟨hr, rfl⟩) I ry h) (fun r s' q => ?_) fun _ _ z => z)
    obtain ⟨b, H', rfl, I', q⟩ := q
    exact ⟨b, H', rfl, I', q⟩
  have one : wpAny (model X.prog X.w) X.A (tryCompare (.ref a) (cmpInfo .NotEq).2.1 u) (fun r s' => ∃ v, r = some v ∧ EP X pins σ Q v s') X.xe s := by
    have hu1 : X.A.in1.units < cLine := (Sub.in1 (X := X) (n := n) ⟨hr, rfl⟩).room.units0
    unfold tryCompare
    refine wpAny_bind (NtL.csib (LJ.andThen (PySem.W.looks_findIn hk hne)) (PySem.F.cmp_object.ne.bind _) ?_)
    refine wpAny_call (codeAny_call_builtin PySem.F.cmp_object.ne.plain PySem.F.cmpEntry_ne (PySem.W.check_slot PySem.F.cmpKind_ne PySem.F.cmpSplit_ne (LJ.andThen (PySem.W.looks_mroIn hk hm)) (PySem.F.cmpArgs_ne _ _) ?_))
    unfold Builtin.«object.__ne__»
    repeat (first
      | with_reducible refine wpAny_cRoomFor hu1 ?_
      | (refine wpAny_bind (m := callSpecialIfBound? (.ref a) (Str.ofString "__eq__") [u]) (wpAny_mono eq1 (fun r s' hr => ?_) fun _ _ e => e))
      | wp_step)
    obtain ⟨b, H', rfl, I', q⟩ := hr
    have fin : ∃ w : Value, w = .bool (!b) ∧ EP X pins σ Q w s' := ⟨_, rfl, .bl (!b), H', I', rfl, q⟩
    obtain ⟨w, ew, fin⟩ := fin
    subst ew
    repeat (first | exact ⟨_, rfl, fin⟩ | exact wpAny_pure ⟨_, rfl, fin⟩ | exact wpAny_truthy_bool fin | (refine wpAny_bind (m := truthy (.bool _)) (wpAny_truthy_bool ?_)) | wp_step)
  unfold richCompare
  simp only [oneThing_ref]
  refine wpAny_holding (wpAny_bind (wpAny_cRoomFor hr.units0 ?_))
  refine wpAny_bind (LJ.here (wpAny_bind (LT.here ?_)))
  split
  · rename_i q
    have e : PySem.W.subIn X.K tb (.ref C) = some false := by
      rcases Bool.or_eq_true_iff.mp nf with e | e
      · rw [beq_iff_eq.mp e] at q; simp at q
      · exact beq_iff_eq.mp e
    refine wpAny_bind ((PySem.W.looks_subIn hk e).here ?_)
    simp only [Bool.false_eq_true, if_false]
    refine wpAny_bind (wpAny_mono one (fun r s' z => ?_) fun _ _ e => e)
    obtain ⟨v, rfl, hq⟩ := z
    exact wpAny_pure hq
  · refine wpAny_bind (wpAny_pure ?_)
    simp only [Bool.false_eq_true, if_false]
    refine wpAny_bind (wpAny_mono one (fun r s' z => ?_) fun _ _ e => e)
    obtain ⟨v, rfl, hq⟩ := z
    exact wpAny_pure hq
end
end Ow

set_option maxRecDepth 100000
set_option maxHeartbeats 4000000
namespace Sg
open PySem PySem.Spec PyProof.Rows L2 Dr Gd Er Cm
abbrev sSigns : Stmt := top 29
/-- all but x as it was -/
def SameX (x : Addr) (H H' : Hp) : Prop := ∀ b o, H b = some o → b ≠ x → H' b = some o
theorem SameX.refl (x : Addr) (H : Hp) : SameX x H H := fun _ _ h _ => h
theorem SameX.trans {x : Addr} {H H1 H2 : Hp} (a : SameX x H H1) (b : SameX x H1 H2) : SameX x H H2 := fun c o h n => b c o (a c o h n) n
theorem Same.x {x : Addr} {H H' : Hp} (s : Same H H') : SameX x H H' := fun b o h _ => s b o h
theorem SameX.upd {x : Addr} {H H1 : Hp} {o : HO} (s : SameX x H H1) : SameX x H (L2.upd H1 x o) := fun b u h n => by
  rw [upd_ne n]; exact s b u h n
theorem SameX.new {x p : Addr} {H H1 : Hp} {o : HO} (s : SameX x H H1) (hp : H p = none) : SameX x H (L2.upd H1 p o) := fun b u h n => by
  rw [upd_ne (ne_of_none h hp)]; exact s b u h n
structure SeqK (K : PySem.W.Frag) (H H' : Hp) : Prop where
  l : ∀ a xs, SqL K H a xs → SqL K H' a xs
  t : ∀ a xs, SqT K H a xs → SqT K H' a xs
mutual
theorem dp_seq {K : PySem.W.Frag} {H H' : Hp} (s : SeqK K H H') : ∀ (d : PyData) (v : V), Dp K H v d → Dp K H' v d
  | .none, _, h => by cases h; exact .non
  | .bool b, _, h => by cases h; exact .bl b
  | .int i, _, h => by cases h; exact .int i
  | .str x, _, h => by cases h; exact .str x
  | .list ds, _, h => by
    cases h with
    | lst h1 h2 => exact .lst (s.l _ _ h1) (dpAll_seq s ds _ h2)
  | .tuple ds, _, h => by
    cases h with
    | tup h1 h2 => exact .tup (s.t _ _ h1) (dpAll_seq s ds _ h2)
  | .dict kvs, _, h => by cases h
theorem dpAll_seq {K : PySem.W.Frag} {H H' : Hp} (s : SeqK K H H') : ∀ (ds : List PyData) (vs : List V), DpAll K H vs ds → DpAll K H' vs ds
  | [], _, h => by cases h; exact .nil
  | d :: ds, _, h => by
    cases h with
    | cons a b => exact .cons (dp_seq s d _ a) (dpAll_seq s ds _ b)
end
theorem SameX.seqK {K : PySem.W.Frag} {x C dx : Addr} {fs : List (Str × V)} {H H' : Hp} (s : SameX x H H') (hx : H x = some (.ins C dx fs)) : SeqK K H H' := by
  refine ⟨fun a xs h => ?_, fun a xs h => ?_⟩
  · rcases h with (h | ⟨o, h⟩) | h
    · exact .inl (.inl (s _ _ h (ne_of h hx (by intro z; cases z))))
    · exact .inl (.inr ⟨o, s _ _ h (ne_of h hx (by intro z; cases z))⟩)
    · exact .inr h
  · rcases h with (h | ⟨o, h⟩) | h
    · exact .inl (.inl (s _ _ h (ne_of h hx (by intro z; cases z))))
    · exact .inl (.inr ⟨o, s _ _ h (ne_of h hx (by intro z; cases z))⟩)
    · exact .inr h
/-! ### what a list of pairs makes -/
inductive Res where
  | ok (ps : List (Str × Int))
  | bad (i : Nat)
def prOf : PyData → Str × Int
  | .tuple ds => (match ds with
    | [.str z, .int n] => (z, n)
    | _ => ("", 0))
  | _ => ("", 0)
def hasN (ps : List (Str × Int)) (z : Str) : Bool := ps.any fun p => decide (p.1 = z)
def build : List PyData → List (Str × Int) → Nat → Res
  | [], acc, _ => .ok acc
  | d :: r, acc, i => if isSign d && !hasN acc (prOf d).1 then build r (acc ++ [prOf d]) (i + 1) else .bad i
def kvsOf (ps : List (Str × Int)) : List (Key × V) := ps.map fun p => (Sum.inr p.1, V.int p.2)
def SgAt (C : Addr) (H : Hp) (x : Addr) (ps : List (Str × Int)) : Prop := ∃ dx d, H x = some (.ins C dx [("_arities", .ref d)]) ∧ H d = some (.dK (kvsOf ps))
theorem isSign_pr {d : PyData} (h : isSign d = true) : ∃ z n, d = .tuple [.str z, .int n] ∧ prOf d = (z, n) ∧ wordIn Lc z = true ∧ 0 ≤ n ∧ n ≤ 3 := by
  cases d with
  | tuple ds =>
    match ds, h with
    | [x, y], h =>
      have h : (isWord Lc x && isAr y) = true := h
      rw [Bool.and_eq_true] at h
      obtain ⟨h1, h2⟩ := h
      cases x with
      | str z =>
        cases y with
        | int n =>
          have h2 : (decide (0 ≤ n) && decide (n ≤ 3)) = true := h2
          rw [Bool.and_eq_true] at h2
          exact ⟨z, n, rfl, rfl, h1, of_decide_eq_true h2.1, of_decide_eq_true h2.2⟩
        | _ => cases h2
      | _ => cases h1
  | _ => cases h
theorem kvs_val (ps : List (Str × Int)) (z : Str) : (valV (kvsOf ps) (Sum.inr z)).isSome = hasN ps z := by
  rw [← valV_any]
  unfold kvsOf hasN
  rw [List.any_map]
  congr 1
  funext p
  simp only [Function.comp]
  exact decide_eq_decide.mpr ⟨fun h => by injection h, fun h => by rw [h]⟩
theorem kvs_put {ps : List (Str × Int)} {z : Str} {n : Int} (h : hasN ps z = false) : putK (kvsOf ps) (Sum.inr z) (.int n) = kvsOf (ps ++ [(z, n)]) := by
  have e : valV (kvsOf ps) (Sum.inr z) = none := by
    have := kvs_val ps z
    rw [h] at this
    cases q : valV (kvsOf ps) (Sum.inr z) with
    | none => rfl
    | some v => rw [q] at this; cases this
  rw [putK_new _ e]
  unfold kvsOf
  rw [List.map_append]
  rfl
end Sg

set_option maxRecDepth 100000
set_option maxHeartbeats 4000000
namespace Sg
open PySem PySem.Spec PyProof.Rows L2 Dr Gd Er Cm
abbrev sInit : Stmt := inClass sSigns 0
inductive Made where
  | noList
  | count
  | sign (i : Nat)
  | ok (ps : List (Str × Int))
def madeL (ds : List PyData) : Made := if 1 ≤ ds.length ∧ ds.length ≤ 5 then (match build ds [] 0 with
    | .ok ps => .ok ps
    | .bad i => .sign i) else .count
def madeOf : PyData → Made
  | .list ds => madeL ds
  | _ => .noList
def Shorts : PyData → Prop
  | .list ds => ∀ e ∈ ds, Short e
  | _ => True
structure Ke (P : Program) (K : PySem.W.Frag) (mg : Str → Option Value) (cN cC cB cS eN eC eB eS : Addr) : Prop where
  hN : ErrC P K "NoList" none cN eN
  hC : ErrC P K "BadCount" none cC eC
  hB : ErrC P K "BadSign" (some "number") cB eB
  hS : ErrC P K "NoSign" (some "name") cS eS
  gN : mg "NoList" = some (.ref cN)
  gC : mg "BadCount" = some (.ref cC)
  gB : mg "BadSign" = some (.ref cB)
  gS : mg "NoSign" = some (.ref cS)
  rN : PySem.W.subIn K (.ref cN) (.type "BaseException") = some true ∧ PySem.W.typeIn K (.ref cN) = some (.type "type")
  rC : PySem.W.subIn K (.ref cC) (.type "BaseException") = some true ∧ PySem.W.typeIn K (.ref cC) = some (.type "type")
  rB : PySem.W.subIn K (.ref cB) (.type "BaseException") = some true ∧ PySem.W.typeIn K (.ref cB) = some (.type "type")
  rS : PySem.W.subIn K (.ref cS) (.type "BaseException") = some true ∧ PySem.W.typeIn K (.ref cS) = some (.type "type")
  sup : mg "super" = none
  enu : mg "enumerate" = none
  lst : mg "list" = none
  ms : ∃ t, mg "MOST_SIGNS" = some (.int 5 t)
structure SCl (K : PySem.W.Frag) (C : Addr) : Prop where
  cl : Cls K C
  na : NoAttr K C "_arities"
def InitEnd (cN cC cB C : Addr) (H : Hp) (x : Addr) (Q : VK) (E : XK) : Made → Prop
  | .noList => ∀ H', SameX x H H' → E (.ref cN) none H'
  | .count => ∀ H', SameX x H H' → E (.ref cC) none H'
  | .sign i => ∀ H' dd, SameX x H H' → H dd = none → H' dd = some (.xd [("number", .int i)]) → E (.ref cB) (some dd) H'
  | .ok ps => ∀ H', SameX x H H' → SgAt C H' x ps → Q .non H'
def spInit (K : PySem.W.Frag) (cN cC cB C : Addr) : Sp := fun vs H Q E => ∃ x v d dx, vs = [.ref x, v] ∧ H x = some (.ins C dx []) ∧ Dp K H v d ∧ Shorts d ∧ InitEnd cN cC cB C H x Q E (madeOf d)
theorem tyl (d : PyData) : kitB (tyD d) "list" = some (match d with | .list _ => true | _ => false) := k_list d
section
variable {P : Program} {w : World} {K : PySem.W.Frag} {mg : Str → Option Value} {base : Heap} {f1 f2 f3 f4 : Addr} {d1 d2 d3 d4 : FuncData} {cN cC cB cS eN eC eB eS C : Addr}
theorem scInit : FnScope ["self", "pairs", "number", "pair"] ["self", "pairs"] (defScope sInit) := ⟨rfl, rfl, rfl, by decide +kernel, rfl, by decide +kernel, by decide +kernel⟩
theorem ok_init {f : Addr} {fd : FuncData} (F : Fun K "__init__" "Signs.__init__" sInit f fd) (T : Kn K mg f1 f2 f3 d1 d2 d3) (G4 : Fun K "_is_sign" "_is_sign" sIsSign f4 d4) (g4 : mg "_is_sign" = some (.ref f4)) (Z : Ke P K mg cN cC cB cS eN eC eB eS) (S : SCl K C) :
    FnOk P w K mg base (L2.CX P w) 3 f fd ["self", "pairs"] (spInit K cN cC cB C) := by
  obtain ⟨tM, mM⟩ := Z.ms
  have b4 : Binds K d4 ["value"] [] := G4.binds fun _ _ _ _ _ _ us hl => match us, hl with | [_], _ => rfl
  refine F.okX scInit (fun vs H Q E h => ?_) (fun cdv A outer s H vs Q E hr h => ?_)
  · obtain ⟨x, v, d, dx, rfl, _⟩ := h
    rfl
  · obtain ⟨x, v, d, dx, rfl, hx, hd, hs, q⟩ := h
    have hu := hu_of hr
    refine ⟨_, pss_cons (ps_if (pt_not (pt_val (pe_callB call_isi (by rfl) T.t.isi (by decide +kernel) (pa_cons (pv 1) (pa_cons (pe_bltn (v := .ty "list") (by rfl) Z.lst (by decide +kernel) rfl) pa_nil)))))
        (pss_one (ps_raise rfl (takes_of rfl rfl rfl rfl) (pmk_err0 Z.hN Z.sup hr (raises_own Z.rN.1 Z.rN.2) Z.gN))) pss_nil)
      (pss_cons (ps_if (pt_not (pt_chain op_le op_le pe_int (pe_callB call_len_seq (by rfl) T.t.len PySem.boot_len (pa_cons (pv 1) pa_nil)) (pe_glob (v := .int 5) rfl mM ⟨_, rfl⟩)))
        (pss_one (ps_raise rfl (takes_of rfl rfl rfl rfl) (pmk_err0 Z.hC Z.sup hr (raises_own Z.rC.1 Z.rC.2) Z.gC))) pss_nil)
      (pss_cons (ps_fld (pv 0) pe_dnewK rfl)
      (pss_one (ps_for (passes_of rfl) rfl (pi_enum (by rfl) Z.enu (pa_cons (pv 1) pa_nil)) (pg_tup rfl (pgs_cons (pg_name (i := 2) scInit.nd rfl (Or.inl rfl)) (pgs_cons (pg_name (i := 3) scInit.nd rfl (Or.inl rfl)) pgs_nil)))
        (pss_cons (ps_if (PW.pt (pw_or (pt_not (pt_val (pe_call (ok_isSign G4 T) hr rfl g4 G4.kp b4 .nil pass0 (pa_cons (pv 3) pa_nil))))
            (pw_or1 (pt_cmp (pc_din hu (pe_ix ix_tup (pv 3) pe_int fun _ _ => rfl) (pe_fld (pv 0) rfl))))))
          (pss_one (ps_raise rfl (takes_of rfl rfl rfl rfl) (pmk_err1 Z.hB Z.sup hr (raises_own Z.rB.1 Z.rB.2) Z.gB (pv 2)))) pss_nil)
        (pss_one (ps_dput hu (pe_fld (pv 0) rfl) (pe_ix ix_tup (pv 3) pe_int fun _ _ => rfl) (pe_ix ix_tup (pv 3) pe_int fun _ _ => rfl) rfl))))))), ?_⟩
    refine ⟨_, rfl, v, .ty "list", .type (tyD d), .type "list", _, rfl, .ty _, ty_dp hd, kit_ty (k_list d), _, rfl, ?_⟩
    cases d with
    | list ds =>
      cases hd with
      | lst h1 h2 =>
        rename_i a xs
        have hl := dpAll_len h2
        refine iteF ?_
        have q : InitEnd cN cC cB C H x Q E (madeL ds) := q
        refine ⟨_, rfl, a, _, rfl, .inl h1, _, _, rfl, rfl, _, rfl, ?_⟩
        refine ite2 (fun c1 => ?_) (fun c1 => ?_)
        · have c1 := of_decide_eq_true c1
          refine ⟨_, _, rfl, rfl, _, rfl, ?_⟩
          refine ite2 (fun c2 => ?_) (fun c2 => ?_)
          · rw [show madeL ds = .count from if_neg (by simp at c2; omega)] at q
            exact q H (SameX.refl x H)
          · have c2 : (xs.length : Int) ≤ 5 := by simpa using c2
            unfold madeL at q
            rw [if_pos (show 1 ≤ ds.length ∧ ds.length ≤ 5 by omega)] at q
            refine fun dn hdn => ?_
            have hxd : x ≠ dn := ne_of_none hx hdn
            refine ⟨_, rfl, x, C, dx, [], rfl, (by rw [upd_ne hxd]; exact hx), S.cl, S.na, by decide, ?_⟩
            have s0 : SameX x H (L2.upd (L2.upd H dn (.dK [])) x (.ins C dx (putF "_arities" (.ref dn) []))) := ((SameX.refl x H).new hdn).upd
            refine ⟨_, rfl, a, xs, rfl, (s0.seqK hx).l _ _ h1, ?_⟩
            refine for_it (walk_enum (xs := xs)) (fun i σ H' => ∃ acc p r, σ = [some (.ref x), some (.ref a), p, r] ∧ SameX x H H' ∧ build ds [] 0 = build (ds.drop i) acc i ∧ acc.length ≤ i ∧ H' x = some (.ins C dx [("_arities", .ref dn)]) ∧ H' dn = some (.dK (kvsOf acc)))
              ⟨[], none, none, rfl, s0, rfl, Nat.le_refl _, upd_same, by rw [upd_ne hxd.symm, upd_same]; rfl⟩ (fun i σ H' hi hp => ?_) (fun i y σ H' H2 hi hp hy => ?_) (fun σ H' hp => ?_)
            · obtain ⟨acc, p, r, rfl, s1, _⟩ := hp
              exact (s1.seqK hx).l _ _ h1
            · obtain ⟨acc, p, r, rfl, s1, hb, hal, h3, h4⟩ := hp
              obtain ⟨T, n, z, rfl, hT, rfl, e1, e2⟩ := hy
              cases e1
              have hTn : x ≠ T := ne_of_none h3 hT
              have hTd : dn ≠ T := ne_of_none h4 hT
              have s2 : SameX x H (L2.upd H' T (.tup [.int (i : Nat), z])) := fun b o e n => by
                have := s1 b o e n
                rw [upd_ne (ne_of_none this hT)]
                exact this
              obtain ⟨dz, e3, hz⟩ := dpAll_get' h2 e2
              have e4 : ds.drop i = dz :: ds.drop (i + 1) := by
                obtain ⟨h, e⟩ := List.getElem?_eq_some_iff.mp e3
                rw [List.drop_eq_getElem_cons h, e]
              rw [e4] at hb
              refine ⟨T, _, rfl, SqT.of upd_same, rfl, ?_⟩
              refine ⟨_, _, rfl, _, _, rfl, rfl, ?_⟩
              have q' := q
              rw [hb] at q
              refine ⟨_, rfl, z, dz, rfl, dp_seq (s2.seqK hx) _ _ hz, hs dz (List.mem_of_getElem? e3), fun H3 s3 => ⟨_, rfl, ?_⟩⟩
              have s4 : SameX x H H3 := s2.trans (Same.x s3)
              have h5 : H3 x = some (.ins C dx [("_arities", .ref dn)]) := s3 _ _ (by rw [upd_ne hTn]; exact h3)
              have h6 : H3 dn = some (.dK (kvsOf acc)) := s3 _ _ (by rw [upd_ne hTd]; exact h4)
              have fail : (isSign dz && !hasN acc (prOf dz).1) = false → ∀ d, H3 d = none → E (.ref cB) (some d) (L2.upd H3 d (.xd [("number", .int (i : Nat))])) := fun e d hd => by
                have e5 : build (dz :: ds.drop (i + 1)) acc i = .bad i := by
                  unfold build
                  rw [if_neg (by rw [e]; simp)]
                rw [e5] at q
                exact q _ d (fun b o e n => by rw [upd_ne (ne_of_none (s4 b o e n) hd)]; exact s4 b o e n) (by
                  cases z : H d with
                  | none => rfl
                  | some o =>
                    by_cases hxx : d = x
                    · subst hxx; rw [h5] at hd; cases hd
                    · rw [s4 d o z hxx] at hd; cases hd) upd_same
              refine ite2 (fun c3 => ?_) (fun c3 => ?_)
              · have c3 : isSign dz = false := by simpa using c3
                exact ⟨_, rfl, fail (by rw [c3]; rfl)⟩
              · have c3 : isSign dz = true := by simpa using c3
                obtain ⟨zz, nn, rfl, epr, hw, hn0, hn3⟩ := isSign_pr c3
                cases hz with
                | tup g1 g2 =>
                  rename_i tz xz
                  cases g2 with
                  | cons gx g2 =>
                    cases g2 with
                    | cons gy g2 =>
                      cases g2
                      cases gx
                      cases gy
                      have g1 := (s4.seqK hx).t _ _ g1
                      refine ⟨_, rfl, tz, _, 0, .str zz, rfl, rfl, g1, rfl, ?_⟩
                      refine ⟨_, rfl, x, C, dx, _, .ref dn, rfl, h5, S.cl, S.na, rfl, ?_⟩
                      refine ⟨dn, _, rfl, DGet.k (k := Sum.inr zz) h6, _, rfl, ?_⟩
                      rw [kvs_val]
                      refine ite2 (fun c4 => ?_) (fun c4 => ?_)
                      · exact ⟨_, rfl, fail (by rw [c3, epr, c4]; rfl)⟩
                      · have c4 : hasN acc zz = false := by simpa using c4
                        refine ⟨_, rfl, tz, _, 1, .int nn, rfl, rfl, g1, rfl, ?_⟩
                        refine ⟨_, rfl, x, C, dx, _, .ref dn, rfl, h5, S.cl, S.na, rfl, ?_⟩
                        refine ⟨_, rfl, tz, _, 0, .str zz, rfl, rfl, g1, rfl, ?_⟩
                        have hi5 : acc.length < sizeLine := by
                          have : acc.length < 1000 := by omega
                          exact Nat.lt_trans this (by decide)
                        refine ⟨dn, _, rfl, DPut.k (k := Sum.inr zz) h6 (by unfold kvsOf; rw [List.length_map]; exact hi5), ?_⟩
                        refine ⟨acc ++ [(zz, nn)], _, _, rfl, ?_, ?_, ?_, ?_, ?_⟩
                        · exact s4.new hdn
                        · rw [hb]
                          conv => lhs; unfold build
                          rw [if_pos (by rw [c3, epr, c4]; rfl), epr]
                        · rw [List.length_append]
                          exact Nat.succ_le_succ hal
                        · rw [upd_ne hxd]; exact h5
                        · rw [upd_same, kvs_put c4]
            · obtain ⟨acc, p, r, rfl, s1, hb, hal, h3, h4⟩ := hp
              have e : build ds [] 0 = .ok acc := by
                rw [hb, hl, List.drop_length]
                unfold build
                rfl
              rw [e] at q
              exact q H' s1 ⟨dx, dn, h3, h4⟩
        · rw [show madeL ds = .count from if_neg (by simp at c1; omega)] at q
          exact ⟨_, rfl, iteT (q H (SameX.refl x H))⟩
    | _ => exact iteT (q H (SameX.refl x H))
end
end Sg

set_option maxRecDepth 100000
set_option maxHeartbeats 4000000
namespace Sg
open PySem PySem.Spec PyProof.Rows L2 Dr Gd Er Cm
abbrev sNames : Stmt := inClass sSigns 1
abbrev sWays : Stmt := inClass sSigns 2
abbrev sArity : Stmt := inClass sSigns 3
abbrev sHas : Stmt := inClass sSigns 4
abbrev sLen : Stmt := inClass sSigns 5
abbrev sEq : Stmt := inClass sSigns 6
def hasD (ps : List (Str × Int)) : PyData → Bool
  | .str z => hasN ps z
  | _ => false
def arOf (ps : List (Str × Int)) (z : Str) : Option Int := (ps.find? fun p => decide (p.1 = z)).map (·.2)
def arD (ps : List (Str × Int)) : PyData → Option Int
  | .str z => arOf ps z
  | _ => none
theorem kvs_valI (ps : List (Str × Int)) (z : Str) : valV (kvsOf ps) (Sum.inr z) = (arOf ps z).map V.int := by
  induction ps with
  | nil => rfl
  | cons p r ih =>
    by_cases h : p.1 = z
    · have e : arOf (p :: r) z = some p.2 := by unfold arOf; rw [List.find?_cons_of_pos (by simp [h])]; rfl
      rw [e]
      unfold kvsOf valV
      simp [h]
    · have e : arOf (p :: r) z = arOf r z := by unfold arOf; rw [List.find?_cons_of_neg (by simp [h])]
      rw [e, ← ih]
      unfold kvsOf valV
      simp [h]
theorem arOf_has (ps : List (Str × Int)) (z : Str) : (arOf ps z).isSome = hasN ps z := by
  rw [← kvs_val, kvs_valI]
  cases arOf ps z <;> rfl
def psD (ps : List (Str × Int)) : PyData := .list (ps.map fun p => .tuple [.str p.1, .int p.2])
theorem psD_eqvAll : ∀ ps qs : List (Str × Int), PyData.eqvAll (ps.map fun p => .tuple [.str p.1, .int p.2]) (qs.map fun p => .tuple [.str p.1, .int p.2]) = decide (ps = qs)
  | [], [] => rfl
  | [], _ :: _ => rfl
  | _ :: _, [] => rfl
  | p :: ps, q :: qs => by
    show (PyData.eqv (.tuple [.str p.1, .int p.2]) (.tuple [.str q.1, .int q.2]) && _) = _
    rw [psD_eqvAll ps qs]
    obtain ⟨a, b⟩ := p
    obtain ⟨c, d⟩ := q
    show (((a == c) && ((b == d) && true)) && decide (ps = qs)) = decide ((a, b) :: ps = (c, d) :: qs)
    rw [Bool.and_true]
    by_cases h1 : a = c <;> by_cases h2 : b = d <;> by_cases h3 : ps = qs <;> simp [h1, h2, h3]
theorem psD_eqv (ps qs : List (Str × Int)) : PyData.eqv (psD ps) (psD qs) = decide (ps = qs) := psD_eqvAll ps qs
def OkNames (ps : List (Str × Int)) : Prop := ∀ p ∈ ps, PyData.strOk p.1 = true
theorem psD_lay : ∀ ps : List (Str × Int), OkNames ps → PyData.canLayAll0 (ps.map fun p => .tuple [.str p.1, .int p.2]) = true
  | [], _ => rfl
  | p :: ps, h => by
    show (PyData.canLay0 (.tuple [.str p.1, .int p.2]) && _) = true
    rw [psD_lay ps fun q hq => h q (List.mem_cons_of_mem _ hq)]
    show ((PyData.strOk p.1 && (true && true)) && true) = true
    rw [h p List.mem_cons_self]
    rfl
theorem psD_dep : ∀ ps : List (Str × Int), PyData.depthAll (ps.map fun p => .tuple [.str p.1, .int p.2]) ≤ 2
  | [] => by simp [PyData.depthAll]
  | p :: ps => by
    have := psD_dep ps
    simp only [List.map_cons, PyData.depthAll]
    refine Nat.max_le.mpr ⟨?_, this⟩
    simp [PyData.depth, PyData.depthAll]
theorem psD_shaped {ps : List (Str × Int)} (h : OkNames ps) : SeqAt.shaped (psD ps) = true := by
  unfold SeqAt.shaped
  rw [Bool.and_eq_true]
  refine ⟨psD_lay ps h, decide_eq_true ?_⟩
  have := psD_dep ps
  show PyData.depth (.list _) ≤ 64
  simp only [PyData.depth]
  omega
/-- further facts of the class -/
structure SClx (K : PySem.W.Frag) (C : Addr) : Prop extends SCl K C where
  ca : PySem.W.findIn K (.ref C) "__class__" = some (some (.builtin "object.__class__"))
  cg : PySem.W.specialIn K (.builtin "object.__class__") "__get__" = some (some (.builtin "getset_descriptor.__get__"))
  ct : PySem.W.takesIn K (.builtin "object.__class__") = some true
  cm : PySem.W.mroIn K C (.type "object") = some true
  kC : PySem.W.kitOne K (.ref C) (.ref C) = some true
  kL : PySem.W.kitOne K (.type "list") (.ref C) = some false
theorem SClx.ty {K : PySem.W.Frag} {C : Addr} (S : SClx K C) {H : Hp} {x : Addr} {ps : List (Str × Int)} (h : SgAt C H x ps) : TyX K H (.ref x) (.ref C) := by
  obtain ⟨dx, d, h1, _⟩ := h
  exact .base (.ins h1 S.cl S.ca S.cg S.ct S.cm)
theorem SgAt.same {C x : Addr} {H H' : Hp} {ps : List (Str × Int)} (h : SgAt C H x ps) (s : Same H H') : SgAt C H' x ps := by
  obtain ⟨dx, d, h1, h2⟩ := h
  exact ⟨dx, d, s _ _ h1, s _ _ h2⟩
def spHas (K : PySem.W.Frag) (C : Addr) : Sp := fun vs H Q _ => ∃ x v d ps, vs = [.ref x, v] ∧ SgAt C H x ps ∧ Dp K H v d ∧ Q (.bl (hasD ps d)) H
def spLen (C : Addr) : Sp := fun vs H Q _ => ∃ x ps, vs = [.ref x] ∧ SgAt C H x ps ∧ Q (.int (ps.length : Nat)) H
def spAr (K : PySem.W.Frag) (cS C : Addr) : Sp := fun vs H Q E => ∃ x v d ps, vs = [.ref x, v] ∧ SgAt C H x ps ∧ Dp K H v d ∧
  (∀ n, arD ps d = some n → Q (.int n) H) ∧ (arD ps d = none → ∀ dd, H dd = none → E (.ref cS) (some dd) (L2.upd H dd (.xd [("name", v)])))
def spNames (C : Addr) : Sp := fun vs H Q _ => ∃ x ps, vs = [.ref x] ∧ SgAt C H x ps ∧ ∀ p, H p = none → Q (.ref p) (L2.upd H p (.lst (ps.map fun q => .str q.1)))
def waysOf (ps : List (Str × Int)) : List Str := (ps.filter fun p => decide (p.2 > 1)).map (·.1)
def spWays (C : Addr) : Sp := fun vs H Q _ => ∃ x ps, vs = [.ref x] ∧ SgAt C H x ps ∧ ps.length ≤ 5 ∧ (ps.map (·.1)).Nodup ∧ ∀ H' ys p, Same H H' → H p = none → ys.Perm (waysOf ps) → sortedS ys = true → H' p = some (.lst (ys.map V.str)) → Q (.ref p) H'
def spEq (K : PySem.W.Frag) (C : Addr) : Sp := fun vs H Q _ => ∃ x v ps, vs = [.ref x, v] ∧ SgAt C H x ps ∧ OkNames ps ∧
  ((∃ ds, Dp K H v (.list ds) ∧ Q (.bl false) H) ∨ ∃ y qs, v = .ref y ∧ SgAt C H y qs ∧ OkNames qs ∧ ∀ H', Same H H' → Q (.bl (decide (ps = qs))) H')
section
variable {P : Program} {w : World} {K : PySem.W.Frag} {mg : Str → Option Value} {base : Heap} {f1 f2 f3 f4 : Addr} {d1 d2 d3 d4 : FuncData} {cN cC cB cS eN eC eB eS C : Addr}
theorem scHas : FnScope ["self", "name"] ["self", "name"] (defScope sHas) := ⟨rfl, rfl, rfl, by decide +kernel, rfl, by decide +kernel, by decide +kernel⟩
theorem ok_has {f : Addr} {fd : FuncData} (F : Fun K "__contains__" "Signs.__contains__" sHas f fd) (T : KTxt mg) (S : SCl K C) : FnOk P w K mg base CX0 1 f fd ["self", "name"] (spHas K C) := by
  refine F.ok scHas (fun vs H Q E h => ?_) (fun cdv A outer s H vs Q E hr h => ?_)
  · obtain ⟨x, v, d, ps, rfl, _⟩ := h
    rfl
  · obtain ⟨x, v, d, ps, rfl, ⟨dx, dn, h1, h2⟩, hd, q⟩ := h
    have hu := hu_of hr
    refine ⟨_, pss_one (ps_ret (pe_and (pe_callB call_isi (by rfl) T.isi (by decide +kernel) (pa_cons (pv 1) (pa_cons (pe_bltn (v := .ty "str") (by rfl) T.str (by decide +kernel) rfl) pa_nil)))
      (pe_one (pe_cmp (pc_din hu (pv 1) (pe_fld (pv 0) rfl)) rfl)))), ?_⟩
    refine ⟨_, rfl, v, .ty "str", .type (tyD d), .type "str", _, rfl, .ty _, ty_dp hd, kit_ty (k_str d), _, rfl, ?_⟩
    cases d with
    | str z =>
      cases hd
      refine iteT ?_
      refine ⟨_, rfl, _, rfl, x, C, dx, _, .ref dn, rfl, h1, S.cl, S.na, rfl, ?_⟩
      refine ⟨dn, _, rfl, DGet.k (k := Sum.inr z) h2, ?_⟩
      rw [kvs_val]
      exact q
    | _ => exact iteF q
theorem scLen : FnScope ["self"] ["self"] (defScope sLen) := ⟨rfl, rfl, rfl, by decide +kernel, rfl, by decide +kernel, by decide +kernel⟩
theorem ok_len {f : Addr} {fd : FuncData} (F : Fun K "__len__" "Signs.__len__" sLen f fd) (T : KTxt mg) (S : SCl K C) : FnOk P w K mg base CX0 1 f fd ["self"] (spLen C) := by
  refine F.ok scLen (fun vs H Q E h => ?_) (fun cdv A outer s H vs Q E hr h => ?_)
  · obtain ⟨x, ps, rfl, _⟩ := h
    rfl
  · obtain ⟨x, ps, rfl, ⟨dx, dn, h1, h2⟩, q⟩ := h
    refine ⟨_, pss_one (ps_ret (pe_callB call_lenD (by rfl) T.len PySem.boot_len (pa_cons (pe_fld (pv 0) rfl) pa_nil))), ?_⟩
    refine ⟨_, rfl, x, C, dx, _, .ref dn, rfl, h1, S.cl, S.na, rfl, dn, _, rfl, h2, ?_⟩
    rw [show (kvsOf ps).length = ps.length from List.length_map ..]
    exact q
theorem scNm : FnScope ["self"] ["self"] (defScope sNames) := ⟨rfl, rfl, rfl, by decide +kernel, rfl, by decide +kernel, by decide +kernel⟩
theorem ok_names {f : Addr} {fd : FuncData} (F : Fun K "names" "Signs.names" sNames f fd) (hl : mg "list" = none) (S : SCl K C) : FnOk P w K mg base CX0 1 f fd ["self"] (spNames C) := by
  refine F.ok scNm (fun vs H Q E h => ?_) (fun cdv A outer s H vs Q E hr h => ?_)
  · obtain ⟨x, ps, rfl, _⟩ := h
    rfl
  · obtain ⟨x, ps, rfl, ⟨dx, dn, h1, h2⟩, q⟩ := h
    refine ⟨_, pss_one (ps_ret (pe_callTy (call_listD rfl) (by rfl) hl (by decide +kernel) (pa_cons (pe_fld (pv 0) rfl) pa_nil))), ?_⟩
    refine ⟨_, rfl, x, C, dx, _, .ref dn, rfl, h1, S.cl, S.na, rfl, dn, _, rfl, .inl h2, fun p hp => ?_⟩
    have e : (kvsOf ps).map (fun kv => kV kv.1) = ps.map fun q => V.str q.1 := by
      unfold kvsOf
      rw [List.map_map]
      rfl
    rw [e]
    exact q p hp
end
end Sg

set_option maxRecDepth 100000
set_option maxHeartbeats 4000000
namespace Sg
open PySem PySem.Spec PyProof.Rows L2 Dr Gd Er Cm Ow
theorem arOf_at : ∀ {ps : List (Str × Int)} {i : Nat} {z : Str} {n : Int}, (ps.map (·.1)).Nodup → ps[i]? = some (z, n) → arOf ps z = some n
  | [], i, z, n, _, h => by simp at h
  | p :: ps, 0, z, n, _, h => by
    simp at h
    subst h
    unfold arOf
    rw [List.find?_cons_of_pos (by simp)]
    rfl
  | p :: ps, i + 1, z, n, hn, h => by
    have h : ps[i]? = some (z, n) := by simpa using h
    obtain ⟨h1, h2⟩ := List.nodup_cons.mp (show (p.1 :: ps.map (·.1)).Nodup from hn)
    have hz : ¬ p.1 = z := fun e => h1 (by
      rw [e]
      exact List.mem_map.mpr ⟨(z, n), List.mem_of_getElem? h, rfl⟩)
    unfold arOf
    rw [List.find?_cons_of_neg (by simpa using hz)]
    exact arOf_at h2 h
section
variable {P : Program} {w : World} {K : PySem.W.Frag} {mg : Str → Option Value} {base : Heap} {f1 f2 f3 f4 fh : Addr} {d1 d2 d3 d4 dh : FuncData} {cN cC cB cS eN eC eB eS C : Addr}
structure HasAt (K : PySem.W.Frag) (C fh : Addr) (dh : FuncData) : Prop where
  F : Fun K "__contains__" "Signs.__contains__" sHas fh dh
  at_ : PySem.W.findIn K (.ref C) "__contains__" = some (some (.ref fh))
  fn : PySem.W.isFn K (.ref fh) = true
theorem HasAt.b (h : HasAt K C fh dh) : Binds K dh ["self", "name"] [] := h.F.binds fun _ _ _ _ _ _ us hl => match us, hl with | [_, _], _ => rfl
theorem scAr : FnScope ["self", "name"] ["self", "name"] (defScope sArity) := ⟨rfl, rfl, rfl, by decide +kernel, rfl, by decide +kernel, by decide +kernel⟩
theorem ok_arity {f : Addr} {fd : FuncData} (F : Fun K "arity" "Signs.arity" sArity f fd) (T : KTxt mg) (Z : Ke P K mg cN cC cB cS eN eC eB eS) (S : SCl K C) (h4 : HasAt K C fh dh) : FnOk P w K mg base (L2.CX P w) 2 f fd ["self", "name"] (spAr K cS C) := by
  refine F.okX scAr (fun vs H Q E h => ?_) (fun cdv A outer s H vs Q E hr h => ?_)
  · obtain ⟨x, v, d, ps, rfl, _⟩ := h
    rfl
  · obtain ⟨x, v, d, ps, rfl, hS, hd, q1, q2⟩ := h
    have hu := hu_of hr
    refine ⟨_, pss_cons (ps_if (pt_cmpR (op_notInOwn (ok_has h4.F T S) hr h4.at_ h4.fn h4.b pass0) (pv 1) (pv 0) (by rfl)) (pss_one (ps_raise rfl (takes_of rfl rfl rfl rfl) (pmk_err1 Z.hS Z.sup hr (raises_own Z.rS.1 Z.rS.2) Z.gS (pv 1)))) pss_nil)
      (pss_one (ps_ret (pe_dget hu (pe_fld (pv 0) rfl) (pv 1) fun _ _ => rfl))), ?_⟩
    obtain ⟨dx, dn, h1, h2⟩ := id hS
    refine ⟨_, rfl, _, rfl, x, dx, _, rfl, h1, x, v, d, ps, rfl, hS, hd, _, rfl, _, rfl, ?_⟩
    refine ite2 (fun c => ?_) (fun c => ?_)
    · have c : hasD ps d = false := by simpa using c
      have e : arD ps d = none := by
        cases d with
        | str z =>
          have c : hasN ps z = false := c
          rw [← arOf_has] at c
          show arOf ps z = none
          cases q : arOf ps z with
          | none => rfl
          | some n => rw [q] at c; cases c
        | _ => rfl
      exact ⟨_, rfl, q2 e⟩
    · have c : hasD ps d = true := by simpa using c
      cases d with
      | str z =>
        cases hd
        have c : hasN ps z = true := c
        rw [← arOf_has] at c
        obtain ⟨n, en⟩ := Option.isSome_iff_exists.mp c
        refine ⟨_, rfl, x, C, dx, _, .ref dn, rfl, h1, S.cl, S.na, rfl, ?_⟩
        refine ⟨_, rfl, dn, .int n, rfl, ?_, q1 n en⟩
        have e : (some (V.int n)) = valV (kvsOf ps) (Sum.inr z) := by rw [kvs_valI, en]; rfl
        rw [e]
        exact DGet.k (k := Sum.inr z) h2
      | _ => cases c
theorem scEq : FnScope ["self", "other"] ["self", "other"] (defScope sEq) := ⟨rfl, rfl, rfl, by decide +kernel, rfl, by decide +kernel, by decide +kernel⟩
theorem dp_items {K : PySem.W.Frag} {H : Hp} : ∀ {ts : List Addr} {ps : List (Str × Int)}, Paired (fun (t : Addr) (q : Key × V) => H t = some (.tup [kV q.1, q.2])) ts (kvsOf ps) → DpAll K H (ts.map V.ref) (ps.map fun p => .tuple [.str p.1, .int p.2])
  | [], [], _ => .nil
  | t :: ts, p :: ps, h => by
    cases h with
    | cons a b => exact .cons (.tup (SqT.of a) (.cons (.str _) (.cons (.int _) .nil))) (dp_items b)
theorem ok_eq {f : Addr} {fd : FuncData} (F : Fun K "__eq__" "Signs.__eq__" sEq f fd) (T : KTxt mg) (hl : mg "list" = none) (gC : mg "Signs" = some (.ref C)) (S : SClx K C) : FnOk P w K mg base CX0 1 f fd ["self", "other"] (spEq K C) := by
  refine F.ok scEq (fun vs H Q E h => ?_) (fun cdv A outer s H vs Q E hr h => ?_)
  · obtain ⟨x, v, ps, rfl, _⟩ := h
    rfl
  · obtain ⟨x, v, ps, rfl, hS, hok, h⟩ := h
    have hu := hu_of hr
    refine ⟨_, pss_one (ps_ret (pe_and (pe_callB call_isi (by rfl) T.isi (by decide +kernel) (pa_cons (pv 1) (pa_cons (pe_glob (v := .ref C) rfl gC rfl) pa_nil)))
      (pe_one (pe_cmpR (op_eqD hr.units) (LiI.pe_listItems rfl (pe_fld (pv 0) rfl) (by rfl) hl (by decide +kernel)) (LiI.pe_listItems rfl (pe_fld (pv 1) rfl) (by rfl) hl (by decide +kernel)) (nomark _))))), ?_⟩
    rcases h with ⟨ds, hd, q⟩ | ⟨y, qs, rfl, hY, hoy, q⟩
    · exact ⟨_, rfl, v, .ref C, .type "list", .ref C, _, rfl, .own _, ty_dp hd, S.kL, _, rfl, iteF q⟩
    · refine ⟨_, rfl, .ref y, .ref C, .ref C, .ref C, _, rfl, .own _, S.ty hY, S.kC, _, rfl, iteT ?_⟩
      obtain ⟨dx, dn, h1, h2⟩ := hS
      obtain ⟨dy, dm, g1, g2⟩ := hY
      refine ⟨_, rfl, x, C, dx, _, .ref dn, rfl, h1, S.cl, S.na, rfl, dn, _, rfl, h2, fun H1 p ts s1 hp hts hpt e1 e2 => ?_⟩
      refine ⟨_, rfl, y, C, dy, _, .ref dm, rfl, s1 _ _ g1, S.cl, S.na, rfl, dm, _, rfl, s1 _ _ g2, fun H2 p' ts' s2 hp' hts' hpt' e1' e2' => ?_⟩
      refine ⟨psD ps, psD qs, dp_same s2 _ _ (.lst (SqL.of e1) (dp_items e2)), .lst (SqL.of e1') (dp_items e2'), psD_shaped hok, psD_shaped hoy, ?_⟩
      rw [psD_eqv]
      exact q H2 (Same.trans s1 s2)
end
end Sg

set_option maxRecDepth 100000
set_option maxHeartbeats 4000000
namespace Sg
open PySem PySem.Spec PyProof.Rows L2 Dr Gd Er Cm Ow
section
variable {P : Program} {w : World} {K : PySem.W.Frag} {mg : Str → Option Value} {base : Heap} {f1 f2 f3 f4 fh : Addr} {d1 d2 d3 d4 dh : FuncData} {cN cC cB cS eN eC eB eS C : Addr}
theorem scWy : FnScope ["self", "name"] ["self"] (defScope sWays) := ⟨rfl, rfl, rfl, by decide +kernel, rfl, by decide +kernel, by decide +kernel⟩
theorem ways_take {ps : List (Str × Int)} {i : Nat} {z : Str} {n : Int} (h : ps[i]? = some (z, n)) : waysOf (ps.take (i + 1)) = if n > 1 then waysOf (ps.take i) ++ [z] else waysOf (ps.take i) := by
  unfold waysOf
  rw [List.take_succ, h]
  show ((ps.take i ++ [(z, n)]).filter _).map _ = _
  rw [List.filter_append]
  by_cases c : n > 1
  · rw [if_pos c, List.filter_cons_of_pos (by simpa using c), List.map_append]
    rfl
  · rw [if_neg c, List.filter_cons_of_neg (by simpa using c)]
    simp
theorem ways_len (ps : List (Str × Int)) : (waysOf ps).length ≤ ps.length := by
  unfold waysOf
  rw [List.length_map]
  exact List.length_filter_le _ _
theorem ok_ways {f : Addr} {fd : FuncData} (F : Fun K "ways" "Signs.ways" sWays f fd) (hs : mg "sorted" = none) (S : SCl K C) : FnOk P w K mg base CX0 1 f fd ["self"] (spWays C) := by
  refine F.ok scWy (fun vs H Q E h => ?_) (fun cdv A outer s H vs Q E hr h => ?_)
  · obtain ⟨x, ps, rfl, _⟩ := h
    rfl
  · obtain ⟨x, ps, rfl, ⟨dx, dn, h1, h2⟩, h5, nd, q⟩ := h
    have hu := hu_of hr
    refine ⟨_, pss_one (ps_ret (pe_callB cr_sortedS (by rfl) hs (by decide +kernel) (pa_cons (pe_lock
      (pe_lc (own := [("name", 1)]) (g := gName 1) (tt := tTest (tOp (rI0 fun i j => .bl (decide (j < i))) (tDGet (tFld K (tVar 0) "_arities") (tVar 1)) (tC (.int 1)))) rfl scWy.nd (pi_keys (pe_fld (pv 0) rfl)) (blkOk_by (N := ["self", "name"]) (sc := defScope sWays) (by decide +kernel)) (fun _ _ _ _ _ => pg_name (i := 1) scWy.nd rfl (Or.inl rfl))
        (fun _ _ _ _ _ => by
          refine pts_one ?_
          refine pt_cmpR op_gt ?_ pe_int (nomark _)
          refine pe_dget ?_ ?_ ?_ (fun _ _ => rfl)
          · exact hu
          · refine pe_fld ?_ ?_
            · exact pv 0
            · rfl
          · exact pv 1) (fun _ _ _ _ _ => pv 1))) pa_nil))), ?_⟩
    refine ⟨dn, .dK (kvsOf ps), h2, trivial, fun od => ?_⟩
    have hxd : x ≠ dn := ne_of h1 h2 (by intro z; cases z)
    have e1 : (L2.upd H dn (.frz od (.dK (kvsOf ps)))) x = some (.ins C dx [("_arities", .ref dn)]) := by rw [upd_ne hxd]; exact h1
    refine ⟨_, rfl, x, C, dx, _, .ref dn, rfl, e1, S.cl, S.na, rfl, dn, od, rfl, .inl ⟨_, upd_same, fun D hD => ?_⟩⟩
    have hDd : D ≠ dn := fun z => by rw [z, upd_same] at hD; cases hD
    have hDx : D ≠ x := fun z => by rw [z, e1] at hD; cases hD
    have hD0 : H D = none := by rw [upd_ne hDd] at hD; exact hD
    have lk : (kvsOf ps).length = ps.length := List.length_map ..
    refine lc_it (walk_keys (kvs := kvsOf ps)) (fun i H' => H' = L2.upd (L2.upd H dn (.frz od (.dK (kvsOf ps)))) D (.lst ((waysOf (ps.take i)).map V.str))) rfl (fun i H' hi hp => by rw [hp, upd_ne hDd.symm, upd_same]) (fun i y H1 H2 hi hp hy => ?_) (fun H' hp => ?_)
    · subst hp
      obtain ⟨rfl, k, v, ek, rfl⟩ := hy
      rw [lk] at hi
      obtain ⟨z, n, ep⟩ : ∃ z n, ps[i]? = some (z, n) := ⟨_, _, List.getElem?_eq_getElem hi⟩
      have ek' : (k, v) = (Sum.inr z, V.int n) := by
        unfold kvsOf at ek
        rw [List.getElem?_map, ep] at ek
        exact (Option.some.inj ek).symm
      cases ek'
      have g1 : (L2.upd (L2.upd H dn (.frz od (.dK (kvsOf ps)))) D (.lst ((waysOf (ps.take i)).map V.str))) x = some (.ins C dx [("_arities", .ref dn)]) := by rw [upd_ne hDx.symm]; exact e1
      have g2 : (L2.upd (L2.upd H dn (.frz od (.dK (kvsOf ps)))) D (.lst ((waysOf (ps.take i)).map V.str))) dn = some (.frz od (.dK (kvsOf ps))) := by rw [upd_ne hDd.symm, upd_same]
      refine ⟨rfl, ?_⟩
      refine ⟨_, rfl, x, C, dx, _, .ref dn, rfl, g1, S.cl, S.na, rfl, ?_⟩
      refine ⟨_, rfl, dn, .int n, rfl, .inl ⟨_, Sum.inr z, .inr ⟨_, g2⟩, rfl, by rw [kvs_valI, arOf_at nd ep]; rfl⟩, ?_⟩
      refine ⟨_, _, rfl, rfl, _, rfl, ?_⟩
      refine ite2 (fun c => ?_) (fun c => ?_)
      · have c : n > 1 := of_decide_eq_true c
        refine ⟨_, rfl, _, upd_same, ?_, ?_⟩
        · rw [List.length_map]
          have := ways_len (ps.take i)
          rw [List.length_take] at this
          exact Nat.lt_of_le_of_lt (Nat.le_trans this (Nat.le_trans (Nat.min_le_left _ _) (Nat.le_of_lt (Nat.lt_of_lt_of_le hi h5)))) (by decide)
        · rw [upd2, ways_take ep, if_pos c, List.map_append]
          rfl
      · have c : ¬ n > 1 := fun z => c (decide_eq_true z)
        rw [ways_take ep, if_neg c]
    · subst hp
      rw [lk, List.take_length]
      refine ⟨by rw [upd_ne hDd.symm, upd_same], ?_⟩
      have sm : Same H (L2.upd (L2.upd (L2.upd H dn (.frz od (.dK (kvsOf ps)))) D (.lst ((waysOf ps).map V.str))) dn (.dK (kvsOf ps))) := fun b o e => by
        by_cases hb : b = dn
        · subst hb
          rw [h2] at e
          cases e
          exact upd_same
        · rw [upd_ne hb, upd_ne (ne_of_none e hD0), upd_ne hb]
          exact e
      refine ⟨D, waysOf ps, rfl, SqL.of (by rw [upd_ne hDd, upd_same]), ?_, fun ys p hp1 hp2 hp3 => ?_⟩
      · have := ways_len ps
        omega
      · exact q _ ys p (Same.trans sm (same_upd hp3)) (Same.free sm hp3) hp1 hp2 upd_same
end
end Sg

set_option maxRecDepth 100000
set_option maxHeartbeats 4000000
/-! written data -/
namespace Sg
open PySem PySem.Spec PyProof.Rows L2 Dr Gd Er Cm Ow
/-- what is new in H' -/
def nw (H H' : Hp) : Hp := fun b => if H b = none then H' b else none
theorem nw_at {H H' : Hp} {b : Addr} {o : HO} (h : H b = none) (h' : H' b = some o) : nw H H' b = some o := by unfold nw; rw [if_pos h]; exact h'
theorem nw_inv {H H' : Hp} {b : Addr} {o : HO} (h : nw H H' b = some o) : H b = none ∧ H' b = some o := by
  unfold nw at h
  by_cases e : H b = none
  · rw [if_pos e] at h
    exact ⟨e, h⟩
  · rw [if_neg e] at h
    cases h
theorem nw_same {H H' : Hp} : Same (nw H H') H' := fun b o h => (nw_inv h).2
theorem nw_l {H H1 H2 : Hp} (s : Same H1 H2) : Same (nw H H1) (nw H H2) := fun b o h => nw_at (nw_inv h).1 (s _ _ (nw_inv h).2)
theorem nw_r {H H1 H2 : Hp} (s : Same H H1) : Same (nw H1 H2) (nw H H2) := fun b o h => nw_at (Same.free s (nw_inv h).1) (nw_inv h).2
theorem nw_del {H H' : Hp} {p : Addr} {o : HO} (h : H p = some o) : Same (nw H H') (del H' p) := fun b u e => by
  have hb : b ≠ p := fun z => by
    have := (nw_inv e).1
    rw [z, h] at this
    cases this
  rw [del_ne hb]
  exact (nw_inv e).2
def tDat (K : PySem.W.Frag) (c : L2.St → Prop) (d : PyData) : TE := fun σ H Q => c σ ∧ ∀ v H', Same H H' → Dp K (nw H H') v d → Q v H'
def taDat (K : PySem.W.Frag) (c : L2.St → Prop) (ds : List PyData) : TA := fun σ H Q => c σ ∧ ∀ vs H', Same H H' → DpAll K (nw H H') vs ds → Q vs H'
def tDatL (K : PySem.W.Frag) (c : L2.St → Prop) (ds : List PyData) : TE := fun σ H Q => c σ ∧ ∀ p vs H', Same H H' → H p = none → H' p = some (.lst vs) → DpAll K (nw H H') vs ds → Q (.ref p) H'
section
variable {X : Cx} {e : Expr} {es : List Expr}
theorem pe_imp {t t' : TE} (h : ∀ σ H Q, t' σ H Q → t σ H Q) (q : PE X e t) : PE X e t' := ⟨fun pins s σ H Q I z => q.run pins s σ H Q I (h σ H Q z)⟩
theorem pa_imp {t t' : TA} (h : ∀ σ H Q, t' σ H Q → t σ H Q) (q : PA X es t) : PA X es t' := ⟨fun pos pins s σ H Q I z => q.run pos pins s σ H Q I (h σ H Q z)⟩
end
section
variable {X : Cx} {c : L2.St → Prop} {e : Expr} {es : List Expr} {d : PyData} {ds : List PyData} {pos : Pos}
theorem pd_int {n : Int} {j : Nat} : PE X (.Constant (.int n) j pos) (tDat X.K c (.int n)) := pe_imp (fun σ H Q h => h.2 _ H (Same.refl H) (.int n)) pe_int
theorem pd_str {z : Str} {j : Nat} : PE X (.Constant (.str z) j pos) (tDat X.K c (.str z)) := pe_imp (fun σ H Q h => h.2 _ H (Same.refl H) (.str z)) pe_str
theorem pd_bl {b : Bool} {j : Nat} : PE X (.Constant (.bool b) j pos) (tDat X.K c (.bool b)) := pe_imp (fun σ H Q h => h.2 _ H (Same.refl H) (.bl b)) pe_bl
theorem pd_non {j : Nat} : PE X (.Constant .none j pos) (tDat X.K c .none) := pe_imp (fun σ H Q h => h.2 _ H (Same.refl H) .non) pe_non
theorem pd_neg {n : Int} {j : Nat} {p : Pos} : PE X (.UnaryOp .USub (.Constant (.int n) j p) pos) (tDat X.K c (.int (-n))) := pe_imp (fun σ H Q h => ⟨n, rfl, h.2 _ H (Same.refl H) (.int _)⟩) (pe_un un_neg pe_int)
theorem pd_nil : PA X [] (taDat X.K c []) := pa_imp (fun σ H Q h => h.2 _ H (Same.refl H) .nil) pa_nil
theorem pd_cons (he : PE X e (tDat X.K c d)) (hr : PA X es (taDat X.K c ds)) (hs : starEach (e :: es) X.env = (false, eval e X.env) :: starEach es X.env := by rfl) : PA X (e :: es) (taDat X.K c (d :: ds)) :=
  pa_imp (fun σ H Q h => ⟨h.1, fun v H1 s1 h1 => ⟨h.1, fun vs H2 s2 h2 => h.2 _ H2 (Same.trans s1 s2) (.cons (dp_same (nw_l s2) _ _ h1) (dpAll_same (nw_r s1) _ _ h2))⟩⟩) (pa_cons he hr hs)
theorem pd_lstL (h : PA X es (taDat X.K c ds)) (hl : ds.length ≤ 1000) : PE X (.List es pos) (tDatL X.K c ds) :=
  pe_imp (fun σ H Q h => ⟨h.1, fun vs H1 s1 h1 => ⟨by rw [dpAll_len h1]; exact Nat.le_trans hl (by decide), fun p hp => h.2 p vs _ (Same.trans s1 (same_upd hp)) (Same.free s1 hp) upd_same (dpAll_same (nw_l (same_upd hp)) _ _ h1)⟩⟩) (pe_lst h)
theorem pd_lst (h : PA X es (taDat X.K c ds)) (hl : ds.length ≤ 1000) : PE X (.List es pos) (tDat X.K c (.list ds)) :=
  pe_imp (fun σ H Q h => ⟨h.1, fun p vs H1 s1 hn h1 h2 => h.2 _ H1 s1 (.lst (SqL.of (nw_at hn h1)) h2)⟩) (pd_lstL h hl)
theorem pd_tup {x1 : Nat} (h : PA X es (taDat X.K c ds)) (hl : ds.length ≤ 1000) : PE X (.Tuple es x1 pos) (tDat X.K c (.tuple ds)) :=
  pe_imp (fun σ H Q h => ⟨h.1, fun vs H1 s1 h1 => ⟨by rw [dpAll_len h1]; exact Nat.le_trans hl (by decide), fun p hp => h.2 _ _ (Same.trans s1 (same_upd hp)) (.tup (SqT.of (nw_at (Same.free s1 hp) upd_same)) (dpAll_same (nw_l (same_upd hp)) _ _ h1))⟩⟩) (pe_tup h)
end
end Sg

set_option maxRecDepth 100000
set_option maxHeartbeats 4000000
namespace Sg
open PySem PySem.Spec PyProof.Rows L2 Dr Gd Er Cm Ow
structure Cal (P : Program) (w : World) (K : PySem.W.Frag) (mg : Str → Option Value) (base : Heap) (CX : CXT) (k : Nat) (x : Str) (f : Addr) (fd : FuncData) (ps : List Str) (sp : Sp) : Prop where
  ok : FnOk P w K mg base CX k f fd ps sp
  g : mg x = some (.ref f)
  kp : PySem.W.keepIn K (.ref f) = true
  b : Binds K fd ps []
theorem SameX.del {p : Addr} {H H' : Hp} (s : SameX p H H') : Same (L2.del H p) (L2.del H' p) := fun b o h => by
  by_cases hb : b = p
  · subst hb; rw [del_same] at h; cases h
  · rw [del_ne hb] at h ⊢
    exact s b o h hb
theorem del_upd {p : Addr} {H : Hp} {o : HO} : L2.del (L2.upd H p o) p = L2.del H p := by
  funext b
  by_cases hb : b = p
  · subst hb; rw [del_same, del_same]
  · rw [del_ne hb, del_ne hb, upd_ne hb]
theorem dpAll_mem {K : PySem.W.Frag} {H : Hp} {vs : List V} {ds : List PyData} {v : V} (h : DpAll K H vs ds) (m : v ∈ vs) : ∃ d ∈ ds, Dp K H v d := by
  obtain ⟨i, hi, e⟩ := List.getElem_of_mem m
  obtain ⟨d, h1, h2⟩ := dpAll_get' h (show vs[i]? = some v by rw [List.getElem?_eq_getElem hi, e])
  exact ⟨d, List.mem_of_getElem? h1, h2⟩
def prD (ps : List (Str × Int)) : List PyData := ps.map fun p => .tuple [.str p.1, .int p.2]
theorem seqT_updL {K : PySem.W.Frag} {H : Hp} {l t : Addr} {us xs : List V} {o : HO} (hl : H l = some (.lst us)) (h : SqT K H t xs) : SqT K (L2.upd H l o) t xs := by
  rcases h with (h | ⟨u, h⟩) | h
  · exact .inl (.inl (by rw [upd_ne (ne_of h hl (by intro z; cases z))]; exact h))
  · exact .inl (.inr ⟨u, by rw [upd_ne (ne_of h hl (by intro z; cases z))]; exact h⟩)
  · exact .inr h
theorem nm_vs {K : PySem.W.Frag} {H : Hp} : ∀ {vs : List V} {N : List Str}, DpAll K H vs (N.map .str) → vs = N.map V.str
  | [], [], _ => rfl
  | _ :: _, _ :: _, h => by
    cases h with
    | cons a b =>
      cases a
      rw [nm_vs b]
      rfl
theorem eqv_nil (ds : List PyData) : PyData.eqvAll ds [] = ds.isEmpty := by cases ds <;> rfl
theorem shaped_nil : SeqAt.shaped (.list []) = true := by decide
theorem layAll_mem : ∀ {ds : List PyData}, PyData.canLayAll0 ds = true → ∀ d ∈ ds, d.canLay0 = true
  | [], _, d, h => by cases h
  | e :: ds, h, d, hd => by
    rw [PyData.canLayAll0, Bool.and_eq_true] at h
    rcases List.mem_cons.mp hd with rfl | hd
    · exact h.1
    · exact layAll_mem h.2 d hd
theorem dep_mem : ∀ {ds : List PyData} {d : PyData}, d ∈ ds → d.depth ≤ PyData.depthAll ds
  | e :: ds, d, hd => by
    rw [PyData.depthAll]
    rcases List.mem_cons.mp hd with rfl | hd
    · exact Nat.le_max_left _ _
    · exact Nat.le_trans (dep_mem hd) (Nat.le_max_right _ _)
theorem layAll_of : ∀ {ds : List PyData}, (∀ d ∈ ds, d.canLay0 = true) → PyData.canLayAll0 ds = true
  | [], _ => rfl
  | d :: ds, h => by
    rw [PyData.canLayAll0, h d List.mem_cons_self, layAll_of fun x hx => h x (List.mem_cons_of_mem _ hx)]
    rfl
theorem dep_of : ∀ {ds : List PyData} {n : Nat}, (∀ d ∈ ds, d.depth ≤ n) → PyData.depthAll ds ≤ n
  | [], n, _ => by simp [PyData.depthAll]
  | d :: ds, n, h => by
    rw [PyData.depthAll]
    exact Nat.max_le.mpr ⟨h d List.mem_cons_self, dep_of fun x hx => h x (List.mem_cons_of_mem _ hx)⟩
theorem shaped_list {ds : List PyData} (h : ∀ d ∈ ds, d.canLay0 = true ∧ d.depth ≤ 62) : SeqAt.shaped (.list ds) = true := by
  unfold SeqAt.shaped
  rw [Bool.and_eq_true]
  refine ⟨layAll_of fun d hd => (h d hd).1, decide_eq_true ?_⟩
  have := dep_of (n := 62) fun d hd => (h d hd).2
  show PyData.depth (.list _) ≤ 64
  simp only [PyData.depth]
  omega
theorem shaped_of {d : PyData} (h1 : d.canLay0 = true) (h2 : d.depth ≤ 62) : SeqAt.shaped d = true := by
  unfold SeqAt.shaped
  rw [h1, Bool.true_and]
  exact decide_eq_true (by omega)
theorem word_ok {z : Str} (h : wordIn Lc z = true) : PyData.strOk z = true := by
  unfold wordIn at h
  rw [Bool.and_eq_true, Bool.and_eq_true] at h
  have h2 := h.2.2
  rw [List.all_eq_true] at h2
  unfold PyData.strOk
  rw [Array.all_eq_true']
  intro c hc
  have := h2 c (by simpa using hc)
  have hm : c ∈ Lc.cps.toList := of_decide_eq_true this
  have all : ∀ c ∈ Lc.cps.toList, c < 0x110000 := by decide +kernel
  exact decide_eq_true (all c hm)
end Sg

set_option maxRecDepth 100000
set_option maxHeartbeats 4000000
/-! xs.extend(t), t a tuple -/
namespace XT
open PySem PySem.Spec PyProof.Rows L2
theorem extendW (l : Addr) (items : Array Value) (n : Nat) (b : Addr) (items2 : Array Value) (n2 : Nat) (dd : Option Addr) (sl : Array (Option Value)) (h0 : ¬(!items.isEmpty && Builtin.List.listTooLong (items.size + items2.size)) = true) (h1 : items.size ≤ sizeLine) (h2 : items.size + items2.size ≤ sizeLine + 1) :
    Meets (Builtin.«list.extend» ⟨[.ref l, .ref b], []⟩) (fun _ R s => s.heap.get? l = some { cls := .type "list", dict := none, data := .seq items n, slots := #[] } ∧ s.heap.get? b = some { cls := .type "tuple", dict := dd, data := .seq items2 n2, slots := sl } ∧
      R (.ok (.ret Value.none)) { s with heap := s.heap.update l (Obj.mapSeq fun x => x ++ items2), toks := s.toks }) :=
  .of_wp fun prog w A R s h => by
    obtain ⟨hp, g, d, tk, os⟩ := s
    obtain ⟨hl, hb, h⟩ := h
    have f2 := AutoSeq1.sub_tuple_tuple
    have f3 := AutoSeq1.sub_list_list
    have f4 := AutoSeq1.sub_tuple_list
    have f5 := AutoSeq1.sub_list_tuple
    have hz' : (items ++ items2).size ≤ sizeLine + 1 := by rw [Array.size_append]; exact h2
    wp_walk using (wpAny_updateSeq hl rfl (hz := h1) (_hz' := hz')), wpAny_loadPart' hl, wpAny_loadPart' hb
    exact ⟨_, rfl, h⟩
def rExtT (K : PySem.W.Frag) : V → List V → Hp → VK → Prop := fun x vs H Q => ∃ l b xs zs, x = .ref l ∧ vs = [.ref b] ∧ H l = some (.lst xs) ∧ SqT K H b zs ∧ xs.length + zs.length ≤ sizeLine ∧ Q .non (upd H l (.lst (xs ++ zs)))
theorem mt_extendT {X : Cx} : MtM X "list.extend" (rExtT X.K) := by
  intro pins s σ H x vs v us Q I rx rv h
  obtain ⟨l, b, xs, zs, rfl, rfl, hH, hB, hz, q⟩ := h
  cases rx
  obtain ⟨u, rfl, ru⟩ := rv.one
  cases ru
  obtain ⟨z, its, n, r, hl, e⟩ := I.lstM hH
  obtain ⟨its2, r2, ⟨⟨cls, dd, data, sl⟩, ho, hc, n2, hd⟩, hs⟩ := I.tuple hB
  simp only at hc hd
  subst hc hd
  have l2 : its2.length = zs.length := r2.length.symm
  have hsz : its.toArray.size + its2.toArray.size ≤ sizeLine := by rw [List.size_toArray, List.size_toArray]; omega
  have hlong : ¬ (!its.toArray.isEmpty && Builtin.List.listTooLong (its.toArray.size + its2.toArray.size)) = true := by
    rw [notLongL hsz, Bool.and_false]
    exact Bool.false_ne_true
  refine call_meets PySem.F.slot_list_extend ⟨_, e, rfl⟩ PySem.F.entry_list_extend (PySem.F.args_list_extend_2 _ _) (extendW l its.toArray n b its2.toArray n2 dd sl hlong (by rw [List.size_toArray]; omega) (by omega)) ⟨e, ho, ?_⟩
  refine ⟨.non, _, I.lset (its' := its ++ its2) hH e (by simp) (r.append r2) ?_, rfl, q⟩
  rw [List.length_append]
  omega
end XT

set_option maxRecDepth 100000
set_option maxHeartbeats 4000000
namespace Sg
open PySem PySem.Spec PyProof.Rows L2 Dr Gd Er Cm Ow XT
abbrev sIsTerm : Stmt := top 31
abbrev sHead : Stmt := top 32
def Uc : Str := "ABCDEFGHIJKLMNOPQRSTUVWXYZ"
def headOk (ps : List (Str × Int)) (e : PyData) (n : Nat) : Bool := match arD ps e with
  | some m => decide (((n + 1 : Nat) : Int) = m + 1)
  | none => false
mutual
def isTerm (ps : List (Str × Int)) : PyData → Bool
  | .str z => wordIn Uc z
  | .tuple [] => false
  | .tuple (e :: r) => headOk ps e r.length && allTerm ps r
  | .none => false
  | .bool _ => false
  | .int _ => false
  | .list _ => false
  | .dict _ => false
def allTerm (ps : List (Str × Int)) : List PyData → Bool
  | [] => true
  | d :: r => isTerm ps d && allTerm ps r
end
mutual
def tsz : PyData → Nat
  | .tuple ds => 1 + tszs ds
  | .list ds => 1 + tszs ds
  | .str _ => 1
  | .none => 1
  | .bool _ => 1
  | .int _ => 1
  | .dict _ => 1
def tszs : List PyData → Nat
  | [] => 0
  | d :: r => tsz d + tszs r
end
mutual
def okT : PyData → Bool
  | .tuple ds => okTs ds
  | .list ds => okTs ds
  | .str z => decide (z.length ≤ 1000)
  | .none => true
  | .bool _ => true
  | .int _ => true
  | .dict _ => true
def okTs : List PyData → Bool
  | [] => true
  | d :: r => okT d && okTs r
end
theorem allTerm_app (ps : List (Str × Int)) : ∀ a b : List PyData, allTerm ps (a ++ b) = (allTerm ps a && allTerm ps b)
  | [], b => by simp [allTerm]
  | d :: a, b => by
    rw [List.cons_append, allTerm, allTerm, allTerm_app ps a b, Bool.and_assoc]
theorem tszs_app : ∀ a b : List PyData, tszs (a ++ b) = tszs a + tszs b
  | [], b => by simp [tszs]
  | d :: a, b => by
    rw [List.cons_append, tszs, tszs, tszs_app a b, Nat.add_assoc]
theorem okTs_app : ∀ a b : List PyData, okTs (a ++ b) = (okTs a && okTs b)
  | [], b => by simp [okTs]
  | d :: a, b => by
    rw [List.cons_append, okTs, okTs, okTs_app a b, Bool.and_assoc]
theorem tsz_pos : ∀ d : PyData, 1 ≤ tsz d := by
  intro d
  cases d <;> simp [tsz]
theorem tszs_len : ∀ ds : List PyData, ds.length ≤ tszs ds
  | [] => by simp [tszs]
  | d :: r => by
    have := tszs_len r
    have := tsz_pos d
    rw [List.length_cons, tszs]
    omega
def spHead (K : PySem.W.Frag) (C : Addr) : Sp := fun vs H Q _ => ∃ x v ds ps, vs = [.ref x, v] ∧ SgAt C H x ps ∧ Dp K H v (.tuple ds) ∧ Q (.bl (match ds with | [] => false | e :: r => headOk ps e r.length)) H
def spIsT (K : PySem.W.Frag) (C : Addr) : Sp := fun vs H Q _ => ∃ x v d ps, vs = [.ref x, v] ∧ SgAt C H x ps ∧ Dp K H v d ∧ okT d = true ∧ tsz d ≤ 5000 ∧ ∀ H', Same H H' → Q (.bl (isTerm ps d)) H'
structure ArAt (P : Program) (w : World) (K : PySem.W.Frag) (mg : Str → Option Value) (base : Heap) (cS C fa : Addr) (da : FuncData) : Prop where
  m : Meth K C "arity" fa
  ok : FnOk P w K mg base (L2.CX P w) 2 fa da ["self", "name"] (spAr K cS C)
  b : Binds K da ["self", "name"] []
section
variable {P : Program} {w : World} {K : PySem.W.Frag} {mg : Str → Option Value} {base : Heap} {cS C fa fh fW fH : Addr} {da dh dW dH : FuncData}
theorem scHd : FnScope ["signs", "value"] ["signs", "value"] (defScope sHead) := ⟨rfl, rfl, rfl, by decide +kernel, rfl, by decide +kernel, by decide +kernel⟩
theorem atI_head {y : V} {ys : List V} : atI (y :: ys) 0 = some y := atI_nat (show (y :: ys)[0]? = some y from rfl)
theorem ok_head {f : Addr} {fd : FuncData} (F : Fun K "_has_head" "_has_head" sHead f fd) (T : KTxt mg) (S : SCl K C) (h4 : HasAt K C fh dh) (M : ArAt P w K mg base cS C fa da) : FnOk P w K mg base CX0 3 f fd ["signs", "value"] (spHead K C) := by
  refine F.ok scHd (fun vs H Q E h => ?_) (fun cdv A outer s H vs Q E hr h => ?_)
  · obtain ⟨x, v, ds, ps, rfl, _⟩ := h
    rfl
  · obtain ⟨x, v, ds, ps, rfl, hS, hd, q⟩ := h
    have r1 : Room 1 (A.deeper (envOfC "_has_head" (defScope sHead) s.heap.objs.size f cdv)) := hr.mono (by decide)
    refine ⟨_, pss_one (ps_ret (pe_and (pe_cmpR op_gt (pe_callB call_len_seq (by rfl) T.len PySem.boot_len (pa_cons (pv 1) pa_nil)) pe_int (nomark _))
      (pe_and (pe_cmpR (op_inOwn (ok_has h4.F T S) r1 h4.at_ h4.fn h4.b pass0) (pe_ix ix_tup (pv 1) pe_int fun _ _ => rfl) (pv 0) (by rfl))
      (pe_one (pe_cmpR op_eq (pe_callB call_len_seq (by rfl) T.len PySem.boot_len (pa_cons (pv 1) pa_nil)) (pe_op op_add (pe_meth (pv 0) S.cl M.m M.ok hr M.b .nil passL (pa_cons (pe_ix ix_tup (pv 1) pe_int fun _ _ => rfl) pa_nil)) pe_int) (nomark _)))))), ?_⟩
    obtain ⟨dx, dn, h1, h2⟩ := id hS
    cases hd with
    | tup g1 g2 =>
      rename_i a xs
      have hl := dpAll_len g2
      refine ⟨_, rfl, a, _, rfl, .inr g1, _, _, rfl, rfl, _, rfl, ?_⟩
      refine ite2 (fun c => ?_) (fun c => ?_)
      · have c := of_decide_eq_true c
        cases g2 with
        | nil => exact absurd c (by simp)
        | @cons y ys e r he hr' =>
            refine ⟨_, rfl, a, _, 0, y, rfl, rfl, g1, atI_head, _, rfl, x, dx, _, rfl, h1, x, y, e, ps, rfl, hS, he, _, rfl, _, rfl, ?_⟩
            cases har : arD ps e with
            | none =>
              have hno : hasD ps e = false := by
                cases e with
                | str z =>
                  show hasN ps z = false
                  rw [← arOf_has]
                  rw [show arOf ps z = none from har]
                  rfl
                | _ => rfl
              rw [hno]
              refine iteF ?_
              have q : Q (.bl (headOk ps e r.length)) H := q
              unfold headOk at q
              rw [har] at q
              exact q
            | some n =>
              have hyes : hasD ps e = true := by
                cases e with
                | str z =>
                  show hasN ps z = true
                  rw [← arOf_has]
                  rw [show arOf ps z = some n from har]
                  rfl
                | _ => cases har
              rw [hyes]
              refine iteT ?_
              refine ⟨_, rfl, a, _, rfl, .inr g1, _, rfl, x, dx, _, rfl, h1, rfl, _, rfl, a, _, 0, y, rfl, rfl, g1, atI_head, x, y, e, ps, rfl, hS, he, (fun n' e' => ?_), (fun e' => by rw [har] at e'; cases e')⟩
              have en : n' = n := by
                rw [har] at e'
                exact (Option.some.inj e').symm
              subst en
              refine ⟨_, _, rfl, rfl, rfl, ?_⟩
              have q : Q (.bl (headOk ps e r.length)) H := q
              unfold headOk at q
              rw [har] at q
              have e2 : decide (V.int ((y :: ys).length : Int) = V.int (n' + 1)) = decide (((r.length + 1 : Nat) : Int) = n' + 1) := by
                have : (y :: ys).length = r.length + 1 := hl
                rw [this]
                exact decide_eq_decide.mpr ⟨fun z => by injection z, fun z => by rw [z]⟩
              rw [e2]
              exact q
      · have c : ¬ (0 : Int) < (xs.length : Int) := fun z => c (decide_eq_true z)
        have : ds = [] := by
          cases ds with
          | nil => rfl
          | cons _ _ => rw [List.length_cons] at hl; omega
        subst this
        exact q
theorem scIt : FnScope ["signs", "value", "todo", "part"] ["signs", "value"] (defScope sIsTerm) := ⟨rfl, rfl, rfl, by decide +kernel, rfl, by decide +kernel, by decide +kernel⟩
theorem last_split {K : PySem.W.Frag} {H : Hp} {vs : List V} {ds : List PyData} (h : DpAll K H vs ds) (hn : vs ≠ []) : ∃ d v r, ds = r ++ [d] ∧ vs[vs.length - 1]? = some v ∧ Dp K H v d ∧ DpAll K H vs.dropLast r := by
  have hl := dpAll_len h
  have hp : 0 < vs.length := List.length_pos_iff.mpr hn
  have hd : ds ≠ [] := fun z => by rw [z] at hl; simp at hl; exact hn hl
  obtain ⟨v, hv⟩ : ∃ v, vs[vs.length - 1]? = some v := ⟨_, List.getElem?_eq_getElem (by omega)⟩
  obtain ⟨d, e1, e2⟩ := dpAll_get' h hv
  refine ⟨d, v, ds.dropLast, ?_, hv, e2, ?_⟩
  · rw [hl] at e1
    have : ds.getLast hd = d := by
      rw [List.getLast_eq_getElem]
      exact (List.getElem?_eq_some_iff.mp e1).2
    rw [← this]
    exact (List.dropLast_concat_getLast hd).symm
  · rw [List.dropLast_eq_take, List.dropLast_eq_take, ← hl]
    have tk : ∀ (k : Nat) {vs : List V} {ds : List PyData}, DpAll K H vs ds → DpAll K H (vs.take k) (ds.take k) := by
      intro k
      induction k with
      | zero => intro vs ds _; exact .nil
      | succ k ih =>
        intro vs ds h
        cases h with
        | nil => exact .nil
        | cons a b => exact .cons a (ih b)
    exact tk _ h
theorem cut_from1 (xs : List V) : cutV xs (some 1) none = xs.drop 1 := by
  unfold cutV
  rw [HT.sIx_none, show HT.sIx xs.length 0 (some 1) = min 1 xs.length from HT.sIx_nat _ _ 1]
  rcases Nat.le_total 1 xs.length with h | h
  · rw [Nat.min_eq_left h, List.take_of_length_le (by rw [List.length_drop]; omega)]
  · rw [Nat.min_eq_right h, List.drop_eq_nil_of_le h, List.drop_eq_nil_of_le (Nat.le_refl _), List.take_nil]
theorem ok_isTerm {f : Addr} {fd : FuncData} (F : Fun K "is_term" "is_term" sIsTerm f fd) (T : KTxt mg) (GH : Cal P w K mg base CX0 3 "_has_head" fH dH ["signs", "value"] (spHead K C)) (GW : Cal P w K mg base CX0 1 "is_word" fW dW ["value", "letters"] (spWord K)) (cap : ∃ t, mg "CAPITAL" = some (.str Uc t)) :
    FnOk P w K mg base CX0 4 f fd ["signs", "value"] (spIsT K C) := by
  obtain ⟨tU, mU⟩ := cap
  refine F.ok scIt (fun vs H Q E h => ?_) (fun cdv A outer s H vs Q E hr h => ?_)
  · obtain ⟨x, v, d, ps, rfl, _⟩ := h
    rfl
  · obtain ⟨x, v, d, ps, rfl, hS, hd, hok, hsz, q⟩ := h
    have r1 : Room 1 (A.deeper (envOfC "is_term" (defScope sIsTerm) s.heap.objs.size f cdv)) := hr.mono (by decide)
    refine ⟨_, pss_cons (ps_set (i := 2) scIt.nd rfl (Or.inl rfl) (pe_lst (pa_cons (pv 1) pa_nil)))
      (pss_cons (ps_while PassesOwn.never (pt_truth (pv 2) (by intro _; rfl))
        (pss_cons (ps_set (i := 3) scIt.nd rfl (Or.inl rfl) (pe_bm0 PySem.F.plainAttrs_list PySem.F.slot_list_pop PySem.F.type_list_pop mt_pop (pv 2)))
        (pss_one (ps_if (pt_val (pe_callB call_isi (by rfl) T.isi (by decide +kernel) (pa_cons (pv 3) (pa_cons (pe_bltn (v := .ty "tuple") (by rfl) T.tup (by decide +kernel) rfl) pa_nil))))
          (pss_cons (ps_if (pt_not (pt_val (pe_call GH.ok hr rfl GH.g GH.kp GH.b .nil pass0 (pa_cons (pv 0) (pa_cons (pv 3) pa_nil))))) (pss_one (ps_ret pe_bl)) pss_nil)
          (pss_one (ps_expr (pe_bm PySem.F.plainAttrs_list PySem.F.slot_list_extend PySem.F.type_list_extend mt_extendT (pv 2) (pa_cons (pe_slice sl_tup (pv 3) (po_some pe_int) po_none) pa_nil)))))
          (pss_one (ps_if (pt_not (pt_val (pe_call GW.ok r1 rfl GW.g GW.kp GW.b .nil pass0 (pa_cons (pv 3) (pa_cons (pe_glob (v := .str Uc) rfl mU ⟨_, rfl⟩) pa_nil))))) (pss_one (ps_ret pe_bl)) pss_nil))))))
      (pss_one (ps_ret pe_bl))), ?_⟩
    refine ⟨_, rfl, (by show 1 ≤ sizeLine; decide), fun l hl => ?_⟩
    have s1 := same_upd (o := .lst [v]) hl
    refine ⟨fun m σ H' => ∃ vs ds c3, m = tszs ds ∧ σ = [some (.ref x), some v, some (.ref l), c3] ∧ Same H H' ∧ H' l = some (.lst vs) ∧ DpAll K (L2.del H' l) vs ds ∧ okTs ds = true ∧ tszs ds ≤ 5000 ∧ isTerm ps d = allTerm ps ds, ⟨tszs [d], [v], [d], none, rfl, rfl, s1, upd_same, ?_, ?_, ?_, ?_⟩, ?_⟩
    · refine .cons (dp_same (fun b o e => ?_) _ _ hd) .nil
      rw [del_ne (ne_of_none e hl), upd_ne (ne_of_none e hl)]
      exact e
    · simp [okTs, hok]
    · simpa [tszs] using hsz
    · simp [allTerm]
    · rintro m σ H0 ⟨vs, ds, c3, rfl, rfl, sm, hL, hds, hko, hzz, heq⟩
      refine ⟨_, rfl, !vs.isEmpty, .inl ⟨vs, SqL.of hL, rfl⟩, ?_⟩
      refine ite2 (fun hc => ?_) (fun hc => ?_)
      · have hne : vs ≠ [] := fun z => by rw [z] at hc; cases hc
        obtain ⟨dl, vl, rd, rfl, hvl, hdl, hrd⟩ := last_split hds hne
        rw [okTs_app, Bool.and_eq_true] at hko
        have hkl : okT dl = true := by have := hko.2; simpa [okTs] using this
        rw [tszs_app] at hzz
        have hz1 : tszs [dl] = tsz dl := by simp [tszs]
        rw [hz1] at hzz
        rw [allTerm_app, show allTerm ps [dl] = isTerm ps dl from by simp [allTerm]] at heq
        have lenv : vs.dropLast.length = rd.length := dpAll_len hrd
        have lrd := tszs_len rd
        refine ⟨fun σ' H' => ∃ m', m' < tszs (rd ++ [dl]) ∧ ∃ vs ds c3, m' = tszs ds ∧ σ' = [some (.ref x), some v, some (.ref l), c3] ∧ Same H H' ∧ H' l = some (.lst vs) ∧ DpAll K (L2.del H' l) vs ds ∧ okTs ds = true ∧ tszs ds ≤ 5000 ∧ isTerm ps d = allTerm ps ds, fun _ _ z => z, ?_⟩
        refine ⟨_, rfl, .inl ⟨rfl, _, SqL.of hL⟩, l, vs, vl, rfl, rfl, hL, hvl, ?_⟩
        have hl0 : ∀ b o, H b = some o → b ≠ l := fun b o e => ne_of_none e hl
        have e1 : (L2.upd H0 l (.lst vs.dropLast)) l = some (.lst vs.dropLast) := upd_same
        have sm1 : Same H (L2.upd H0 l (.lst vs.dropLast)) := fun b o e => by rw [upd_ne (hl0 b o e)]; exact sm b o e
        have dd1 : L2.del (L2.upd H0 l (.lst vs.dropLast)) l = L2.del H0 l := del_upd
        generalize (L2.upd H0 l (.lst vs.dropLast)) = H1 at e1 sm1 dd1 ⊢
        rw [← dd1] at hdl hrd
        have sdel : Same (L2.del H1 l) H1 := fun b o e => by
          by_cases hb : b = l
          · subst hb; rw [del_same] at e; cases e
          · rw [del_ne hb] at e; exact e
        have hdl1 : Dp K H1 vl dl := dp_same sdel _ _ hdl
        refine ⟨_, rfl, vl, .ty "tuple", .type (tyD dl), .type "tuple", _, rfl, .ty _, ty_dp hdl1, kit_ty (k_tup dl), _, rfl, ?_⟩
        have leaf : (∀ z, dl = .tuple z → False) → isTerm ps dl = isWord Uc dl := fun h => by
          cases dl with
          | tuple z => exact (h z rfl).elim
          | str z => simp [isTerm]; rfl
          | _ => simp [isTerm]; rfl
        cases hdl with
        | tup k1 k2 =>
          rename_i ta ya es
          have g1 := seqT_same sdel k1
          have g2 := dpAll_same sdel _ _ k2
          refine iteT ?_
          refine ⟨_, rfl, _, rfl, x, .ref ta, es, ps, rfl, hS.same sm1, .tup g1 g2, _, rfl, ?_⟩
          cases es with
          | nil =>
            refine iteT ?_
            have e9 : isTerm ps d = false := by rw [heq]; simp [isTerm]
            have z := q H1 sm1
            rw [e9] at z
            exact z
          | cons e r =>
            have hT : isTerm ps (.tuple (e :: r)) = (headOk ps e r.length && allTerm ps r) := by rw [isTerm]
            rw [hT] at heq
            refine ite2 (fun hc2 => ?_) (fun hc2 => ?_)
            · have hc2 : headOk ps e r.length = false := by simpa using hc2
              have e9 : isTerm ps d = false := by rw [heq, hc2]; simp
              have z := q H1 sm1
              rw [e9] at z
              exact z
            · have hc2 : headOk ps e r.length = true := by simpa using hc2
              rw [hc2, Bool.true_and] at heq
              have ylen : ya.length = r.length + 1 := dpAll_len g2
              refine ⟨_, rfl, .inl ⟨rfl, _, SqL.of e1⟩, _, rfl, 1, rfl, ta, ya, rfl, g1, ?_, fun p hp => ?_⟩
              · rw [show HT.sIx ya.length 0 (some 1) = min 1 ya.length from HT.sIx_nat _ _ 1]
                omega
              · rw [cut_from1]
                have sp := same_upd (o := .tup (ya.drop 1)) hp
                have hlp : l ≠ p := ne_of_none e1 hp
                have rlen : (ya.drop 1).length = r.length := by rw [List.length_drop, ylen]; omega
                have lr := tszs_len r
                have hzt : tsz (.tuple (e :: r)) = 1 + (tsz e + tszs r) := by rw [tsz, tszs]
                rw [hzt] at hzz
                have pe := tsz_pos e
                refine ⟨l, p, _, _, rfl, rfl, sp _ _ e1, SqT.of upd_same, ?_, ?_⟩
                · have big : (20000 : Nat) ≤ sizeLine := by decide
                  rw [lenv, rlen]
                  omega
                · refine ⟨tszs (rd ++ r), ?_, vs.dropLast ++ ya.drop 1, rd ++ r, _, rfl, rfl, ?_, upd_same, ?_, ?_, ?_, ?_⟩
                  · rw [tszs_app, tszs_app]
                    rw [show tszs [PyData.tuple (e :: r)] = 1 + (tsz e + tszs r) from by simp [tszs, tsz]]
                    omega
                  · exact fun b o e => by
                      rw [upd_ne (hl0 b o e)]
                      exact sp _ _ (sm1 b o e)
                  · rw [del_upd]
                    have sD : Same (L2.del H1 l) (L2.del (L2.upd H1 p (.tup (ya.drop 1))) l) := fun b o e => by
                      have hb : b ≠ l := fun z => by rw [z, del_same] at e; cases e
                      rw [del_ne hb] at e ⊢
                      exact sp b o e
                    refine dpAll_app (dpAll_same sD _ _ hrd) (dpAll_same sD _ _ ?_)
                    cases k2 with
                    | cons _ k3 => exact k3
                  · rw [okTs_app, hko.1, Bool.true_and]
                    have := hkl
                    rw [okT, okTs, Bool.and_eq_true] at this
                    exact this.2
                  · rw [tszs_app]
                    omega
                  · rw [allTerm_app]
                    exact heq
        | _ =>
          refine iteF ?_
          have lf := leaf (fun z e => by cases e)
          refine ⟨_, rfl, _, _, Uc, rfl, hdl1, (fun z e => ?_), fun H2 s2 => ⟨_, rfl, ?_⟩⟩
          · rw [e] at hkl
            have : z.length ≤ 1000 := by simpa [okT] using hkl
            exact Nat.le_trans this (by decide)
          · rw [← lf]
            refine ite2 (fun hc2 => ?_) (fun hc2 => ?_)
            · have e9 : isTerm ps d = false := by rw [heq]; simp at hc2; rw [hc2]; simp
              have z := q H2 (Same.trans sm1 s2)
              rw [e9] at z
              exact z
            · refine ⟨tszs rd, ?_, vs.dropLast, rd, _, rfl, rfl, Same.trans sm1 s2, s2 _ _ e1, dpAll_same (SameX.del (Same.x s2)) _ _ hrd, hko.1, by omega, ?_⟩
              · rw [tszs_app, hz1]
                exact Nat.lt_add_of_pos_right (tsz_pos _)
              · rw [heq]
                simp at hc2
                rw [hc2]
                simp
      · have hv : vs = [] := by
          cases vs with
          | nil => rfl
          | cons _ _ => exact absurd rfl hc
        subst hv
        have hdn : ds = [] := by cases hds; rfl
        subst hdn
        have z := q H0 sm
        rw [heq] at z
        have z : Q (V.bl true) H0 := by simpa [allTerm] using z
        exact z
end
end Sg

set_option maxRecDepth 100000
set_option maxHeartbeats 4000000
/-! tuple * n, n at most one -/
namespace TM
open PySem PySem.Spec PyProof.Rows L2
theorem mul1 (l : Addr) (items : Array Value) (n : Nat) (dd : Option Addr) (sl : Array (Option Value)) (u : Tok) :
    Meets (Builtin.«tuple.__mul__» ⟨[.ref l, .int 1 u], []⟩) (fun _ R s => s.heap.get? l = some { cls := .type "tuple", dict := dd, data := .seq items n, slots := sl } ∧ R (.ok (.ret (Value.ref l))) s) :=
  .of_wp fun prog w A R s h => by
    obtain ⟨hp, g, d, tk, os⟩ := s
    obtain ⟨hl, h⟩ := h
    have f1 := AutoSeq1.idx_int
    wp_walk using wpAny_loadPart' hl
    repeat (first
      | (refine wpAny_ite_false (by decide) ?_; wp_walk using wpAny_loadPart' hl)
      | (refine wpAny_ite_true (by simp) ?_; wp_walk using wpAny_loadPart' hl))
    exact ⟨_, rfl, h⟩
theorem mul0 (l : Addr) (items : Array Value) (n : Nat) (dd : Option Addr) (sl : Array (Option Value)) (u : Tok) (hne : items.isEmpty = false) :
    Meets (Builtin.«tuple.__mul__» ⟨[.ref l, .int 0 u], []⟩) (fun _ R s => s.heap.get? l = some { cls := .type "tuple", dict := dd, data := .seq items n, slots := sl } ∧
      R (.ok (.ret (Value.ref s.heap.objs.size))) { s with heap := s.heap.push { cls := Value.type "tuple", data := Data.seq #[] }, toks := s.toks }) :=
  .of_wp fun prog w A R s h => by
    obtain ⟨hp, g, d, tk, os⟩ := s
    obtain ⟨hl, h⟩ := h
    have f1 := AutoSeq1.idx_int
    wp_walk using wpAny_loadPart' hl
    repeat (first
      | (refine wpAny_ite_false (by simp [hne]) ?_; wp_walk using wpAny_loadPart' hl)
      | (refine wpAny_ite_true (by simp [hne]) ?_; wp_walk using wpAny_loadPart' hl))
    exact ⟨_, rfl, h⟩
/-- tuple * n: the tuple itself for 1, a new empty one for 0, else put together -/
def rRepA (K : PySem.W.Frag) : R2 := fun x y H Q => ∃ l k xs, x = .ref l ∧ y = .int k ∧ SqT K H l xs ∧ xs ≠ [] ∧ xs.length ≤ 1000 ∧ 0 ≤ k ∧ k ≤ 1000 ∧ (k = 1 → Q (.ref l) H) ∧ (k ≠ 1 → ∀ p, H p = none → Q (.ref p) (upd H p (.tup (List.replicate k.toNat xs).flatten)))
theorem op_repA {X : Cx} : OpR X (binaryOp .Mult) (rRepA X.K) := by
  intro pins s σ H x y v u Q I rx ry h
  obtain ⟨l, k, xs, rfl, rfl, hT, hne, hz, h0, h1, q1, q2⟩ := h
  rcases (show k = 1 ∨ k = 0 ∨ 2 ≤ k by omega) with rfl | rfl | h2
  · cases rx
    obtain ⟨t, rfl⟩ := ry
    obtain ⟨its, r, ⟨⟨cls, dd, data, sl⟩, ho, hc, n, hd⟩, hs⟩ := I.tuple hT
    simp only at hc hd
    subst hc hd
    refine wpAny_binaryOp_repeat_ref (T := "tuple") (U := "int") (by decide) ⟨_, ho, rfl⟩ (fun s' => typeIs_int s' 1 t) noFill_tuple_mul PySem.F.fills_int_mul PySem.F.slot_int_rmul repeat_tuple PySem.F.slot_int_index.lookup
      (call_meets PySem.F.slot_int_rmul (typeIs_int s 1 t) PySem.F.entry_int_rmul (PySem.F.args_int_rmul_2 _ _) (int_rmul_tuple 1 t l its.toArray n dd sl)
        ⟨ho, rfl, ⟨_, ho, rfl⟩, call_meets PySem.F.slot_tuple_mul ⟨_, ho, rfl⟩ PySem.F.entry_tuple_mul (PySem.F.args_tuple_mul_2 _ _) (mul1 l its.toArray n dd sl t) ⟨ho, ?_⟩⟩)
    exact ⟨.ref l, H, I, rfl, q1 rfl⟩
  · cases rx
    obtain ⟨t, rfl⟩ := ry
    obtain ⟨its, r, ⟨⟨cls, dd, data, sl⟩, ho, hc, n, hd⟩, hs⟩ := I.tuple hT
    simp only at hc hd
    subst hc hd
    have hi : its.toArray.isEmpty = false := by
      cases its with
      | nil => cases r; exact absurd rfl hne
      | cons a b => rfl
    refine wpAny_binaryOp_repeat_ref (T := "tuple") (U := "int") (by decide) ⟨_, ho, rfl⟩ (fun s' => typeIs_int s' 0 t) noFill_tuple_mul PySem.F.fills_int_mul PySem.F.slot_int_rmul repeat_tuple PySem.F.slot_int_index.lookup
      (call_meets PySem.F.slot_int_rmul (typeIs_int s 0 t) PySem.F.entry_int_rmul (PySem.F.args_int_rmul_2 _ _) (int_rmul_tuple 0 t l its.toArray n dd sl)
        ⟨ho, rfl, ⟨_, ho, rfl⟩, call_meets PySem.F.slot_tuple_mul ⟨_, ho, rfl⟩ PySem.F.entry_tuple_mul (PySem.F.args_tuple_mul_2 _ _) (mul0 l its.toArray n dd sl t hi) ⟨ho, ?_⟩⟩)
    refine ⟨.ref s.heap.objs.size, _, I.laid (t' := s.toks) (o := .tup []) (fun b ob q => Heap.get?_push_of_some _ q) (Nat.le_refl _) ?_, rfl, q2 (by decide) _ (I.hok.fresh (Nat.le_refl _))⟩
    exact ⟨Nat.zero_le _, [], .nil, IsTup.new _ _⟩
  · exact op_repT pins s σ H _ _ v u Q I rx ry ⟨l, k, xs, rfl, rfl, hT, hne, h2, h1, hz, q2 (by omega)⟩
end TM

set_option maxRecDepth 100000
set_option maxHeartbeats 4000000
/-! several except clauses, each with or without a name. -/
namespace Tw
open PySem PySem.Spec PyProof.Rows L2
/-- an exception that has been caught, beside the state without it -/
structure Lies (X : Cx) (pins : List (Addr × Obj)) (a : Addr) (B : Heap) (sI : Shared) (σ : L2.St) (H : Hp) (cls : Value) (d : Option Addr) (s : Shared) : Prop where
  I : Inv X pins σ H sI
  nb : ∀ b o, sI.heap.get? b = some o → b ∉ frs X.stack → B.get? b = some o
  up : sI.heap.UpToSlots s.heap
  fl : HandSPX.FlyingZ B (X.env :: X.outer) a (Zc cls d) s.heap
  na : H a = none
  os : s.os = sI.os
  ag : AllBare s.gens
/-- the clauses, one behind the other, keep what is wished -/
def Hnd (X : Cx) (hs : List ExceptHandler) (W : Ends → WX) : Prop := ∀ pins D a B sI σ H cls d s, Lies X pins a B sI σ H cls d s → W D cls d σ H → wpAny (model X.prog X.w) X.A (handleBy (.ref a) X.env hs) (SP X pins D) X.xe s
section
variable {X : Cx} {pins : List (Addr × Obj)} {a : Addr} {B : Heap} {sI s : Shared} {σ : L2.St} {H : Hp} {cls : Value} {d : Option Addr} {W : Ends → WX} {Wout : WX}
theorem Lies.inv (L : Lies X pins a B sI σ H cls d s) : Inv X pins σ H s := L.I.landed L.nb L.fl.1 L.up L.os L.ag
theorem Lies.step (L : Lies X pins a B sI σ H cls d s) {h' : Heap} (fl : HandSPX.FlyingZ B (X.env :: X.outer) a (Zc cls d) h') (up : s.heap.UpToSlots h') : Lies X pins a B sI σ H cls d { s with heap := h' } := ⟨L.I, L.nb, L.up.trans up, fl, L.na, L.os, L.ag⟩
theorem Lies.suite (L : Lies X pins a B sI σ H cls d s) (hf : X.env.frame = some X.env.locals) : ∃ oe vs, s.heap.get? a = some oe ∧ Zc cls d oe ∧ oe.data = .fields vs ∧ Inv (X.suite a ((a, oe) :: (X.pn ++ pins))) [] σ H s := by
  obtain ⟨oe, vs, he, hz, hd⟩ := L.fl.there
  have far : a ∉ frs (X.env :: X.outer) := fun hm => by
    obtain ⟨_, o', e', no⟩ := L.fl.2.2.1.mem hm
    rw [he] at e'
    cases e'
    exact no _ hd
  refine ⟨oe, vs, he, hz, hd, L.inv.suite he hd L.na (fun z => far (List.mem_filterMap.mpr ⟨X.env, List.mem_cons_self, by rw [hf, z]⟩)) fun hm => ?_⟩
  obtain ⟨e, hx, q⟩ := List.mem_filterMap.mp hm
  exact far (List.mem_filterMap.mpr ⟨e, List.mem_cons_of_mem _ hx, q⟩)
theorem hnd_nil (hs : X.stack = X.env :: X.outer) (hf : X.env.frame = some X.env.locals) (tk : Takes X Wout) : Hnd X [] (fun _ => Wout) := by
  intro pins D a B sI σ H cls d s L w
  refine wpAny_handleBy_nil ?_
  obtain ⟨_, _, _, oe, vs, T, _, _, he, _, hd, h1, _⟩ := id L.fl
  unfold PySem.passOn
  refine wpAny_bind (wpAny_field he hd h1 ?_)
  rw [if_neg (show ¬ ((Value.ref T == Value.none) = true) from by simp)]
  have last : wpAny (model X.prog X.w) X.A (setFlight (.ref a) X.env.frame) (fun _ s4 => wpAny (model X.prog X.w) X.A (throw (.ref a) : Sem Flow) (SP X pins D) X.xe s4) X.xe s := by
    rw [hf]
    exact HandSPX.setFlight_upZ L.fl fun h4 held up4 => wpAny_throw (tk _ _ ⟨a, B, sI, pins, σ, H, cls, d, rfl, L.I, L.nb, L.up.trans up4, .inr (.inr (by rw [hs]; exact held)), L.na, L.os, L.ag, w⟩)
  first
    | exact wpAny_bind last
    | exact wpAny_bind (wpAny_pure (wpAny_bind last))
theorem named {x : Str} {c : Value} {np : Pos} {oe : Obj} {Q E : Value → Shared → Prop} (hc : Names X x c) (S : Inv (X.suite a ((a, oe) :: (X.pn ++ pins))) [] σ H s) (q : Q c s) : wpAny (model X.prog X.w) (X.A.mark (some (.ref a))) (eval (.Name x np) X.env) Q E s := by
  obtain ⟨h1, h2, h3 | ⟨h3, h4, h5⟩⟩ := hc
  · exact ld_glob (X := X.suite a ((a, oe) :: (X.pn ++ pins))) S h1 h3 q h2
  · exact ld_blt (X := X.suite a ((a, oe) :: (X.pn ++ pins))) S h1 h3 h4 q h5 h2
def wOne (K : PySem.W.Frag) (c : Value) (ts : Addr → Value → Option Addr → TS) (W : Ends → WX) : Ends → WX := fun D cls d σ H => ∃ b, PySem.W.exmOne K cls c = some b ∧ (b = true → ∀ a, H a = none → ts a cls d D σ H) ∧ (b = false → W D cls d σ H)
def wNm (K : PySem.W.Frag) (c : Value) (i : Nat) (ts : Addr → Value → Option Addr → TS) (W : Ends → WX) : Ends → WX := fun D cls d σ H => ∃ b, PySem.W.exmOne K cls c = some b ∧
  (b = true → ∀ a, H a = none → ts a cls d { nx := fun σ' H' => D.nx (σ'.set i none) H', rt := D.rt, bk := fun σ' H' => D.bk (σ'.set i none) H', ct := fun σ' H' => D.ct (σ'.set i none) H' } (σ.set i (some (.ref a))) H) ∧ (b = false → W D cls d σ H)
theorem hnd_one {x : Str} {c : Value} {ts : Addr → Value → Option Addr → TS} {b₀ : Stmt} {suite : List Stmt} {np pos' : Pos} {hds : List ExceptHandler} (hf : X.env.frame = some X.env.locals) (hc : Names X x c)
    (hsu : ∀ (a : Addr) (oe : Obj) (cls : Value) (d : Option Addr) (pn : List (Addr × Obj)), Zc cls d oe → (∃ vs, oe.data = .fields vs) → PSs (X.suite a ((a, oe) :: pn)) (b₀ :: suite) (ts a cls d)) (r : Hnd X hds W) :
    Hnd X (.ExceptHandler (some (.Name x np)) none (b₀ :: suite) pos' :: hds) (wOne X.K c ts W) := by
  intro pins D a B sI σ H cls d s L ⟨b, hb, yes, no⟩
  obtain ⟨oe, vs, he, hz, hd, S⟩ := L.suite hf
  have ty : PySem.W.Looks (model X.prog X.w) s.heap (typeOf (.ref a)) cls := fun A Q E s k q => wpAny_typeOf_ref (k _ _ he) (by rw [hz.1]; exact q)
  refine wpAny_handleBy_cons (codeAny_handlers_test (named hc S ((PySem.W.exm_one (M := model X.prog X.w) L.inv.kIn ty hb).here ?_))) (by intro q; cases q)
  cases b with
  | false => exact r pins D a B sI σ H cls d s L (no rfl)
  | true =>
    refine codeAny_handlers_suite (HandSPX.lands_againZ L.fl fun h4 fl4 up4 => ?_)
    obtain ⟨oe4, vs4, he4, hz4, hd4, S4⟩ := (L.step fl4 up4).suite hf
    refine wpAny_mono ((hsu a oe4 cls d (X.pn ++ pins) hz4 ⟨_, hd4⟩).run [] _ _ H _ S4 (yes rfl a L.na)) (fun f s6 z => ?_) (fun _ _ z => False.elim z)
    have ok := L.I.ok
    cases f with
    | next => exact let ⟨σ6, H6, S6, q6⟩ := z; ⟨σ6, H6, S6.unsuite ok, q6⟩
    | brk => exact let ⟨σ6, H6, S6, q6⟩ := z; ⟨σ6, H6, S6.unsuite ok, q6⟩
    | cont => exact let ⟨σ6, H6, S6, q6⟩ := z; ⟨σ6, H6, S6.unsuite ok, q6⟩
    | ret u => exact let ⟨v6, σ6, H6, S6, r6, q6⟩ := z; ⟨v6, σ6, H6, S6.unsuite ok, r6, q6⟩
theorem hnd_nm {x n : Str} {c : Value} {i : Nat} {ts : Addr → Value → Option Addr → TS} {b₀ : Stmt} {suite : List Stmt} {np pos' : Pos} {hds : List ExceptHandler} (hf : X.env.frame = some X.env.locals) (hN : X.N.Nodup) (hi : X.N[i]? = some n) (hl : X.env.kindOf n = some .local) (hc : Names X x c)
    (hsu : ∀ (a : Addr) (oe : Obj) (cls : Value) (d : Option Addr) (pn : List (Addr × Obj)), Zc cls d oe → (∃ vs, oe.data = .fields vs) → PSs (X.suite a ((a, oe) :: pn)) (b₀ :: suite) (ts a cls d)) (r : Hnd X hds W) :
    Hnd X (.ExceptHandler (some (.Name x np)) (some n) (b₀ :: suite) pos' :: hds) (wNm X.K c i ts W) := by
  intro pins D a B sI σ H cls d s L ⟨b, hb, yes, no⟩
  obtain ⟨oe, vs, he, hz, hd, S⟩ := L.suite hf
  have ty : PySem.W.Looks (model X.prog X.w) s.heap (typeOf (.ref a)) cls := fun A Q E s k q => wpAny_typeOf_ref (k _ _ he) (by rw [hz.1]; exact q)
  refine wpAny_handleBy_cons (codeAny_handlers_test (named hc S ((PySem.W.exm_one (M := model X.prog X.w) L.inv.kIn ty hb).here ?_))) (by intro q; cases q)
  cases b with
  | false => exact r pins D a B sI σ H cls d s L (no rfl)
  | true =>
    refine codeAny_handlers_suite_as (HandSPX.lands_againZ L.fl fun h4 fl4 up4 => ?_)
    obtain ⟨oe4, vs4, he4, hz4, hd4, S4⟩ := (L.step fl4 up4).suite hf
    refine store_ok (X := X.suite a ((a, oe4) :: (X.pn ++ pins))) (v := .ref a) S4 hN hi (.inl hl) rfl (fun s5 S5 => ?_) (.inr hl)
    refine wpAny_mono ((hsu a oe4 cls d (X.pn ++ pins) hz4 ⟨_, hd4⟩).run [] s5 _ H _ S5 (yes rfl a L.na)) (fun f s6 z => ?_) (fun _ _ z => False.elim z)
    have ok := L.I.ok
    have gone := fun {σ6 : L2.St} {H6 : Hp} {Q : Shared → Prop} (S6 : Inv (X.suite a ((a, oe4) :: (X.pn ++ pins))) [] σ6 H6 s6) (hq : ∀ s7, Inv X pins (σ6.set i none) H6 s7 → Q s7) => gone_ok (M := model X.prog X.w) (A := X.A) (E := X.xe) (pos := pos') (Q := fun _ s7 => Q s7) (S6.unsuite ok) hN hi hl hq
    cases f with
    | next => exact let ⟨σ6, H6, S6, q6⟩ := z; gone S6 fun s7 J => ⟨_, H6, J, q6⟩
    | brk => exact let ⟨σ6, H6, S6, q6⟩ := z; gone S6 fun s7 J => ⟨_, H6, J, q6⟩
    | cont => exact let ⟨σ6, H6, S6, q6⟩ := z; gone S6 fun s7 J => ⟨_, H6, J, q6⟩
    | ret u => exact let ⟨v6, σ6, H6, S6, r6, q6⟩ := z; gone S6 fun s7 J => ⟨v6, _, H6, J, r6, q6⟩
theorem ps_tryW {body : List Stmt} {h₀ : ExceptHandler} {hds : List ExceptHandler} {pos : Pos} {tb : WX → TS} (hs : X.stack = X.env :: X.outer) (hf : X.env.frame = some X.env.locals) (hh : Hnd X (h₀ :: hds) W)
    (hb : ∀ (W : WX) (pn : List (Addr × Obj)) (xe : Value → Shared → Prop), Takes (X.tr pn xe) W → PassesOwn (model X.prog X.w) X.A X.env xe → PSs (X.tr pn xe) body (tb W)) : PS X (.Try body (h₀ :: hds) [] [] pos) (fun D σ H => tb (W D) D σ H) := by
  refine ⟨fun pins s σ H D I h => ?_⟩
  have ok := I.ok
  have hfr : X.A.frames = some (X.env :: X.outer) := by rw [ok.frames, hs]
  refine wpAny_Try_except (wpAny_mono ((hb (W D) (X.pn ++ pins) _ (fun u s' xx => ?_) PassesOwn.looking).run [] s σ H D (I.toTry _) h) (fun f s1 z => ?_) (fun e s1 he => he))
  · obtain ⟨a, B, sI, pins', σ', H', cls, d, rfl, J', nb, up, sky, na, os, ag, w⟩ := xx
    have J : Inv X pins σ' H' sI := J'.ofTry ok
    refine Sky.land Zc.steady hfr hf (by rw [← hs]; exact sky) fun h3 fl3 up3 => ?_
    exact hh pins D a B sI σ' H' cls d { s' with heap := h3 } ⟨J, nb, up.trans up3, fl3, na, os, ag⟩ w
  · cases f with
    | next => exact let ⟨σ', H', J', q⟩ := z; wpAny_execs_nil ⟨σ', H', J'.ofTry ok, q⟩
    | brk => exact let ⟨σ', H', J', q⟩ := z; ⟨σ', H', J'.ofTry ok, q⟩
    | cont => exact let ⟨σ', H', J', q⟩ := z; ⟨σ', H', J'.ofTry ok, q⟩
    | ret u => exact let ⟨v, σ', H', J', r, q⟩ := z; ⟨v, σ', H', J'.ofTry ok, r, q⟩
end
section
variable {X : Cx} {CX : CXT} {k : Nat} {f C : Addr} {fd : FuncData} {ps : List Str} {sp : Sp} {E : L2.St → XK} {x m : Str} {p apos pos : Pos} {e o : Expr} {es : List Expr} {ta : TE} {t : TA}
/-- C(..), what is raised wished for at the slots -/
def tMakeS (C : Addr) (sp : Sp) (E : L2.St → XK) (t : TA) : TE := fun σ H Q => t σ H fun vs H1 => ∀ x dx, H1 x = none → H1 dx = none → dx ≠ x → sp (.ref x :: vs) (upd (upd H1 dx (.own x)) x (.ins C dx [])) (fun v H2 => v = .non ∧ Q (.ref x) H2) (E σ)
theorem pe_makeS (M : Mk X.K C f) (F : FnOk X.prog X.w X.K X.mg X.base CX k f fd ps sp) (hr : Room (k + 1) X.A) (hg : Gl X x) (hm : X.mg x = some (.ref C)) (hb : Binds X.K fd ps []) (hx : ∀ σ, PassesAt CX X σ (E σ))
    (ha : PA X (e :: es) t) (hdb : (x == ("__debug__" : Str)) = false := by decide) (he : starEach (e :: es) X.env = (false, eval e X.env) :: starEach es X.env := by rfl) (hpl : (backTo pos (starEach es X.env)).any (·.1) = false := by rfl) :
    PE X (.Call (.Name x p) (e :: es) [] pos) (tMakeS C sp E t) := by
  refine ⟨fun pins s σ H Q I h => wpAny_Call_Name_kw (ld_glob I hg hm ?_ hdb)⟩
  refine PySem.W.callWith_K (h₀ := X.base) I.ok.mod.kin M.kp (thn (ha.run pos pins s σ H _ I h) fun us s1 ⟨vs, H1, I1, r, q⟩ => ⟨I1.kIn, ?_⟩) he hpl
  have q1 := q (s1.heap.objs.size + 1) s1.heap.objs.size (I1.hok.fresh (Nat.le_succ _)) (I1.hok.fresh (Nat.le_refl _)) (Nat.ne_of_lt (Nat.lt_succ_self _))
  have I2 := Inv.made (C := C) I1
  have r2 : Vals (V.ref (s1.heap.objs.size + 1) :: vs) (Value.ref (s1.heap.objs.size + 1) :: us) := .cons rfl r
  have hl : (Value.ref (s1.heap.objs.size + 1) :: us).length = ps.length := by rw [← r2.length]; exact F.len _ _ _ _ q1
  have b := hb _ _ I2.kIn (by rw [List.append_nil]; exact hl)
  rw [List.append_nil] at b
  refine wpAny_call (make_map (f := f) I1.kIn M.makes M.init (beq_iff_eq.mp M.fn) (codeAny_mono (F.run _ X.stack _ _ _ _ _ _ (E σ) (hr.make C us []) (I2.env0.make C us []) b r2 q1) fun r s' z => ?_))
  cases r with
  | error e => exact hx σ pins _ _ e s' I2 z
  | ok fl =>
    cases fl with
    | ret u => exact let ⟨v, H', I3, rv, ev, q3⟩ := I2.after z; ⟨by subst ev; exact rv, ⟨V.ref (s1.heap.objs.size + 1), H', I3, rfl, q3⟩⟩
    | next => exact z.elim
    | brk => exact z.elim
    | cont => exact z.elim
/-- o.m(..), what is raised wished for at the slots -/
def tMethW (C : Addr) (m : Str) (sp : Sp) (E : L2.St → XK) (ta : TE) (t : TA) : TE := fun σ H Q => ta σ H fun x H1 => ∃ a dx fs, x = .ref a ∧ H1 a = some (.ins C dx fs) ∧ fs.lookup m = none ∧ t σ H1 fun vs H2 => sp (x :: vs) H2 Q (E σ)
theorem pe_methW {pl : Sem Bool} (he : PE X o ta) (c : Cls X.K C) (hm : Meth X.K C m f) (F : FnOk X.prog X.w X.K X.mg X.base CX k f fd ps sp) (hr : Room k X.A) (hb : Binds X.K fd ps []) (hx : ∀ σ, PassesAt CX X σ (E σ)) (ha : PA X (e :: es) t)
    (hst : starEach (e :: es) X.env = (false, eval e X.env) :: starEach es X.env := by rfl) (hpl : (backTo pos (starEach es X.env)).any (·.1) = false := by rfl)
    (ht : eval (.Call (.Attribute o m apos) (e :: es) [] pos) X.env = (do
      let ov ← eval o X.env
      standAt apos.atName
      let (f, first) ← holding [ov] (getMethod ov m pl)
      callWith pos f first (backTo pos (starEach (e :: es) X.env)) (backToKw pos (keywordEach [] X.env))) := by rfl) : PE X (.Call (.Attribute o m apos) (e :: es) [] pos) (tMethW C m sp E ta t) := by
  refine ⟨fun pins s σ H Q I h => PySem.W.methodCall_KW (pl := pl) (thn (he.run pins s σ H _ I h) fun u s1 ⟨x, H1, I1, rx, a, dx, fs, ex, ea, l, q⟩ => ?_) ht⟩
  subst ex
  cases rx
  refine getmeth_ok I1 ea c hm l (PySem.W.callWith_K (first := [.ref a]) (h₀ := X.base) I.ok.mod.kin hm.kp (thn (ha.run pos pins s1 σ H1 _ I1 q) fun us s2 ⟨vs, H2, I2, r, q2⟩ => ⟨I2.kIn, ?_⟩) hst hpl)
  exact run_fnS (us := .ref a :: us) (vs := .ref a :: vs) F hr hb (hx σ) I2 (.cons rfl r) q2
end
end Tw

set_option maxRecDepth 100000
set_option maxHeartbeats 4000000
/-! sorted of a list of data that may be compared: what comes out, as data -/
namespace SD
open PySem PySem.Spec PySem.W PyProof.Rows L2 Cm PySem.SeqAt
theorem each_of {K : PySem.W.Frag} {H : Hp} : ∀ {ys : List V} {us : List Value} {ds : List PyData}, Vals ys us → DpAll K H ys ds → EachIs (fun (v : Value) (d : PyData) => ∃ x : V, RelV x v ∧ Dp K H x d) us ds
  | _, _, _, .nil, .nil => .nil
  | _, _, _, .cons r rs, .cons a b => .cons ⟨_, r, a⟩ (each_of rs b)
theorem of_each {K : PySem.W.Frag} {H : Hp} : ∀ {us : List Value} {ds : List PyData}, EachIs (fun (v : Value) (d : PyData) => ∃ x : V, RelV x v ∧ Dp K H x d) us ds → ∃ ys : List V, Vals ys us ∧ DpAll K H ys ds
  | _, _, .nil => ⟨[], .nil, .nil⟩
  | _, _, .cons ⟨x, r, a⟩ h => by
    obtain ⟨ys, rs, b⟩ := of_each h
    exact ⟨x :: ys, .cons r rs, .cons a b⟩
theorem each_imp {α β : Type} {R S : α → β → Prop} (h : ∀ a b, R a b → S a b) : ∀ {as : List α} {bs : List β}, EachIs R as bs → EachIs S as bs
  | _, _, .nil => .nil
  | _, _, .cons a b => .cons (h _ _ a) (each_imp h b)
/-- sorted(xs): data, alike, not too deep -/
def rSortD (K : PySem.W.Frag) : List V → Hp → VK → Prop := fun xs H Q => ∃ a ys ds, xs = [V.ref a] ∧ SqL K H a ys ∧ DpAll K H ys ds ∧ AllAlike ds ∧ Sortable ds ∧ (∀ d ∈ ds, d.depth ≤ 50) ∧
  ∀ zs p, DpAll K H zs (ds.mergeSort (dataLe false id)) → H p = none → Q (.ref p) (upd H p (.lst zs))
theorem cr_sortD {X : Cx} (hu : X.A.units + 60 < cLine) : CallR X (.builtin "sorted") (rSortD X.K) := by
  intro pins s σ H vs us Q I r h
  obtain ⟨a, ys, ds, rfl, hs, hd, hal, hk, hdp, q⟩ := h
  obtain ⟨its, rv, hl, hz⟩ := I.list hs
  rw [Vals.ref1 r]
  have e := each_of rv hd
  have hlen0 : ys.length = its.length := rv.length
  have hlen : ds.length ≤ sizeLine := by rw [← e.length, ← hlen0]; exact hz
  have er : EachIs (fun (v : Value) (d : PyData) => ∃ as, Reads s.heap v (id d) as) its ds := each_imp (fun v d ⟨x, rx, dx⟩ => Dp.reads I _ _ _ dx rx) e
  have hb2 : ∀ b, b ∈ ds → X.A.units + 2 + (id b).depth < cLine := fun b hb => by
    have := hdp b hb
    show X.A.units + 2 + b.depth < cLine
    omega
  refine PySem.W.sorted_data (enc := id) hl.isList e er (by simpa using hal) (by simpa using hk) hlen hb2 (fun out ho eo => ?_)
  obtain ⟨zs, rz, dz⟩ := of_each eo
  obtain ⟨ep, he'⟩ := PyProof.Rows.sortedAll_at s.heap its out.toArray
  have zl : zs.length ≤ sizeLine := by rw [rz.length, ho]; exact hlen
  exact ⟨.ref _, upd H (s.heap.objs.size + 1) (.lst zs), I.laid (t' := s.toks) (fun _ _ => PyProof.Rows.sortedAll_old) (Nat.le_succ _) ⟨zl, out, ep, rz, he'⟩, rfl, q zs _ dz (I.hok.fresh (Nat.le_succ _))⟩
end SD

set_option maxRecDepth 100000
set_option maxHeartbeats 8000000
namespace Sg
open PySem PySem.Spec PyProof.Rows L2 Dr Gd Er Cm Ow XT TM Tw
abbrev sChoice : Stmt := top 25
/-- names of N, each at most once, told as a list -/
def chL (N : List Str) : List Str → List PyData → Option (List Str)
  | acc, [] => some acc
  | acc, .str z :: ds => if decide (z ∈ N) && !decide (z ∈ acc) then chL N (acc ++ [z]) ds else none
  | _, _ :: _ => none
def chO (N : List Str) : PyData → Option (List Str)
  | .list ds => chL N [] ds
  | _ => none
def kvT (acc : List Str) : List (Key × V) := acc.map fun z => (Sum.inr z, V.bl true)
theorem kvT_val (acc : List Str) (z : Str) : (valV (kvT acc) (Sum.inr z)).isSome = decide (z ∈ acc) := by
  rw [← valV_any]
  unfold kvT
  rw [List.any_map]
  induction acc with
  | nil => rfl
  | cons a acc ih =>
    rw [List.any_cons, ih]
    simp only [Function.comp, List.mem_cons]
    by_cases h : z = a
    · subst h; simp
    · have h1 : ¬ (Sum.inr a : Key) = Sum.inr z := fun e => h (by injection e with e; exact e.symm)
      simp [h, h1]
theorem kvT_put {acc : List Str} {z : Str} (h : decide (z ∈ acc) = false) : putK (kvT acc) (Sum.inr z) (.bl true) = kvT (acc ++ [z]) := by
  have e : valV (kvT acc) (Sum.inr z) = none := by
    have := kvT_val acc z
    rw [h] at this
    cases q : valV (kvT acc) (Sum.inr z) with
    | none => rfl
    | some v => rw [q] at this; cases this
  rw [putK_new _ e]
  unfold kvT
  rw [List.map_append]
  rfl
theorem any_names (N : List Str) (d : PyData) : ((N.map PyData.str).any fun z => PyData.eqv z d) = (match d with | .str z => decide (z ∈ N) | _ => false) := by
  rw [List.any_map]
  induction N with
  | nil => cases d <;> rfl
  | cons a N ih =>
    rw [List.any_cons, ih]
    cases d with
    | str z =>
      simp only [Function.comp, List.mem_cons]
      show ((a == z) || _) = _
      by_cases h : z = a
      · subst h; simp
      · have h1 : (a == z) = false := by simpa using fun e => h e.symm
        simp [h, h1]
    | _ => rfl
theorem sh_list {ds : List PyData} (h : SeqAt.shaped (.list ds) = true) : ∀ d ∈ ds, SeqAt.shaped d = true := by
  unfold SeqAt.shaped at h
  rw [Bool.and_eq_true] at h
  have h1 : PyData.canLayAll0 ds = true := h.1
  have h2 := of_decide_eq_true h.2
  simp only [PyData.depth] at h2
  have h3 : PyData.depthAll ds ≤ 63 := by omega
  clear h h2
  revert h1 h3
  induction ds with
  | nil => intro _ _ d hd; cases hd
  | cons x ds ih =>
    intro h1 h2 d hd
    simp only [PyData.canLayAll0, Bool.and_eq_true] at h1
    simp only [PyData.depthAll] at h2
    rcases List.mem_cons.mp hd with rfl | hd
    · unfold SeqAt.shaped
      rw [h1.1, Bool.true_and]
      exact decide_eq_true (by omega)
    · exact ih h1.2 (by omega) d hd
def spChoice (K : PySem.W.Frag) : Sp := fun vs H Q _ => ∃ v d w N, vs = [v, w] ∧ Dp K H v d ∧ Dp K H w (.list (N.map .str)) ∧ SeqAt.shaped d = true ∧ (∀ z ∈ N, PyData.strOk z = true) ∧ (∀ ds, d = .list ds → ds.length ≤ 1000) ∧ ∀ H', Same H H' → Q (.bl (chO N d).isSome) H'
theorem chL_len {N : List Str} : ∀ {ds : List PyData} {acc r : List Str}, chL N acc ds = some r → r.length = acc.length + ds.length
  | [], acc, r, h => by rw [chL] at h; obtain rfl := Option.some.inj h; rfl
  | .str z :: ds, acc, r, h => by
    rw [chL] at h
    split at h
    · have := chL_len h
      rw [this, List.length_append]
      simp only [List.length_cons, List.length_nil]
      omega
    · cases h
  | .none :: ds, acc, r, h => by simp [chL] at h
  | .bool _ :: ds, acc, r, h => by simp [chL] at h
  | .int _ :: ds, acc, r, h => by simp [chL] at h
  | .list _ :: ds, acc, r, h => by simp [chL] at h
  | .tuple _ :: ds, acc, r, h => by simp [chL] at h
  | .dict _ :: ds, acc, r, h => by simp [chL] at h
theorem chL_mem {N : List Str} : ∀ {ds : List PyData} {acc r : List Str}, chL N acc ds = some r → acc.Nodup → (∀ z ∈ acc, z ∈ N) → r.Nodup ∧ (∀ z ∈ r, z ∈ N) ∧ ∃ zs, ds = zs.map PyData.str ∧ r = acc ++ zs
  | [], acc, r, h, nd, hm => by rw [chL] at h; obtain rfl := Option.some.inj h; exact ⟨nd, hm, [], rfl, by simp⟩
  | .str z :: ds, acc, r, h, nd, hm => by
    rw [chL] at h
    split at h
    · rename_i c
      rw [Bool.and_eq_true] at c
      have c1 := of_decide_eq_true c.1
      have c2 : z ∉ acc := by simpa using c.2
      obtain ⟨a, b, zs, e1, e2⟩ := chL_mem h (by
        rw [List.nodup_append]
        exact ⟨nd, by simp, fun x hx y hy => by rw [List.mem_singleton.mp hy]; exact fun e => c2 (e ▸ hx)⟩) (fun x hx => by
          rcases List.mem_append.mp hx with hx | hx
          · exact hm x hx
          · rw [List.mem_singleton.mp hx]; exact c1)
      exact ⟨a, b, z :: zs, by rw [e1]; rfl, by rw [e2, List.append_assoc]; rfl⟩
    · cases h
  | .none :: ds, acc, r, h, _, _ => by simp [chL] at h
  | .bool _ :: ds, acc, r, h, _, _ => by simp [chL] at h
  | .int _ :: ds, acc, r, h, _, _ => by simp [chL] at h
  | .list _ :: ds, acc, r, h, _, _ => by simp [chL] at h
  | .tuple _ :: ds, acc, r, h, _, _ => by simp [chL] at h
  | .dict _ :: ds, acc, r, h, _, _ => by simp [chL] at h
theorem chL_all {N : List Str} : ∀ {zs acc : List Str}, (∀ z ∈ zs, z ∈ N) → zs.Nodup → (∀ z ∈ zs, z ∉ acc) → chL N acc (zs.map PyData.str) = some (acc ++ zs)
  | [], acc, _, _, _ => by simp [chL]
  | z :: zs, acc, h, nd, hd => by
    rw [List.map_cons, chL, if_pos (by simp [h z List.mem_cons_self, hd z List.mem_cons_self])]
    rw [List.nodup_cons] at nd
    rw [chL_all (fun x hx => h x (List.mem_cons_of_mem _ hx)) nd.2 (fun x hx hm => by
      rcases List.mem_append.mp hm with hm | hm
      · exact hd x (List.mem_cons_of_mem _ hx) hm
      · rw [List.mem_singleton.mp hm] at hx
        exact nd.1 hx), List.append_assoc]
    rfl
section
variable {P : Program} {w : World} {K : PySem.W.Frag} {mg : Str → Option Value} {base : Heap}
theorem scCh : FnScope ["value", "names", "met", "name"] ["value", "names"] (defScope sChoice) := ⟨rfl, rfl, rfl, by decide +kernel, rfl, by decide +kernel, by decide +kernel⟩
theorem ok_choice {f : Addr} {fd : FuncData} (F : Fun K "is_choice" "is_choice" sChoice f fd) (T : KTxt mg) (hls : mg "list" = none) : FnOk P w K mg base CX0 1 f fd ["value", "names"] (spChoice K) := by
  refine F.ok scCh (fun vs H Q E h => ?_) (fun cdv A outer s H vs Q E hr h => ?_)
  · obtain ⟨v, d, w, N, rfl, _⟩ := h
    rfl
  · obtain ⟨v, d, w, N, rfl, hd, hw, hsh, hN, hNl, q⟩ := h
    have hu := hu_of hr
    have hu2 : (A.deeper (envOfC "is_choice" (defScope sChoice) s.heap.objs.size f cdv)).units + 65 < cLine := by
      have := hr.un
      omega
    refine ⟨_, pss_cons (ps_if (pt_not (pt_val (pe_callB call_isi (by rfl) T.isi (by decide +kernel) (pa_cons (pv 0) (pa_cons (pe_bltn (v := .ty "list") (by rfl) hls (by decide +kernel) rfl) pa_nil)))))
        (pss_one (ps_ret pe_bl)) pss_nil)
      (pss_cons (ps_set (i := 2) scCh.nd rfl (Or.inl rfl) pe_dnewK)
      (pss_cons (ps_for PassesOwn.never rfl (pi_list (pv 0)) (pg_name (i := 3) scCh.nd rfl (Or.inl rfl))
        (pss_cons (ps_if (PW.pt (pw_or (pt_cmpR (op_notInD hu2) (pv 3) (pv 1) (by rfl)) (pw_or1 (pt_cmp (pc_din hu (pv 3) (pv 2))))))
          (pss_one (ps_ret pe_bl)) pss_nil)
        (pss_one (ps_dput hu (pv 2) (pv 3) pe_bl rfl))))
      (pss_one (ps_ret pe_bl)))), ?_⟩
    refine ⟨_, rfl, v, .ty "list", .type (tyD d), .type "list", _, rfl, .ty _, ty_dp hd, kit_ty (k_list d), _, rfl, ?_⟩
    cases d with
    | list ds =>
      cases hd with
      | lst h1 h2 =>
        rename_i a xs
        refine iteF ?_
        have hl := dpAll_len h2
        have hds := sh_list hsh
        intro dn hdn
        have s0 := same_upd (o := .dK []) hdn
        refine ⟨_, rfl, a, rfl, ⟨xs, Same.seq s0 h1⟩, ?_⟩
        refine for_it (walk_list (xs := xs)) (fun i σ H' => ∃ acc c3, σ = [some (.ref a), some w, some (.ref dn), c3] ∧ Same H H' ∧ chL N [] ds = chL N acc (ds.drop i) ∧ acc.length ≤ i ∧ H' dn = some (.dK (kvT acc)))
          ⟨[], none, rfl, s0, rfl, Nat.le_refl _, upd_same⟩ (fun i σ H' hi hp => by obtain ⟨_, _, _, sm, _⟩ := hp; exact Same.seq sm h1) (fun i y σ Hq H' hi hp hy => ?_) (fun σ H' hp => ?_)
        · obtain ⟨acc, c3, rfl, sm, hb, hal, hdk⟩ := hp
          obtain ⟨rfl, ey⟩ := hy
          obtain ⟨dz, e3, hz⟩ := dpAll_get' h2 ey
          have e4 : ds.drop i = dz :: ds.drop (i + 1) := by
            obtain ⟨h, e⟩ := List.getElem?_eq_some_iff.mp e3
            rw [List.drop_eq_getElem_cons h, e]
          rw [e4] at hb
          have hz2 := dp_same sm _ _ hz
          have sz := hds dz (List.mem_of_getElem? e3)
          have sN : SeqAt.shaped (.list (N.map PyData.str)) = true := shaped_list fun e he => by
            obtain ⟨z, hz, rfl⟩ := List.mem_map.mp he
            exact ⟨hN z hz, by simp [PyData.depth]⟩
          refine ⟨_, rfl, _, rfl, dz, N.map PyData.str, hz2, dp_same sm _ _ hw, sz, sN, _, rfl, ?_⟩
          rw [any_names]
          have no : (∀ z, dz = .str z → decide (z ∈ N) = false) → Q (.bl false) H' := fun h => by
            have e5 : chL N acc (dz :: ds.drop (i + 1)) = none := by
              cases dz with
              | str z => rw [chL, if_neg (by rw [h z rfl]; simp)]
              | _ => simp [chL]
            have := q H' sm
            rw [show chO N (.list ds) = chL N [] ds from rfl, hb, e5] at this
            exact this
          cases dz with
          | str z =>
            cases hz2
            refine ite2 (fun c => ?_) (fun c => ?_)
            · exact no fun z' e => by
                injection e with e
                subst e
                simpa using c
            · have c : decide (z ∈ N) = true := by simpa using c
              refine ⟨_, rfl, _, rfl, dn, _, rfl, DGet.k (k := Sum.inr z) hdk, _, rfl, ?_⟩
              rw [kvT_val]
              refine ite2 (fun c2 => ?_) (fun c2 => ?_)
              · have e5 : chL N acc (.str z :: ds.drop (i + 1)) = none := by rw [chL, if_neg (by rw [c2]; simp)]
                have := q H' sm
                rw [show chO N (.list ds) = chL N [] ds from rfl, hb, e5] at this
                exact this
              · have c2 : decide (z ∈ acc) = false := by simpa using c2
                have hal2 : acc.length < sizeLine := by
                  have h3 := hNl _ rfl
                  have h4 : acc.length < 1000000 := by omega
                  exact Nat.lt_of_lt_of_le h4 (by decide)
                refine ⟨_, rfl, _, rfl, dn, _, rfl, DPut.k (k := Sum.inr z) hdk (by unfold kvT; rw [List.length_map]; exact hal2), ?_⟩
                refine ⟨acc ++ [z], _, rfl, ?_, ?_, ?_, ?_⟩
                · exact fun b o e => by
                    rw [upd_ne (ne_of_none e hdn)]
                    exact sm b o e
                · rw [hb, chL, if_pos (by rw [c, c2]; rfl)]
                · rw [List.length_append]
                  exact Nat.succ_le_succ hal
                · rw [upd_same, kvT_put c2]
          | _ => exact iteT (no fun z e => by cases e)
        · obtain ⟨acc, c3, rfl, sm, hb, hal, hdk⟩ := hp
          have := q H' sm
          rw [show chO N (.list ds) = chL N [] ds from rfl, hb, hl, List.drop_length, chL] at this
          exact this
    | _ => exact iteT (q H (Same.refl H))
end
end Sg

set_option maxRecDepth 100000
/-! [e for a in xs for b in ys]: both walks by what holds at each turn -/
namespace LC2
open PySem PySem.Spec PyProof.Rows L2
section
variable {J : It} {n : Nat} {G : Hp → Prop} {Y : Nat → Hp → V → Hp → Prop}
theorem in_it (w : Walk J n G Y) {σ2 : L2.St} {H4 : Hp} {Nx : Hp → Prop} {g1 : TG} {tt1 : TT} {te : TE} {vs1 : List Nat} {D : Addr} (Pv : Nat → Hp → Prop) (h0 : Pv 0 H4) (hG : ∀ i H, i ≤ n → Pv i H → G H)
    (hs : ∀ i x H H', i < n → Pv i H → Y i H x H' → g1 x (wipe σ2 vs1) H' fun σ3 H5 => wipe σ3 vs1 = wipe σ2 vs1 ∧ tt1 σ3 H5 fun b H6 =>
      if b = true then te σ3 H6 fun y H7 => ∃ acc, H7 D = some (.lst acc) ∧ acc.length < sizeLine ∧ Pv (i + 1) (upd H7 D (.lst (acc ++ [y]))) else Pv (i + 1) H6) (hd : ∀ H, Pv n H → Nx H) :
    ∃ W1 : Nat → Nat → Hp → Prop, (∃ m, W1 0 m H4) ∧ ∀ j k H, W1 j k H →
      (J.stop j H ∧ Nx H) ∨ (J.go j H ∧ ∃ Nx1 : Hp → Prop, (∀ H', Nx1 H' → ∃ k', k' < k ∧ W1 (j + 1) k' H') ∧ ∀ x H', J.yld j H x H' → g1 x (wipe σ2 vs1) H' fun σ3 H5 => wipe σ3 vs1 = wipe σ2 vs1 ∧ tt1 σ3 H5 fun b H6 =>
        if b = true then te σ3 H6 fun y H7 => ∃ acc, H7 D = some (.lst acc) ∧ acc.length < sizeLine ∧ Nx1 (upd H7 D (.lst (acc ++ [y]))) else Nx1 H6) := by
  refine ⟨fun i m H => m = n - i ∧ i ≤ n ∧ Pv i H, ⟨n, by simp, Nat.zero_le _, h0⟩, ?_⟩
  rintro i m H ⟨rfl, hi, p⟩
  have q := hG i H hi p
  by_cases hlt : i < n
  · refine .inr ⟨w.goes i H hlt q, Pv (i + 1), fun H' p' => ⟨n - (i + 1), by omega, rfl, hlt, p'⟩, fun x H' y => hs i x H H' hlt p (w.yields i H x H' hlt q y)⟩
  · have e : i = n := by omega
    subst e
    exact .inl ⟨w.stops H q, hd H p⟩
theorem lc2_it (w : Walk J n G Y) {g : TG} {tt : TT} {wi1 : TI} {g1 : TG} {tt1 : TT} {te : TE} {vs vs1 : List Nat} {σ : L2.St} {H1 : Hp} {D : Addr} {Qd : Hp → Prop} (Pv : Nat → Hp → Prop) (h0 : Pv 0 (upd H1 D (.lst []))) (hG : ∀ i H, i ≤ n → Pv i H → G H)
    (hs : ∀ i x H H', i < n → Pv i H → Y i H x H' → g x (wipe σ vs) H' fun σ2 H2 => wipe σ2 vs = wipe σ vs ∧ tt σ2 H2 fun b H3 =>
      if b = true then wi1 σ2 H3 fun J1 H4 => ∃ W1 : Nat → Nat → Hp → Prop, (∃ m, W1 0 m H4) ∧ ∀ j k H, W1 j k H →
        (J1.stop j H ∧ Pv (i + 1) H) ∨ (J1.go j H ∧ ∃ Nx1 : Hp → Prop, (∀ H', Nx1 H' → ∃ k', k' < k ∧ W1 (j + 1) k' H') ∧ ∀ x H', J1.yld j H x H' → g1 x (wipe σ2 vs1) H' fun σ3 H5 => wipe σ3 vs1 = wipe σ2 vs1 ∧ tt1 σ3 H5 fun b H6 =>
          if b = true then te σ3 H6 fun y H7 => ∃ acc, H7 D = some (.lst acc) ∧ acc.length < sizeLine ∧ Nx1 (upd H7 D (.lst (acc ++ [y]))) else Nx1 H6)
      else Pv (i + 1) H3) (hd : ∀ H, Pv n H → Qd H) :
    ∃ W : Nat → Nat → Hp → Prop, (∃ m, W 0 m (upd H1 D (.lst []))) ∧ ∀ i m H, W i m H →
      (J.stop i H ∧ Qd H) ∨ (J.go i H ∧ ∃ Nx : Hp → Prop, (∀ H', Nx H' → ∃ m', m' < m ∧ W (i + 1) m' H') ∧ ∀ x H', J.yld i H x H' → g x (wipe σ vs) H' fun σ2 H2 => wipe σ2 vs = wipe σ vs ∧ tt σ2 H2 fun b H3 =>
        if b = true then wi1 σ2 H3 fun J1 H4 => ∃ W1 : Nat → Nat → Hp → Prop, (∃ m, W1 0 m H4) ∧ ∀ j k H, W1 j k H →
          (J1.stop j H ∧ Nx H) ∨ (J1.go j H ∧ ∃ Nx1 : Hp → Prop, (∀ H', Nx1 H' → ∃ k', k' < k ∧ W1 (j + 1) k' H') ∧ ∀ x H', J1.yld j H x H' → g1 x (wipe σ2 vs1) H' fun σ3 H5 => wipe σ3 vs1 = wipe σ2 vs1 ∧ tt1 σ3 H5 fun b H6 =>
            if b = true then te σ3 H6 fun y H7 => ∃ acc, H7 D = some (.lst acc) ∧ acc.length < sizeLine ∧ Nx1 (upd H7 D (.lst (acc ++ [y]))) else Nx1 H6)
        else Nx H3) := by
  refine ⟨fun i m H => m = n - i ∧ i ≤ n ∧ Pv i H, ⟨n, by simp, Nat.zero_le _, h0⟩, ?_⟩
  rintro i m H ⟨rfl, hi, p⟩
  have q := hG i H hi p
  by_cases hlt : i < n
  · refine .inr ⟨w.goes i H hlt q, Pv (i + 1), fun H' p' => ⟨n - (i + 1), by omega, rfl, hlt, p'⟩, fun x H' y => hs i x H H' hlt p (w.yields i H x H' hlt q y)⟩
  · have e : i = n := by omega
    subst e
    exact .inl ⟨w.stops H q, hd H p⟩
end
end LC2

set_option maxRecDepth 100000
set_option maxHeartbeats 8000000
namespace Sg
open PySem PySem.Spec PyProof.Rows L2 Dr Gd Er Cm Ow XT TM Tw SD
abbrev sFactsOf : Stmt := top 36
def abD (f g : Str) : PyData := .tuple [.str "above", .str f, .str g]
def aboveL : List Str → List PyData
  | [] => []
  | f :: r => r.map (abD f) ++ aboveL r
def wayD (lots : List Str) (f : Str) : PyData := .tuple [.str (if decide (f ∈ lots) then "lots" else "left"), .str f]
def wayL (lots ways : List Str) : List PyData := ways.map (wayD lots)
def factsD (row lots ways : List Str) : List PyData := (aboveL row ++ wayL lots ways).mergeSort (PySem.W.dataLe false id)
theorem abl_len : ∀ row : List Str, (aboveL row).length ≤ row.length * row.length
  | [] => Nat.le_refl _
  | f :: r => by
    have := abl_len r
    rw [aboveL, List.length_append, List.length_map, List.length_cons]
    have e : (r.length + 1) * (r.length + 1) = r.length * r.length + r.length + r.length + 1 := by
      rw [Nat.add_mul, Nat.mul_add]
      omega
    omega
theorem inV_str (z : Str) (zs : List Str) : inV (.str z) (zs.map V.str) = decide (z ∈ zs) := by
  unfold inV
  rw [List.any_map]
  induction zs with
  | nil => rfl
  | cons a zs ih =>
    rw [List.any_cons, ih]
    show ((a == z) || _) = _
    by_cases h : z = a
    · subst h; simp
    · have h1 : (a == z) = false := by simpa using fun e => h e.symm
      simp [h, h1]
theorem flat_strs (zs : List Str) : (zs.map V.str).all flatV = true := by
  rw [List.all_map]
  exact List.all_eq_true.mpr fun _ _ => rfl
theorem strs_at {row : List Str} {i : Nat} {v : V} (h : (row.map V.str)[i]? = some v) : ∃ z, row[i]? = some z ∧ v = .str z := by
  rw [List.getElem?_map] at h
  cases e : row[i]? with
  | none => rw [e] at h; cases h
  | some z => rw [e] at h; exact ⟨z, rfl, (Option.some.inj h).symm⟩
theorem cut_from (xs : List V) (k : Nat) : cutV xs (some (k : Int)) none = xs.drop k := by
  unfold cutV
  rw [HT.sIx_none, HT.sIx_nat]
  rcases Nat.le_total k xs.length with h | h
  · rw [Nat.min_eq_left h, List.take_of_length_le (by rw [List.length_drop]; omega)]
  · rw [Nat.min_eq_right h, List.drop_eq_nil_of_le h, List.drop_eq_nil_of_le (Nat.le_refl _), List.take_nil]
theorem del_sub {H : Hp} {p : Addr} : Same (L2.del H p) H := fun b o e => by
  by_cases hb : b = p
  · subst hb; rw [del_same] at e; cases e
  · rw [del_ne hb] at e; exact e
inductive FactD : PyData → Prop where
  | ab (f g : Str) : FactD (abD f g)
  | way (w f : Str) : FactD (.tuple [.str w, .str f])
theorem abl_fact : ∀ {row : List Str}, ∀ d ∈ aboveL row, FactD d
  | [], d, h => by cases h
  | f :: r, d, h => by
    rw [aboveL] at h
    rcases List.mem_append.mp h with h | h
    · obtain ⟨g, _, rfl⟩ := List.mem_map.mp h
      exact .ab f g
    · exact abl_fact d h
theorem fact_alike : ∀ {a b : PyData}, FactD a → FactD b → PySem.W.alike a b = true := by
  intro a b h1 h2
  cases h1 <;> cases h2 <;> simp [abD, PySem.W.alike, PySem.W.alikeAll]
theorem fact_tup {a : PyData} (h : FactD a) : ∃ x r, a = .tuple (x :: r) := by
  cases h
  · exact ⟨_, _, rfl⟩
  · exact ⟨_, _, rfl⟩
theorem fact_dep {a : PyData} (h : FactD a) : a.depth ≤ 50 := by
  cases h <;> simp [abD, PyData.depth, PyData.depthAll]
def spFactsOf (K : PySem.W.Frag) : Sp := fun vs H Q _ => ∃ a b c row lots ways, vs = [.ref a, .ref b, .ref c] ∧ SqL K H a (row.map V.str) ∧ SqL K H b (lots.map V.str) ∧ SqL K H c (ways.map V.str) ∧ row.length ≤ 5 ∧ ways.length ≤ 5 ∧
  ∀ t xs H', Same H H' → H t = none → H' t = some (.tup xs) → DpAll K H' xs (factsD row lots ways) → Q (.ref t) H'
section
variable {P : Program} {w : World} {K : PySem.W.Frag} {mg : Str → Option Value} {base : Heap}
theorem scFo : FnScope ["names", "lots", "ways", "above", "told", "k", "f", "g"] ["names", "lots", "ways"] (defScope sFactsOf) := ⟨rfl, rfl, rfl, by decide +kernel, rfl, by decide +kernel, by decide +kernel⟩
theorem ok_factsOf {f : Addr} {fd : FuncData} (F : Fun K "_facts_of" "_facts_of" sFactsOf f fd) (enu : mg "enumerate" = none) (srt : mg "sorted" = none) (tpl : mg "tuple" = none) : FnOk P w K mg base CX0 1 f fd ["names", "lots", "ways"] (spFactsOf K) := by
  refine F.ok scFo (fun vs H Q E h => ?_) (fun cdv A outer s H vs Q E hr h => ?_)
  · obtain ⟨a, b, c, row, lots, ways, rfl, _⟩ := h
    rfl
  · obtain ⟨a, b, c, row, lots, ways, rfl, ha, hb, hc, r5, w5, q⟩ := h
    have nd := scFo.nd
    have hu : (A.deeper (envOfC "_facts_of" (defScope sFactsOf) s.heap.objs.size f cdv)).units + 60 < cLine := by
      have := hr.un
      omega
    refine ⟨_, pss_cons (ps_setLc2 (i := 3) (own := [("k", 5), ("f", 6), ("g", 7)]) (vs1 := [7]) (g := gTup K 2 (gCons (gName 5) (gCons (gName 6) gNil))) (tt := tYes) (wi1 := iList K (tSl (rSlL K) (tVar 0) (tPart (tOp (rI0 fun i j => .int (i + j)) (tVar 5) (tC (.int 1)))) tNoPart)) (g1 := gName 7) (tt1 := tYes) (te := tTup (tCons (tC (.str "above")) (tCons (tVar 6) (tCons (tVar 7) tNil)))) (by rfl) nd rfl rfl (sw_true rfl rfl rfl (by decide +kernel))
          (pi_enum (by rfl) enu (pa_cons (pv 0) pa_nil)) (blkOk_by (N := ["names", "lots", "ways", "above", "told", "k", "f", "g"]) (sc := defScope sFactsOf) (by decide +kernel)) (by decide)
          (fun _ _ _ _ _ => pg_tup rfl (pgs_cons (pg_name (i := 5) nd rfl (Or.inl rfl)) (pgs_cons (pg_name (i := 6) nd rfl (Or.inl rfl)) pgs_nil))) (fun _ _ _ _ _ => pts_nil)
          (fun _ _ _ _ _ => pi_list (pe_slice sl_list (pv 0) (po_some (pe_op op_add (pv 5) pe_int)) po_none)) (fun _ _ _ _ _ => pg_name (i := 7) nd rfl (Or.inl rfl)) (fun _ _ _ _ _ => pts_nil)
          (fun _ _ _ _ _ => pe_tup (pa_cons pe_str (pa_cons (pv 6) (pa_cons (pv 7) pa_nil)))))
      (pss_cons (ps_setLc (i := 4) (own := [("f", 6)]) (g := gName 6) (tt := tYes) (te := tTup (tCons (tIf (tTest (tOp (rIn K false) (tVar 6) (tVar 1))) (tC (.str "lots")) (tC (.str "left"))) (tCons (tVar 6) tNil))) (by rfl) nd rfl rfl (sw_true rfl rfl rfl (by decide +kernel))
          (pi_list (pv 2)) (blkOk_by (N := ["names", "lots", "ways", "above", "told", "k", "f", "g"]) (sc := defScope sFactsOf) (by decide +kernel)) (fun _ _ _ _ _ => pg_name (i := 6) nd rfl (Or.inl rfl)) (fun _ _ _ _ _ => pts_nil)
          (fun _ _ _ _ _ => pe_tup (pa_cons (pe_ifExp (pt_cmpR op_in_seq (pv 6) (pv 1) (by rfl)) pe_str pe_str) (pa_cons (pv 6) pa_nil))))
      (pss_one (ps_ret (pe_callTy call_tuple_of (by rfl) tpl (by decide +kernel) (pa_cons (pe_callB (show CallR _ (.builtin "sorted") (rSortD K) from cr_sortD hu) (by rfl) srt (by decide +kernel) (pa_cons (pe_op op_cat (pv 3) (pv 4)) pa_nil)) pa_nil))))), ?_⟩
    have hn := nd
    have bigL : ∀ {n : Nat}, n ≤ 100 → n < sizeLine := fun h => Nat.lt_of_le_of_lt h (by decide)
    have al : (aboveL row).length ≤ 25 := Nat.le_trans (abl_len row) (Nat.mul_le_mul r5 r5)
    refine ⟨_, rfl, a, _, rfl, ha, fun D hD => ?_⟩
    have nD : ∀ {b : Addr} {o : HO}, H b = some o → b ≠ D := fun e => ne_of_none e hD
    refine LC2.lc2_it (walk_enum (xs := row.map V.str)) (fun i H' => ∃ us acc, Same H H' ∧ H' D = some (.lst us) ∧ DpAll K (L2.del H' D) us acc ∧ aboveL row = acc ++ aboveL (row.drop i)) ⟨[], [], same_upd hD, upd_same, .nil, rfl⟩ (fun i H' hi hp => by obtain ⟨_, _, sm, _⟩ := hp; exact Same.seq sm ha) (fun i y H1 H2 hi hp hy => ?_) (fun H' hp => ?_)
    · obtain ⟨us, acc, sm, hDl, hus, hab⟩ := hp
      obtain ⟨t, n1, z1, rfl, hT, rfl, e1, e2⟩ := hy
      cases e1
      obtain ⟨z, ez, rfl⟩ := strs_at e2
      have sT := same_upd (o := .tup [V.int (i : Nat), V.str z]) hT
      refine ⟨t, _, rfl, SqT.of upd_same, rfl, ?_⟩
      refine ⟨_, _, rfl, _, _, rfl, rfl, ?_⟩
      refine ⟨rfl, lcYes ?_⟩
      have s1 := Same.trans sm sT
      have D1 := sT _ _ hDl
      have hus1 : DpAll K (L2.del (L2.upd H1 t (.tup [V.int (i : Nat), V.str z])) D) us acc := dpAll_same (SameX.del (Same.x sT)) _ _ hus
      have edr : row.drop i = z :: row.drop (i + 1) := by
        obtain ⟨h, e⟩ := List.getElem?_eq_some_iff.mp ez
        rw [List.drop_eq_getElem_cons h, e]
      have hab1 : aboveL row = acc ++ ((row.drop (i + 1)).map (abD z) ++ aboveL (row.drop (i + 1))) := by rw [hab, edr, aboveL]
      generalize (L2.upd H1 t (.tup [V.int (i : Nat), V.str z])) = H2 at s1 D1 hus1 ⊢
      refine ⟨_, rfl, _, rfl, _, _, rfl, rfl, _, rfl, a, _, rfl, Same.seq s1 ha, fun p hp => ?_⟩
      rw [show ((i : Nat) : Int) + 1 = ((i + 1 : Nat) : Int) by omega, cut_from, ← List.map_drop]
      have sp := same_upd (o := .lst ((row.drop (i + 1)).map V.str)) hp
      have ep : (L2.upd H2 p (.lst ((row.drop (i + 1)).map V.str))) p = some (.lst ((row.drop (i + 1)).map V.str)) := upd_same
      have s2 := Same.trans s1 sp
      have D2 := sp _ _ D1
      have hus2 := dpAll_same (SameX.del (p := D) (Same.x sp)) _ _ hus1
      have pD : p ≠ D := fun z => by rw [z, D1] at hp; cases hp
      generalize (L2.upd H2 p (.lst ((row.drop (i + 1)).map V.str))) = H3 at ep s2 D2 hus2 ⊢
      refine ⟨p, rfl, ⟨_, SqL.of ep⟩, ?_⟩
      refine LC2.in_it (walk_list (xs := (row.drop (i + 1)).map V.str)) (fun j H' => ∃ us acc, Same H H' ∧ H' p = some (.lst ((row.drop (i + 1)).map V.str)) ∧ H' D = some (.lst us) ∧ DpAll K (L2.del H' D) us acc ∧ aboveL row = acc ++ (((row.drop (i + 1)).drop j).map (abD z) ++ aboveL (row.drop (i + 1))))
        ⟨us, acc, s2, ep, D2, hus2, by rw [List.drop_zero]; exact hab1⟩ (fun j H' hj hp => by obtain ⟨_, _, _, e, _⟩ := hp; exact SqL.of e) (fun j y Hq H' hj hp hy => ?_) (fun H' hp => ?_)
      · obtain ⟨us, acc, sm, ep, hDl, hus, hab⟩ := hp
        obtain ⟨rfl, ey⟩ := hy
        obtain ⟨z2, ez2, rfl⟩ := strs_at ey
        have edr2 : (row.drop (i + 1)).drop j = z2 :: (row.drop (i + 1)).drop (j + 1) := by
          obtain ⟨h, e⟩ := List.getElem?_eq_some_iff.mp ez2
          rw [List.drop_eq_getElem_cons h, e]
        rw [edr2, List.map_cons] at hab
        refine ⟨rfl, lcYes ?_⟩
        refine ⟨_, rfl, _, rfl, (by show 3 ≤ sizeLine; decide), fun t3 ht3 => ?_⟩
        have st := same_upd (o := .tup [V.str "above", .str z, .str z2]) ht3
        have D3 := st _ _ hDl
        have tD : t3 ≠ D := fun z => by rw [z, hDl] at ht3; cases ht3
        have lus := dpAll_len hus
        have lac : acc.length + 1 ≤ 25 := by
          have := congrArg List.length hab
          rw [List.length_append, List.length_append, List.length_cons] at this
          omega
        refine ⟨us, D3, bigL (by omega), us ++ [.ref t3], acc ++ [abD z z2], ?_, ?_, upd_same, ?_, ?_⟩
        · exact fun b o e => by
            rw [upd_ne (nD e)]
            exact st _ _ (sm b o e)
        · rw [upd_ne pD]
          exact st _ _ ep
        · rw [del_upd]
          refine dpAll_app (dpAll_same (SameX.del (Same.x st)) _ _ hus) (.cons (.tup (SqT.of (by rw [del_ne tD, upd_same])) (.cons (.str _) (.cons (.str _) (.cons (.str _) .nil)))) .nil)
        · rw [hab, List.append_assoc]
          rfl
      · obtain ⟨us, acc, sm, ep, hDl, hus, hab⟩ := hp
        rw [List.length_map, List.drop_length] at hab
        exact ⟨us, acc, sm, hDl, hus, hab⟩
    · obtain ⟨us, acc, sm, hDl, hus, hab⟩ := hp
      rw [List.length_map, List.drop_length, aboveL, List.append_nil] at hab
      subst hab
      have hus' := dpAll_same (del_sub (H := H') (p := D)) _ _ hus
      refine ⟨_, rfl, c, rfl, ⟨_, Same.seq sm hc⟩, fun D2 hD2 => ?_⟩
      have nD2 : ∀ {b : Addr} {o : HO}, H' b = some o → b ≠ D2 := fun e => ne_of_none e hD2
      refine lc_it (walk_list (xs := ways.map V.str)) (fun i H5 => ∃ ws, Same H' H5 ∧ H5 D2 = some (.lst ws) ∧ DpAll K (L2.del H5 D2) ws (wayL lots (ways.take i))) ⟨[], same_upd hD2, upd_same, .nil⟩ (fun i H5 hi hp => by obtain ⟨_, s5, _⟩ := hp; exact Same.seq s5 (Same.seq sm hc)) (fun i y Hq H5 hi hp hy => ?_) (fun H5 hp => ?_)
      · obtain ⟨ws, s5, e5, d5⟩ := hp
        obtain ⟨rfl, ey⟩ := hy
        obtain ⟨z, ez, rfl⟩ := strs_at ey
        refine ⟨rfl, lcYes ?_⟩
        refine ⟨_, rfl, _, rfl, b, _, rfl, .inl (Same.seq s5 (Same.seq sm hb)), rfl, flat_strs lots, _, rfl, ?_⟩
        rw [if_neg (by decide), inV_str]
        have go : ∀ u : Str, u = (if decide (z ∈ lots) = true then ("lots" : Str) else ("left" : Str)) → ∀ t3, H5 t3 = none → ∃ acc, (L2.upd H5 t3 (.tup [V.str u, .str z])) D2 = some (.lst acc) ∧ acc.length < sizeLine ∧ ∃ ws, Same H' (L2.upd (L2.upd H5 t3 (.tup [V.str u, .str z])) D2 (.lst (acc ++ [.ref t3]))) ∧ (L2.upd (L2.upd H5 t3 (.tup [V.str u, .str z])) D2 (.lst (acc ++ [.ref t3]))) D2 = some (.lst ws) ∧ DpAll K (L2.del (L2.upd (L2.upd H5 t3 (.tup [V.str u, .str z])) D2 (.lst (acc ++ [.ref t3]))) D2) ws (wayL lots (ways.take (i + 1))) := by
          intro u hu t3 ht3
          have st := same_upd (o := .tup [V.str u, .str z]) ht3
          have tD : t3 ≠ D2 := fun z => by rw [z, e5] at ht3; cases ht3
          have lw := dpAll_len d5
          unfold wayL at lw
          rw [List.length_map, List.length_take] at lw
          refine ⟨ws, st _ _ e5, bigL (by omega), ws ++ [.ref t3], ?_, upd_same, ?_⟩
          · exact fun b o e => by
              rw [upd_ne (nD2 e)]
              exact st _ _ (s5 b o e)
          · rw [del_upd]
            unfold wayL
            rw [List.take_succ, ez, List.map_append]
            refine dpAll_app (dpAll_same (SameX.del (Same.x st)) _ _ d5) (.cons ?_ .nil)
            unfold wayD
            rw [← hu]
            exact .tup (SqT.of (by rw [del_ne tD, upd_same])) (.cons (.str _) (.cons (.str _) .nil))
        refine ite2 (fun h => ?_) (fun h => ?_)
        · refine ⟨_, rfl, (by show 2 ≤ sizeLine; decide), fun t3 ht3 => ?_⟩
          exact go "lots" (by rw [if_pos h]) t3 ht3
        · refine ⟨_, rfl, (by show 2 ≤ sizeLine; decide), fun t3 ht3 => ?_⟩
          exact go "left" (by rw [if_neg h]) t3 ht3
      · obtain ⟨ws, s5, e5, d5⟩ := hp
        rw [List.length_map, List.take_length] at d5
        have lus := dpAll_len hus
        have lws := dpAll_len d5
        have lw2 : (wayL lots ways).length = ways.length := List.length_map ..
        refine ⟨_, rfl, _, rfl, D, D2, us, ws, rfl, rfl, s5 _ _ hDl, e5, Nat.le_of_lt (bigL (by omega)), fun p3 hp3 => ?_⟩
        have s6 := same_upd (o := .lst (us ++ ws)) hp3
        have dall : DpAll K (L2.upd H5 p3 (.lst (us ++ ws))) (us ++ ws) (aboveL row ++ wayL lots ways) := dpAll_app (dpAll_same (Same.trans s5 s6) _ _ hus') (dpAll_same s6 _ _ (dpAll_same del_sub _ _ d5))
        have e6 : (L2.upd H5 p3 (.lst (us ++ ws))) p3 = some (.lst (us ++ ws)) := upd_same
        have s06 := Same.trans sm (Same.trans s5 s6)
        have allF : ∀ d ∈ aboveL row ++ wayL lots ways, FactD d := fun d hd => by
          rcases List.mem_append.mp hd with hd | hd
          · exact abl_fact d hd
          · obtain ⟨f, _, rfl⟩ := List.mem_map.mp hd
            exact .way _ f
        generalize (L2.upd H5 p3 (.lst (us ++ ws))) = H6 at dall e6 s06 ⊢
        refine ⟨p3, us ++ ws, _, rfl, SqL.of e6, dall, fun d hd d' hd' => fact_alike (allF d hd) (allF d' hd'), .inl fun d hd => fact_tup (allF d hd), fun d hd => fact_dep (allF d hd), fun zs p7 dz hp7 => ?_⟩
        have s7 := same_upd (o := .lst zs) hp7
        refine ⟨p7, zs, rfl, .inl ⟨SqL.of upd_same, fun t ht => ?_⟩⟩
        have s8 := same_upd (o := .tup zs) ht
        exact q t zs _ (Same.trans s06 (Same.trans s7 s8)) (Same.free (Same.trans s06 s7) ht) upd_same (dpAll_same (Same.trans s7 s8) _ _ dz)
end
end Sg

set_option maxRecDepth 100000
/-! two sorted lists of the same texts are the same -/
namespace Srt
open PySem PySem.Spec PyProof.Rows
def le (a b : Str) : Prop := ¬ b.cps.toList < a.cps.toList
theorem le_trans {a b c : Str} (h : le a b) (g : le b c) : le a c := by
  unfold le at *
  rw [List.not_lt] at *
  exact List.le_trans h g
theorem le_anti {a b : Str} (h : le a b) (g : le b a) : a = b := by
  unfold le at *
  rw [List.not_lt] at *
  have := List.le_antisymm h g
  obtain ⟨⟨x⟩⟩ := a
  obtain ⟨⟨y⟩⟩ := b
  simpa using this
theorem rise : ∀ (l : List Str) (p : Str), risingS p l = true → (∀ y ∈ l, le p y) ∧ sortedS l = true
  | [], p, _ => ⟨fun _ h => (by cases h), rfl⟩
  | x :: r, p, h => by
    have h : (!ltCps x.cps.toList p.cps.toList && risingS x r) = true := h
    rw [Bool.and_eq_true] at h
    have h1 : le p x := by
      have := h.1
      rw [ltCps_eq] at this
      unfold le
      simpa using this
    obtain ⟨g1, _⟩ := rise r x h.2
    refine ⟨fun y hy => ?_, h.2⟩
    rcases List.mem_cons.mp hy with rfl | hy
    · exact h1
    · exact le_trans h1 (g1 y hy)
theorem uniq : ∀ (ys zs : List Str), ys.Perm zs → sortedS ys = true → sortedS zs = true → ys = zs
  | [], zs, h, _, _ => (List.Perm.nil_eq h)
  | y :: ys, [], h, _, _ => absurd h.length_eq (by simp)
  | y :: ys, z :: zs, h, h1, h2 => by
    obtain ⟨a1, a2⟩ := rise ys y h1
    obtain ⟨b1, b2⟩ := rise zs z h2
    have e : y = z := by
      have m1 : y ∈ z :: zs := h.subset List.mem_cons_self
      have m2 : z ∈ y :: ys := h.symm.subset List.mem_cons_self
      rcases List.mem_cons.mp m1 with e | m1
      · exact e
      · rcases List.mem_cons.mp m2 with e | m2
        · exact e.symm
        · exact le_anti (a1 z m2) (b1 y m1)
    subst e
    rw [uniq ys zs (List.perm_cons y |>.mp h) a2 b2]
end Srt

set_option maxRecDepth 100000
set_option maxHeartbeats 8000000
namespace Sg
open PySem PySem.Spec PyProof.Rows L2 Dr Gd Er Cm Ow XT TM Tw
section
variable {X : Cx} {CX : CXT} {n : Nat} {C f : Addr} {fd : FuncData} {ps : List Str} {sp : Sp} {E : XK}
/-- len(o), o of a class with an own __len__ -/
theorem call_lenOwn (F : FnOk X.prog X.w X.K X.mg X.base CX n f fd ["self"] sp) (hr : Room (n + 1) X.A) (hs : PySem.W.findIn X.K (.ref C) "__len__" = some (some (.ref f))) (hf : PySem.W.isFn X.K (.ref f) = true) (hb : Binds X.K fd ["self"] []) (hx : Passes CX X E) :
    CallR X (.builtin "len") (fun vs H Q => ∃ a dx fs, vs = [.ref a] ∧ H a = some (.ins C dx fs) ∧ sp [.ref a] H (fun v H' => ∃ k : Nat, v = .int (k : Nat) ∧ k < 1000 ∧ Q (.int (k : Nat)) H') E) := by
  intro pins s σ H xs us Q I r h
  obtain ⟨a, dx, fs, rfl, ha, h⟩ := h
  rw [Vals.ref1 r]
  obtain ⟨mA, J, _⟩ := ins_get I.hok ha
  obtain ⟨od, J, _⟩ := J.look
  obtain ⟨m, hF⟩ := I.fr
  have sb : Sub X n X.A.in1 := Sub.in1 ⟨hr, rfl⟩
  refine PySem.W.len_K hF I.ok.mod.kin J hs hf ?_
  have e0 : Env0 X.prog X.w X.K X.mg X.base X.A.in1 X.stack s H := by
    have e := I.env0
    exact ⟨by rw [sb.fr]; exact e.frames, e.mod, e.bs, e.bsz, e.funs, e.frf, e.hok, e.bare⟩
  have b := hb s [.ref a] I.kIn (by rfl)
  rw [List.append_nil] at b
  refine wpAny_call (codeAny_mono (F.run X.A.in1 X.stack s H ⟨[.ref a], []⟩ [.ref a] [.ref a] _ E sb.room e0 b (.cons rfl .nil) h) fun r s' hq => ?_)
  cases r with
  | error e => exact hx pins σ H s e s' I hq
  | ok fl =>
    cases fl with
    | ret w =>
      obtain ⟨z, H', I', rz, k, ez, hk, q⟩ := I.after hq
      subst ez
      obtain ⟨t, rfl⟩ := rz
      exact ⟨⟨by omega, by omega⟩, ⟨.int (k : Nat), H', I'.tok _, ⟨_, rfl⟩, q⟩⟩
    | next => exact False.elim hq
    | brk => exact False.elim hq
    | cont => exact False.elim hq
end
def Fine (ps : List (Str × Int)) : Prop := 1 ≤ ps.length ∧ ps.length ≤ 5 ∧ (ps.map (·.1)).Nodup ∧ ∀ p ∈ ps, wordIn Lc p.1 = true ∧ 0 ≤ p.2 ∧ p.2 ≤ 3
theorem fine_ok {ps : List (Str × Int)} (h : Fine ps) : OkNames ps := fun p hp => word_ok (h.2.2.2 p hp).1
theorem sign_pr {z : Str} {n : Int} (h : wordIn Lc z = true) (h0 : 0 ≤ n) (h3 : n ≤ 3) : isSign (.tuple [.str z, .int n]) = true := by
  show (isWord Lc (.str z) && isAr (.int n)) = true
  rw [show isWord Lc (.str z) = true from h]
  show (decide (0 ≤ n) && decide (n ≤ 3)) = true
  simp [h0, h3]
theorem build_ok : ∀ (ps acc : List (Str × Int)) (i : Nat), (∀ p ∈ ps, wordIn Lc p.1 = true ∧ 0 ≤ p.2 ∧ p.2 ≤ 3) → ((acc ++ ps).map (·.1)).Nodup → build (prD ps) acc i = .ok (acc ++ ps)
  | [], acc, i, _, _ => by rw [List.append_nil]; rfl
  | p :: ps, acc, i, h, nd => by
    have hp := h p List.mem_cons_self
    have hn : hasN acc p.1 = false := by
      unfold hasN
      rw [List.any_eq_false]
      intro q hq e
      have e := of_decide_eq_true e
      rw [List.map_append] at nd
      exact (List.nodup_append.mp nd).2.2 q.1 (List.mem_map.mpr ⟨q, hq, rfl⟩) p.1 (by simp) e
    show (if isSign (.tuple [.str p.1, .int p.2]) && !hasN acc (prOf (.tuple [.str p.1, .int p.2])).1 then build (prD ps) (acc ++ [prOf (.tuple [.str p.1, .int p.2])]) (i + 1) else .bad i) = _
    rw [if_pos (by rw [sign_pr hp.1 hp.2.1 hp.2.2]; show (true && !hasN acc p.1) = true; rw [hn]; rfl)]
    have e := build_ok ps (acc ++ [p]) (i + 1) (fun q hq => h q (List.mem_cons_of_mem _ hq)) (by rw [List.append_assoc]; exact nd)
    rw [List.append_assoc] at e
    exact e
theorem made_fine {ps : List (Str × Int)} (h : Fine ps) : madeOf (psD ps) = .ok ps := by
  show madeL (prD ps) = _
  unfold madeL
  have e : (prD ps).length = ps.length := List.length_map ..
  rw [if_pos (by rw [e]; exact ⟨h.1, h.2.1⟩), build_ok ps [] 0 h.2.2.2 (by simpa using h.2.2.1)]
  rfl
theorem word_len {z : Str} (h : wordIn Lc z = true) : z.length ≤ sizeLine := by
  unfold wordIn at h
  rw [Bool.and_eq_true, Bool.and_eq_true] at h
  exact Nat.le_trans (of_decide_eq_true h.2.1) (by decide)
theorem shorts_fine {ps : List (Str × Int)} (h : ∀ p ∈ ps, wordIn Lc p.1 = true) : Shorts (psD ps) := by
  intro e he
  obtain ⟨p, hp, rfl⟩ := List.mem_map.mp he
  exact word_len (h p hp)
structure MkS (P : Program) (w : World) (K : PySem.W.Frag) (mg : Str → Option Value) (base : Heap) (cN cC cB C fi : Addr) (di : FuncData) : Prop where
  mm : Mk K C fi
  ok : FnOk P w K mg base (L2.CX P w) 3 fi di ["self", "pairs"] (spInit K cN cC cB C)
  b : Binds K di ["self", "pairs"] []
  g : mg "Signs" = some (.ref C)
theorem same_ins {H H' : Hp} {x dx C : Addr} (hx : H x = none) (hdx : H dx = none) (s : SameX x (L2.upd (L2.upd H dx (.own x)) x (.ins C dx [])) H') : Same H H' := fun b o e => by
  have n := ne_of_none e hx
  exact s b o (by rw [upd_ne n, upd_ne (ne_of_none e hdx)]; exact e) n
/-- the class as the law asks it -/
structure SgM (P : Program) (w : World) (K : PySem.W.Frag) (mg : Str → Option Value) (base : Heap) (C fl pn gn pw gw fe fh : Addr) (dl dn dw de dh : FuncData) : Prop where
  x : SClx K C
  la : PySem.W.findIn K (.ref C) "__len__" = some (some (.ref fl))
  lf : PySem.W.isFn K (.ref fl) = true
  lo : FnOk P w K mg base CX0 1 fl dl ["self"] (spLen C)
  lb : Binds K dl ["self"] []
  np : PropOf K C "names" pn gn
  no : FnOk P w K mg base CX0 1 gn dn ["self"] (spNames C)
  nb : Binds K dn ["self"] []
  wp : PropOf K C "ways" pw gw
  wo : FnOk P w K mg base CX0 1 gw dw ["self"] (spWays C)
  wb : Binds K dw ["self"] []
  ea : PySem.W.findIn K (.ref C) "__eq__" = some (some (.ref fe))
  ef : PySem.W.isFn K (.ref fe) = true
  eo : FnOk P w K mg base CX0 1 fe de ["self", "other"] (spEq K C)
  eb : Binds K de ["self", "other"] []
  ne : PySem.W.findIn K (.ref C) "__ne__" = some (some (.builtin "object.__ne__"))
  ha : PySem.W.findIn K (.ref C) "__contains__" = some (some (.ref fh))
  hf : PySem.W.isFn K (.ref fh) = true
  ho : FnOk P w K mg base CX0 1 fh dh ["self", "name"] (spHas K C)
  hb : Binds K dh ["self", "name"] []
  nC : PySem.W.notFirst K C (.ref C) = true
  nL : PySem.W.notFirst K C (.type "list") = true
/-- a def of the law that asks for repr -/
structure CalG (P : Program) (w : World) (K : PySem.W.Frag) (mg : Str → Option Value) (base : Heap) (CX : CXT) (k : Nat) (x : Str) (f : Addr) (fd : FuncData) (ps : List Str) (sp : Sp) : Prop where
  ok : FnG P w K mg base CX k f fd ps sp
  g : mg x = some (.ref f)
  kp : PySem.W.keepIn K (.ref f) = true
  b : Binds K fd ps []
theorem same_viaX {p : Addr} {H H1 H2 : Hp} (s : Same H H1) (hp : H p = none) (sx : SameX p H1 H2) : Same H H2 := fun b o e => sx b o (s b o e) (ne_of_none e hp)
end Sg

set_option maxRecDepth 100000
set_option maxHeartbeats 8000000
namespace Sg
open PySem PySem.Spec PyProof.Rows L2 Dr Gd Er Cm Ow XT TM Tw SD
abbrev cOrder : Stmt := top 35
abbrev sOInit : Stmt := inClass cOrder 0
theorem nodup_le : ∀ {l m : List Str}, l.Nodup → (∀ x ∈ l, x ∈ m) → l.length ≤ m.length
  | [], m, _, _ => Nat.zero_le _
  | x :: l, m, nd, h => by
    rw [List.nodup_cons] at nd
    have hx := h x List.mem_cons_self
    have ih := nodup_le (l := l) (m := m.erase x) nd.2 fun y hy => (List.mem_erase_of_ne (fun e => nd.1 (by rw [← e]; exact hy))).mpr (h y (List.mem_cons_of_mem _ hy))
    rw [List.length_erase_of_mem hx] at ih
    have : 0 < m.length := List.length_pos_of_mem hx
    rw [List.length_cons]
    omega
theorem chL_congr {N M : List Str} (h : ∀ z, z ∈ N ↔ z ∈ M) : ∀ (ds : List PyData) (acc : List Str), chL N acc ds = chL M acc ds
  | [], acc => by simp [chL]
  | .str z :: ds, acc => by
    rw [chL, chL, decide_eq_decide.mpr (h z), chL_congr h ds]
  | .none :: ds, acc => by simp [chL]
  | .bool _ :: ds, acc => by simp [chL]
  | .int _ :: ds, acc => by simp [chL]
  | .list _ :: ds, acc => by simp [chL]
  | .tuple _ :: ds, acc => by simp [chL]
  | .dict _ :: ds, acc => by simp [chL]
theorem chO_congr {N M : List Str} (h : ∀ z, z ∈ N ↔ z ∈ M) (d : PyData) : chO N d = chO M d := by
  cases d with
  | list ds => exact chL_congr h ds []
  | _ => rfl
def nmsOf (ps : List (Str × Int)) : List Str := ps.map (·.1)
def lenD : PyData → Nat
  | .list ds => ds.length
  | _ => 0
def rowOf (ps : List (Str × Int)) (d : PyData) : Option (List Str) := match chO (nmsOf ps) d with
  | some row => if row.length = ps.length then some row else none
  | none => none
def lotsOf (ps : List (Str × Int)) (d : PyData) : Option (List Str) := chO (waysOf ps) d
/-- an order of signs, made -/
def OrAt (K : PySem.W.Frag) (C CO : Addr) (H : Hp) (o x : Addr) (ps : List (Str × Int)) (row lots : List Str) : Prop := ∃ dx ln ll tf fs ways, H o = some (.ins CO dx [("signs", .ref x), ("_names", .ref ln), ("_lots", .ref ll), ("_facts", .ref tf)]) ∧ SgAt C H x ps ∧
  H ln = some (.lst (row.map V.str)) ∧ H ll = some (.lst (lots.map V.str)) ∧ H tf = some (.tup fs) ∧ DpAll K H fs (factsD row lots ways) ∧ ways.Perm (waysOf ps) ∧ sortedS ways = true
/-- H' without what are lists in H -/
def nl (H H' : Hp) : Hp := fun b => match H b with
  | some (.lst _) => none
  | _ => H' b
theorem nl_of {H H' : Hp} {b : Addr} {o : HO} (h : H' b = some o) (hn : ∀ xs, H b ≠ some (.lst xs)) : nl H H' b = some o := by
  unfold nl
  split
  · rename_i xs e
    exact absurd e (hn xs)
  · exact h
theorem nl_inv {H H' : Hp} {b : Addr} {o : HO} (h : nl H H' b = some o) : H' b = some o ∧ ∀ xs, H b ≠ some (.lst xs) := by
  unfold nl at h
  split at h
  · cases h
  · rename_i hn
    exact ⟨h, fun xs e => hn xs e⟩
theorem nl_sub {H H' : Hp} : Same (nl H H') H' := fun b o h => (nl_inv h).1
theorem nl_upd {H H' : Hp} {p : Addr} {xs : List V} {o : HO} (h : H p = some (.lst xs)) : Same (nl H H') (L2.upd H' p o) := fun b u e => by
  have hb : b ≠ p := fun z => (nl_inv e).2 xs (z ▸ h)
  rw [upd_ne hb]
  exact (nl_inv e).1
theorem nl_mono {H H1 H2 : Hp} (s : Same H1 H2) : Same (nl H H1) (nl H H2) := fun b o e => nl_of (s _ _ (nl_inv e).1) (nl_inv e).2
theorem nl_pre {H1 H2 H' : Hp} (h : ∀ b xs, H2 b = some (.lst xs) → H1 b = some (.lst xs)) : Same (nl H1 H') (nl H2 H') := fun b o e => nl_of (nl_inv e).1 fun xs z => (nl_inv e).2 xs (h b xs z)
theorem nl_new {o : Addr} {H H1 H' : Hp} {b : Addr} {u : HO} (s : SameX o H H1) (hb : b ≠ o) (hn : H1 b = none) (h : H' b = some u) : nl H H' b = some u := nl_of h fun xs z => by
  have := s _ _ z hb
  rw [hn] at this
  cases this
theorem nl_str {K : PySem.W.Frag} {H H' : Hp} : ∀ {vs : List V} {zs : List Str}, DpAll K H' vs (zs.map .str) → DpAll K (nl H H') vs (zs.map .str)
  | vs, [], h => by cases h; exact .nil
  | vs, z :: zs, h => by
    cases h with
    | cons a b =>
      cases a
      exact .cons (.str z) (nl_str b)
theorem nl_tup {K : PySem.W.Frag} {o : Addr} {H H' : Hp} {v : V} {zs : List Str} (s : SameX o H H') {dx : Addr} {cl : Addr} {fs : List (Str × V)} (ho : H' o = some (.ins cl dx fs)) (h : Dp K H' v (.tuple (zs.map .str))) : Dp K (nl H H') v (.tuple (zs.map .str)) := by
  cases h with
  | tup g1 g2 =>
    rename_i a xs
    refine .tup ?_ (nl_str g2)
    rcases g1 with (e | ⟨u, e⟩) | k
    · refine .inl (.inl (nl_of e fun ys z => ?_))
      by_cases hb : a = o
      · rw [hb, ho] at e; cases e
      · rw [s _ _ z hb] at e; cases e
    · refine .inl (.inr ⟨u, nl_of e fun ys z => ?_⟩)
      by_cases hb : a = o
      · rw [hb, ho] at e; cases e
      · rw [s _ _ z hb] at e; cases e
    · exact .inr k
theorem nl_facts {K : PySem.W.Frag} {o : Addr} {H H' : Hp} (s : SameX o H H') {dx : Addr} {cl : Addr} {fs : List (Str × V)} (ho : H' o = some (.ins cl dx fs)) : ∀ {vs : List V} {ds : List PyData}, DpAll K H' vs ds → (∀ d ∈ ds, FactD d) → DpAll K (nl H H') vs ds
  | _, _, .nil, _ => .nil
  | _, _, .cons a b, h => by
    refine .cons ?_ (nl_facts s ho b fun d hd => h d (List.mem_cons_of_mem _ hd))
    cases h _ List.mem_cons_self with
    | ab f g => exact nl_tup (zs := ["above", f, g]) s ho a
    | way w f => exact nl_tup (zs := [w, f]) s ho a
theorem factsD_fact {row lots ways : List Str} : ∀ d ∈ factsD row lots ways, FactD d := fun d hd => by
  unfold factsD at hd
  rw [List.mem_mergeSort] at hd
  rcases List.mem_append.mp hd with h | h
  · exact abl_fact d h
  · obtain ⟨f, _, rfl⟩ := List.mem_map.mp h
    exact .way _ f
def OEnd (K : PySem.W.Frag) (cA cL C CO : Addr) (H : Hp) (o x : Addr) (ps : List (Str × Int)) (dn dl : PyData) (Q : VK) (E : XK) : Prop := match rowOf ps dn with
  | none => ∀ H', SameX o H H' → E (.ref cA) none H'
  | some row => match lotsOf ps dl with
    | none => ∀ H', SameX o H H' → E (.ref cL) none H'
    | some lots => ∀ H' ls, SameX o H H' → ls.Perm lots → sortedS ls = true → OrAt K C CO (nl H H') o x ps row ls → Q .non H'
/-- what may be handed in as names, as lots -/
structure Hand (d : PyData) : Prop where
  sh : SeqAt.shaped d = true
  ln : ∀ ds, d = .list ds → ds.length ≤ 1000
structure SgOk (ps : List (Str × Int)) : Prop where
  l5 : ps.length ≤ 5
  nd : (ps.map (·.1)).Nodup
  ok : OkNames ps
def spOInit (K : PySem.W.Frag) (cA cL C CO : Addr) : Sp := fun vs H Q E => ∃ o x vn dn vl dl dx ps, vs = [.ref o, .ref x, vn, vl] ∧ H o = some (.ins CO dx []) ∧ SgAt C H x ps ∧ SgOk ps ∧ Dp K H vn dn ∧ Dp K H vl dl ∧ Hand dn ∧ Hand dl ∧ OEnd K cA cL C CO H o x ps dn dl Q E
structure OCl (K : PySem.W.Frag) (CO : Addr) : Prop where
  cl : Cls K CO
  n1 : NoAttr K CO "signs"
  n2 : NoAttr K CO "_names"
  n3 : NoAttr K CO "_lots"
  n4 : NoAttr K CO "_facts"
structure KeO (P : Program) (K : PySem.W.Frag) (mg : Str → Option Value) (cA cL eA eL : Addr) : Prop where
  hA : ErrC P K "BadNames" none cA eA
  hL : ErrC P K "BadLots" none cL eL
  gA : mg "BadNames" = some (.ref cA)
  gL : mg "BadLots" = some (.ref cL)
  rA : PySem.W.subIn K (.ref cA) (.type "BaseException") = some true ∧ PySem.W.typeIn K (.ref cA) = some (.type "type")
  rL : PySem.W.subIn K (.ref cL) (.type "BaseException") = some true ∧ PySem.W.typeIn K (.ref cL) = some (.type "type")
  sup : mg "super" = none
section
variable {P : Program} {w : World} {K : PySem.W.Frag} {mg : Str → Option Value} {base : Heap} {cA cL eA eL C CO fC fF : Addr} {dC dF : FuncData} {fl pn gn pw gw fe fh : Addr} {dl dn dw de dh : FuncData}
theorem scOI : FnScope ["self", "signs", "names", "lots"] ["self", "signs", "names", "lots"] (defScope sOInit) := ⟨rfl, rfl, rfl, by decide +kernel, rfl, by decide +kernel, by decide +kernel⟩
theorem ok_oinit {f : Addr} {fd : FuncData} (F : Fun K "__init__" "Order.__init__" sOInit f fd) (T : KTxt mg) (Z : KeO P K mg cA cL eA eL) (S : OCl K CO) (M : SgM P w K mg base C fl pn gn pw gw fe fh dl dn dw de dh) (GC : Cal P w K mg base CX0 1 "is_choice" fC dC ["value", "names"] (spChoice K))
    (GF : Cal P w K mg base CX0 1 "_facts_of" fF dF ["names", "lots", "ways"] (spFactsOf K)) (hls : mg "list" = none) (srt : mg "sorted" = none) : FnOk P w K mg base (L2.CX P w) 3 f fd ["self", "signs", "names", "lots"] (spOInit K cA cL C CO) := by
  refine F.okX scOI (fun vs H Q E h => ?_) (fun cdv A outer s H vs Q E hr h => ?_)
  · obtain ⟨o, x, vn, dn, vl, dl, dx, ps, rfl, _⟩ := h
    rfl
  · obtain ⟨o, x, vn, dn, vl, dl, dx, ps, rfl, ho, hS, hok, hvn, hvl, hn, hl, q⟩ := h
    have r1 : Room 1 (A.deeper (envOfC "Order.__init__" (defScope sOInit) s.heap.objs.size f cdv)) := hr.mono (by decide)
    refine ⟨_, pss_cons (ps_if (PW.pt (pw_or (pt_not (pt_val (pe_call GC.ok r1 rfl GC.g GC.kp GC.b .nil pass0 (pa_cons (pv 2) (pa_cons (pe_prop (pv 1) M.x.cl M.np M.no hr M.nb .nil pass0 rfl) pa_nil)))))
          (pw_or1 (pt_cmpR op_ne (pe_callB call_len_seq (by rfl) T.len PySem.boot_len (pa_cons (pv 2) pa_nil)) (pe_callB (call_lenOwn M.lo hr M.la M.lf M.lb pass0) (by rfl) T.len PySem.boot_len (pa_cons (pv 1) pa_nil)) (nomark _)))))
        (pss_one (ps_raise rfl (takes_of rfl rfl rfl rfl) (pmk_err0 Z.hA Z.sup hr (raises_own Z.rA.1 Z.rA.2) Z.gA))) pss_nil)
      (pss_cons (ps_if (pt_not (pt_val (pe_call GC.ok r1 rfl GC.g GC.kp GC.b .nil pass0 (pa_cons (pv 3) (pa_cons (pe_prop (pv 1) M.x.cl M.wp M.wo hr M.wb .nil pass0 rfl) pa_nil)))))
        (pss_one (ps_raise rfl (takes_of rfl rfl rfl rfl) (pmk_err0 Z.hL Z.sup hr (raises_own Z.rL.1 Z.rL.2) Z.gL))) pss_nil)
      (pss_cons (ps_fld (pv 0) (pv 1) rfl)
      (pss_cons (ps_fld (pv 0) (pe_callTy call_list_of (by rfl) hls (by decide +kernel) (pa_cons (pv 2) pa_nil)) rfl)
      (pss_cons (ps_fld (pv 0) (pe_callB cr_sortedS (by rfl) srt (by decide +kernel) (pa_cons (pv 3) pa_nil)) rfl)
      (pss_one (ps_fld (pv 0) (pe_call GF.ok r1 rfl GF.g GF.kp GF.b .nil pass0 (pa_cons (pe_fld (pv 0) rfl) (pa_cons (pe_fld (pv 0) rfl) (pa_cons (pe_prop (pv 1) M.x.cl M.wp M.wo hr M.wb .nil pass0 rfl) pa_nil)))) rfl)))))), ?_⟩
    obtain ⟨dx0, dS, hS1, hS2⟩ := id hS
    have xo : x ≠ o := fun z => by
      rw [z, ho] at hS1
      have e := Option.some.inj hS1
      injection e with _ _ e
      cases e
    have dSo : dS ≠ o := ne_of hS2 ho (by intro z; cases z)
    have keepS : ∀ {H' : Hp}, SameX o H H' → SgAt C H' x ps := fun sx => ⟨dx0, dS, sx _ _ hS1 xo, sx _ _ hS2 dSo⟩
    have strN : ∀ z ∈ nmsOf ps, PyData.strOk z = true := fun z hz => by
      obtain ⟨p, hp, rfl⟩ := List.mem_map.mp hz
      exact hok.ok p hp
    refine ⟨_, rfl, _, rfl, x, dx0, _, rfl, hS1, x, ps, rfl, hS, fun p1 hp1 => ?_⟩
    have s1 := same_upd (o := .lst (ps.map fun q => V.str q.1)) hp1
    have e1 : (L2.upd H p1 (.lst (ps.map fun q => V.str q.1))) p1 = some (.lst (ps.map fun q => V.str q.1)) := upd_same
    generalize (L2.upd H p1 (.lst (ps.map fun q => V.str q.1))) = H1 at s1 e1 ⊢
    have dN : Dp K H1 (.ref p1) (.list ((nmsOf ps).map PyData.str)) := .lst (SqL.of e1) (by
      have go : ∀ qs : List (Str × Int), DpAll K H1 (qs.map fun q => V.str q.1) ((nmsOf qs).map PyData.str) := fun qs => by
        induction qs with
        | nil => exact .nil
        | cons a b ih => exact .cons (.str _) ih
      exact go ps)
    refine ⟨vn, dn, .ref p1, nmsOf ps, rfl, dp_same s1 _ _ hvn, dN, hn.sh, strN, hn.ln, fun H2 s2 => ⟨_, rfl, ?_⟩⟩
    have s02 := Same.trans s1 s2
    have raiseA : rowOf ps dn = none → ∀ {H' : Hp}, Same H H' → E (.ref cA) none H' := fun e H' sm => by
      unfold OEnd at q
      rw [e] at q
      exact q H' (Same.x sm)
    cases hch : chO (nmsOf ps) dn with
    | none =>
      refine iteT (raiseA ?_ s02)
      unfold rowOf
      rw [hch]
    | some row =>
      refine iteF ?_
      obtain ⟨ds, rfl, hcl⟩ : ∃ ds, dn = .list ds ∧ chL (nmsOf ps) [] ds = some row := by
        cases dn with
        | list ds => exact ⟨ds, rfl, hch⟩
        | _ => cases hch
      obtain ⟨rnd, rmem, zs, rfl, hrow⟩ := chL_mem hcl List.nodup_nil (by intro z hz; cases hz)
      rw [List.nil_append] at hrow
      subst hrow
      cases hvn with
      | lst g1 g2 =>
        rename_i an us
        obtain rfl := nm_vs g2
        refine ⟨_, rfl, an, _, rfl, .inl (Same.seq s02 g1), _, rfl, x, dx0, _, rfl, s02 _ _ hS1, x, ps, rfl, hS.same s02, ps.length, rfl, by have := hok.l5; omega, ?_⟩
        refine ⟨rfl, _, rfl, ?_⟩
        refine ite2 (fun c => ?_) (fun c => ?_)
        · refine raiseA ?_ s02
          unfold rowOf
          rw [hch]
          show (if row.length = ps.length then _ else _) = _
          rw [if_neg]
          intro e
          rw [List.length_map, e] at c
          simp at c
        · have hlen : row.length = ps.length := by
            rw [List.length_map] at c
            by_cases e : row.length = ps.length
            · exact e
            · refine absurd ?_ c
              rw [decide_eq_false (fun z => by injection z with z; exact e (by omega))]
              rfl
          have hrowOf : rowOf ps (.list (row.map PyData.str)) = some row := by
            unfold rowOf
            rw [hch]
            show (if row.length = ps.length then _ else _) = _
            rw [if_pos hlen]
          have q1 : (match lotsOf ps dl with
              | none => ∀ H', SameX o H H' → E (.ref cL) none H'
              | some lots => ∀ H' ls, SameX o H H' → ls.Perm lots → sortedS ls = true → OrAt K C CO (nl H H') o x ps row ls → Q .non H') := by
            have q := q
            unfold OEnd at q
            rw [hrowOf] at q
            exact q
          refine ⟨_, rfl, _, rfl, x, dx0, _, rfl, s02 _ _ hS1, x, ps, rfl, hS.same s02, hok.l5, hok.nd, fun H3 ys p3 s3 hp3 hperm hsort e3 => ?_⟩
          have s03 := Same.trans s02 s3
          have ysOk : ∀ z ∈ ys, PyData.strOk z = true := fun z hz => by
            have := hperm.mem_iff.mp hz
            obtain ⟨p, hp, rfl⟩ := List.mem_map.mp this
            exact hok.ok p (List.mem_filter.mp hp).1
          have dpS : ∀ (H' : Hp) (qs : List Str), DpAll K H' (qs.map V.str) (qs.map PyData.str) := fun H' qs => by
            induction qs with
            | nil => exact .nil
            | cons a b ih => exact .cons (.str _) ih
          refine ⟨vl, dl, .ref p3, ys, rfl, dp_same s03 _ _ hvl, .lst (SqL.of e3) (dpS _ _), hl.sh, ysOk, hl.ln, fun H4 s4 => ⟨_, rfl, ?_⟩⟩
          have s04 := Same.trans s03 s4
          rw [chO_congr (N := ys) (M := waysOf ps) (fun z => hperm.mem_iff) dl]
          cases hlo : lotsOf ps dl with
          | none =>
            rw [hlo] at q1
            rw [show chO (waysOf ps) dl = none from hlo]
            exact iteT (q1 H4 (Same.x s04))
          | some lots =>
            rw [hlo] at q1
            rw [show chO (waysOf ps) dl = some lots from hlo]
            refine iteF ?_
            obtain ⟨ds, rfl, hcl2⟩ : ∃ ds, dl = .list ds ∧ chL (waysOf ps) [] ds = some lots := by
              cases dl with
              | list ds => exact ⟨ds, rfl, hlo⟩
              | _ => cases hlo
            obtain ⟨lnd, lmem, zs, rfl, hlots⟩ := chL_mem hcl2 List.nodup_nil (by intro z hz; cases hz)
            rw [List.nil_append] at hlots
            subst hlots
            have llen : lots.length ≤ 5 := by
              have h1 := nodup_le lnd lmem
              have h2 := ways_len ps
              have := hok.l5
              omega
            cases hvl with
            | lst k1 k2 =>
              rename_i al ul
              obtain rfl := nm_vs k2
              have ho4 := s04 _ _ ho
              refine ⟨_, rfl, _, rfl, o, CO, dx, [], rfl, ho4, S.cl, S.n1, by decide, ?_⟩
              have sx5 : SameX o H (L2.upd H4 o (.ins CO dx (putF "signs" (.ref x) []))) := (Same.x s04).upd
              have e5 : (L2.upd H4 o (.ins CO dx (putF "signs" (.ref x) []))) o = some (.ins CO dx [("signs", .ref x)]) := upd_same
              generalize (L2.upd H4 o (.ins CO dx (putF "signs" (.ref x) []))) = H5 at sx5 e5 ⊢
              refine ⟨_, rfl, an, _, rfl, .inl ((sx5.seqK ho).l _ _ g1), fun ln hln => ?_⟩
              have lno : ln ≠ o := fun z => by rw [z, e5] at hln; cases hln
              have s6 := same_upd (o := .lst (row.map V.str)) hln
              have sx6 := sx5.trans (Same.x s6)
              have e6 := s6 _ _ e5
              have eln : (L2.upd H5 ln (.lst (row.map V.str))) ln = some (.lst (row.map V.str)) := upd_same
              generalize (L2.upd H5 ln (.lst (row.map V.str))) = H6 at sx6 e6 eln ⊢
              refine ⟨_, rfl, o, CO, dx, _, rfl, e6, S.cl, S.n2, (by show 1 < 1000; decide), ?_⟩
              have sx7 := sx6.upd (o := .ins CO dx (putF "_names" (.ref ln) [("signs", .ref x)]))
              have e7 : (L2.upd H6 o (.ins CO dx (putF "_names" (.ref ln) [("signs", .ref x)]))) o = some (.ins CO dx [("signs", .ref x), ("_names", .ref ln)]) := upd_same
              have eln7 : (L2.upd H6 o (.ins CO dx (putF "_names" (.ref ln) [("signs", .ref x)]))) ln = some (.lst (row.map V.str)) := by rw [upd_ne lno]; exact eln
              generalize (L2.upd H6 o (.ins CO dx (putF "_names" (.ref ln) [("signs", .ref x)]))) = H7 at sx7 e7 eln7 ⊢
              refine ⟨_, rfl, al, lots, rfl, (sx7.seqK ho).l _ _ k1, by omega, fun ls ll hls hss hll => ?_⟩
              have llo : ll ≠ o := fun z => by rw [z, e7] at hll; cases hll
              have s8 := same_upd (o := .lst (ls.map V.str)) hll
              have sx8 := sx7.trans (Same.x s8)
              have e8 := s8 _ _ e7
              have eln8 := s8 _ _ eln7
              have ell : (L2.upd H7 ll (.lst (ls.map V.str))) ll = some (.lst (ls.map V.str)) := upd_same
              generalize (L2.upd H7 ll (.lst (ls.map V.str))) = H8 at sx8 e8 eln8 ell ⊢
              refine ⟨_, rfl, o, CO, dx, _, rfl, e8, S.cl, S.n3, (by show 2 < 1000; decide), ?_⟩
              have sx9 := sx8.upd (o := .ins CO dx (putF "_lots" (.ref ll) [("signs", .ref x), ("_names", .ref ln)]))
              have e9 : (L2.upd H8 o (.ins CO dx (putF "_lots" (.ref ll) [("signs", .ref x), ("_names", .ref ln)]))) o = some (.ins CO dx [("signs", .ref x), ("_names", .ref ln), ("_lots", .ref ll)]) := upd_same
              have eln9 : (L2.upd H8 o (.ins CO dx (putF "_lots" (.ref ll) [("signs", .ref x), ("_names", .ref ln)]))) ln = some (.lst (row.map V.str)) := by rw [upd_ne lno]; exact eln8
              have ell9 : (L2.upd H8 o (.ins CO dx (putF "_lots" (.ref ll) [("signs", .ref x), ("_names", .ref ln)]))) ll = some (.lst (ls.map V.str)) := by rw [upd_ne llo]; exact ell
              generalize (L2.upd H8 o (.ins CO dx (putF "_lots" (.ref ll) [("signs", .ref x), ("_names", .ref ln)]))) = H9 at sx9 e9 eln9 ell9 ⊢
              refine ⟨_, rfl, o, CO, dx, _, .ref ln, rfl, e9, S.cl, S.n2, rfl, _, rfl, o, CO, dx, _, .ref ll, rfl, e9, S.cl, S.n3, rfl, _, rfl, x, dx0, _, rfl, sx9 _ _ hS1 xo, x, ps, rfl, keepS sx9, hok.l5, hok.nd, fun H10 ws p10 s10 hp10 hperm2 hsort2 e10 => ?_⟩
              have wlen : ws.length ≤ 5 := by
                have h1 := hperm2.length_eq
                have h2 := ways_len ps
                have := hok.l5
                omega
              refine ⟨ln, ll, p10, row, ls, ws, rfl, SqL.of (s10 _ _ eln9), SqL.of (s10 _ _ ell9), SqL.of e10, by have := hok.l5; omega, wlen, fun t xs H11 s11 ht et dt => ?_⟩
              have e11 := s11 _ _ (s10 _ _ e9)
              have sx11 := (sx9.trans (Same.x s10)).trans (Same.x s11)
              have to : t ≠ o := fun z => by rw [z, e11] at et; cases et
              refine ⟨_, rfl, o, CO, dx, _, rfl, e11, S.cl, S.n4, (by show 3 < 1000; decide), ?_⟩
              have sx12 := sx11.upd (o := .ins CO dx (putF "_facts" (.ref t) [("signs", .ref x), ("_names", .ref ln), ("_lots", .ref ll)]))
              have eo12 : (L2.upd H11 o (.ins CO dx (putF "_facts" (.ref t) [("signs", .ref x), ("_names", .ref ln), ("_lots", .ref ll)]))) o = some (.ins CO dx (putF "_facts" (.ref t) [("signs", .ref x), ("_names", .ref ln), ("_lots", .ref ll)])) := upd_same
              refine q1 _ ls sx12 hls hss ⟨dx, ln, ll, t, xs, ws, nl_of upd_same (fun ys z => by rw [ho] at z; cases z), ⟨dx0, dS, nl_of (sx12 _ _ hS1 xo) (fun ys z => by rw [hS1] at z; cases z), nl_of (sx12 _ _ hS2 dSo) (fun ys z => by rw [hS2] at z; cases z)⟩, ?_, ?_, ?_, ?_, hperm2, hsort2⟩
              · exact nl_new sx5 lno hln (by rw [upd_ne lno]; exact s11 _ _ (s10 _ _ eln9))
              · exact nl_new sx7 llo hll (by rw [upd_ne llo]; exact s11 _ _ (s10 _ _ ell9))
              · exact nl_new (sx9.trans (Same.x s10)) to ht (by rw [upd_ne to]; exact et)
              · exact nl_facts sx12 eo12 (dpAll_seq (((SameX.refl o H11).upd (o := .ins CO dx (putF "_facts" (.ref t) [("signs", .ref x), ("_names", .ref ln), ("_lots", .ref ll)]))).seqK e11) _ _ dt) factsD_fact
end
end Sg

set_option maxRecDepth 100000
set_option maxHeartbeats 4000000
/-! o(..), o of a class with an own __call__ that may raise; what is never reached. -/
namespace CO
open PySem PySem.Spec PyProof.Rows L2
section
variable {X : Cx} {CX : CXT} {k : Nat} {g C : Addr} {fd : FuncData} {ps : List Str} {sp : Sp} {E : L2.St → XK} {pos : Pos} {e fe : Expr} {es : List Expr} {tf : TE} {t : TA}
def tCallOW (C : Addr) (sp : Sp) (E : L2.St → XK) (tf : TE) (t : TA) : TE := fun σ H Q => tf σ H fun y H1 => ∃ a, y = V.ref a ∧ t σ H1 fun vs H2 => (∃ dx fs, H2 a = some (.ins C dx fs)) ∧ sp (V.ref a :: vs) H2 Q (E σ)
theorem pe_callOW (hf : PE X fe tf) (c : StX.CallO X.K C g) (F : FnOk X.prog X.w X.K X.mg X.base CX k g fd ps sp) (hr : Room k X.A) (hb : Binds X.K fd ps []) (hx : ∀ σ, PassesAt CX X σ (E σ)) (ha : PA X (e :: es) t)
    (ht : eval (.Call fe (e :: es) [] pos) X.env = (do callWith pos (← eval fe X.env) [] (backTo pos (starEach (e :: es) X.env)) (backToKw pos (keywordEach [] X.env))) := by rfl)
    (he : starEach (e :: es) X.env = (false, eval e X.env) :: starEach es X.env := by rfl) (hpl : (backTo pos (starEach es X.env)).any (·.1) = false := by rfl) : PE X (.Call fe (e :: es) [] pos) (tCallOW C sp E tf t) := by
  refine ⟨fun pins s σ H Q I h => ?_⟩
  refine Call_ (thn (hf.run pins s σ H _ I h) fun u s1 ⟨y, H1, I1, ry, a, ey, q⟩ => ?_) ht
  subst ey
  obtain rfl : u = Value.ref a := ry
  refine StX.callO_with (thn (ha.run pos pins s1 σ H1 _ I1 q) fun us s2 ⟨vs, H2, I2, r, ⟨dx, fs, hi⟩, q2⟩ => ?_) he hpl
  obtain ⟨mA, O, _⟩ := ins_get I2.hok hi
  obtain ⟨od, J, _⟩ := O.look
  refine ⟨⟨C, _, od, J, rfl⟩, wpAny_call (PySem.W.kco_code I2.kIn J rfl c.at_ c.fn c.fi ?_)⟩
  have r2 : Vals (V.ref a :: vs) (Value.ref a :: us) := .cons rfl r
  have hl : (Value.ref a :: us).length = ps.length := by rw [← r2.length]; exact F.len _ _ _ _ q2
  have b := hb s2 (.ref a :: us) I2.kIn (by rw [List.append_nil]; exact hl)
  rw [List.append_nil] at b
  refine codeAny_mono (F.run X.A X.stack s2 H2 ⟨.ref a :: us, []⟩ (.ref a :: us) (V.ref a :: vs) Q (E σ) hr I2.env0 b r2 q2) fun r s' hq => ?_
  cases r with
  | error e => exact hx σ pins H2 s2 e s' I2 hq
  | ok fl => cases fl <;> first | exact I2.after hq | exact False.elim hq
/-- what is never reached -/
theorem pe_no : PE X e (fun _ _ _ => False) := ⟨fun _ _ _ _ _ _ h => h.elim⟩
theorem pss_no {sts : List Stmt} : PSs X sts (fun _ _ _ => False) := ⟨fun _ _ _ _ _ _ h => h.elim⟩
end
end CO

set_option maxRecDepth 100000
set_option maxHeartbeats 8000000
namespace Sg
open PySem PySem.Spec PyProof.Rows L2 Dr Gd Er Cm Ow XT TM Tw SD CO
abbrev sONames : Stmt := inClass cOrder 1
abbrev sOLots : Stmt := inClass cOrder 2
abbrev sOCall : Stmt := inClass cOrder 4
abbrev sOEq : Stmt := inClass cOrder 5
abbrev sLookT : Stmt := top 33
abbrev sSteps : Stmt := top 38
theorem OrAt.same {K : PySem.W.Frag} {C CO : Addr} {H H' : Hp} {o x : Addr} {ps : List (Str × Int)} {row lots : List Str} (h : OrAt K C CO H o x ps row lots) (s : Same H H') : OrAt K C CO H' o x ps row lots := by
  obtain ⟨dx, ln, ll, tf, fs, ws, a, b, c, d, e, f, g, i⟩ := h
  exact ⟨dx, ln, ll, tf, fs, ws, s _ _ a, b.same s, s _ _ c, s _ _ d, s _ _ e, dpAll_same s _ _ f, g, i⟩
def spONames (K : PySem.W.Frag) (C CO : Addr) : Sp := fun vs H Q _ => ∃ o x ps row lots, vs = [.ref o] ∧ OrAt K C CO H o x ps row lots ∧ ∀ p, H p = none → Q (.ref p) (L2.upd H p (.lst (row.map V.str)))
def spOLots (K : PySem.W.Frag) (C CO : Addr) : Sp := fun vs H Q _ => ∃ o x ps row lots, vs = [.ref o] ∧ OrAt K C CO H o x ps row lots ∧ ∀ p, H p = none → Q (.ref p) (L2.upd H p (.lst (lots.map V.str)))
def spOFacts (K : PySem.W.Frag) (C CO : Addr) : Sp := fun vs H Q _ => ∃ o x ps row lots, vs = [.ref o] ∧ OrAt K C CO H o x ps row lots ∧ ∀ tf fs, H tf = some (.tup fs) → Q (.ref tf) H
structure OClx (K : PySem.W.Frag) (CO : Addr) : Prop extends OCl K CO where
  ca : PySem.W.findIn K (.ref CO) "__class__" = some (some (.builtin "object.__class__"))
  cg : PySem.W.specialIn K (.builtin "object.__class__") "__get__" = some (some (.builtin "getset_descriptor.__get__"))
  ct : PySem.W.takesIn K (.builtin "object.__class__") = some true
  cm : PySem.W.mroIn K CO (.type "object") = some true
  kO : PySem.W.kitOne K (.ref CO) (.ref CO) = some true
  kL : PySem.W.kitOne K (.type "list") (.ref CO) = some false
  kN : PySem.W.kitOne K (.type "NoneType") (.ref CO) = some false
def nmL (row : List Str) : PyData := .list (row.map .str)
theorem nm_eqv : ∀ a b : List Str, PyData.eqvAll (a.map .str) (b.map .str) = decide (a = b)
  | [], [] => rfl
  | [], _ :: _ => rfl
  | _ :: _, [] => rfl
  | x :: a, y :: b => by
    show ((x == y) && PyData.eqvAll _ _) = _
    rw [nm_eqv a b]
    by_cases h : x = y
    · subst h
      simp
    · have : (x == y) = false := by simpa using h
      simp [this, h]
theorem nmL_shaped {row : List Str} (h : ∀ z ∈ row, PyData.strOk z = true) : SeqAt.shaped (nmL row) = true := shaped_list fun e he => by
  obtain ⟨z, hz, rfl⟩ := List.mem_map.mp he
  exact ⟨h z hz, by simp [PyData.depth]⟩
theorem dp_strs {K : PySem.W.Frag} {H : Hp} : ∀ qs : List Str, DpAll K H (qs.map V.str) (qs.map PyData.str)
  | [] => .nil
  | a :: b => .cons (.str _) (dp_strs b)
theorem nmL_dp {K : PySem.W.Frag} {H : Hp} {a : Addr} {row : List Str} (h : H a = some (.lst (row.map V.str))) : Dp K H (.ref a) (nmL row) := .lst (SqL.of h) (dp_strs row)
section
variable {P : Program} {w : World} {K : PySem.W.Frag} {mg : Str → Option Value} {base : Heap} {C CO : Addr}
theorem scON : FnScope ["self"] ["self"] (defScope sONames) := ⟨rfl, rfl, rfl, by decide +kernel, rfl, by decide +kernel, by decide +kernel⟩
theorem ok_onames {f : Addr} {fd : FuncData} (F : Fun K "names" "Order.names" sONames f fd) (hls : mg "list" = none) (S : OCl K CO) : FnOk P w K mg base CX0 1 f fd ["self"] (spONames K C CO) := by
  refine F.ok scON (fun vs H Q E h => ?_) (fun cdv A outer s H vs Q E hr h => ?_)
  · obtain ⟨o, x, ps, row, lots, rfl, _⟩ := h
    rfl
  · obtain ⟨o, x, ps, row, lots, rfl, hO, q⟩ := h
    obtain ⟨dx, ln, ll, tf, fs, ws, a, b, c, d, _⟩ := hO
    refine ⟨_, pss_one (ps_ret (pe_callTy call_list_of (by rfl) hls (by decide +kernel) (pa_cons (pe_fld (pv 0) rfl) pa_nil))), ?_⟩
    exact ⟨_, rfl, o, CO, dx, _, .ref ln, rfl, a, S.cl, S.n2, rfl, ln, _, rfl, .inl (SqL.of c), fun p hp => q p hp⟩
theorem scOL : FnScope ["self"] ["self"] (defScope sOLots) := ⟨rfl, rfl, rfl, by decide +kernel, rfl, by decide +kernel, by decide +kernel⟩
theorem ok_olots {f : Addr} {fd : FuncData} (F : Fun K "lots" "Order.lots" sOLots f fd) (hls : mg "list" = none) (S : OCl K CO) : FnOk P w K mg base CX0 1 f fd ["self"] (spOLots K C CO) := by
  refine F.ok scOL (fun vs H Q E h => ?_) (fun cdv A outer s H vs Q E hr h => ?_)
  · obtain ⟨o, x, ps, row, lots, rfl, _⟩ := h
    rfl
  · obtain ⟨o, x, ps, row, lots, rfl, hO, q⟩ := h
    obtain ⟨dx, ln, ll, tf, fs, ws, a, b, c, d, _⟩ := hO
    refine ⟨_, pss_one (ps_ret (pe_callTy call_list_of (by rfl) hls (by decide +kernel) (pa_cons (pe_fld (pv 0) rfl) pa_nil))), ?_⟩
    exact ⟨_, rfl, o, CO, dx, _, .ref ll, rfl, a, S.cl, S.n3, rfl, ll, _, rfl, .inl (SqL.of d), fun p hp => q p hp⟩
/-- signs, a row and lots whose names may be compared -/
structure OrOk (ps : List (Str × Int)) (row lots : List Str) : Prop where
  s : SgOk ps
  r : ∀ z ∈ row, PyData.strOk z = true
  l : ∀ z ∈ lots, PyData.strOk z = true
def spOEq (K : PySem.W.Frag) (C CO : Addr) : Sp := fun vs H Q _ => ∃ o v x ps row lots, vs = [.ref o, v] ∧ OrAt K C CO H o x ps row lots ∧ OrOk ps row lots ∧
  ((v = .non ∧ Q (.bl false) H) ∨ (∃ ds, Dp K H v (.list ds) ∧ Q (.bl false) H) ∨ ∃ o' x' qs row' lots', v = .ref o' ∧ OrAt K C CO H o' x' qs row' lots' ∧ OrOk qs row' lots' ∧ ∀ H', Same H H' → Q (.bl (decide (ps = qs) && (decide (row = row') && decide (lots = lots')))) H')
theorem OrAt.ty {H : Hp} {o x : Addr} {ps : List (Str × Int)} {row lots : List Str} (h : OrAt K C CO H o x ps row lots) (S : OClx K CO) : TyX K H (.ref o) (.ref CO) := by
  obtain ⟨dx, ln, ll, tf, fs, ws, a, _⟩ := h
  exact .base (.ins a S.cl S.ca S.cg S.ct S.cm)
theorem scOE : FnScope ["self", "other"] ["self", "other"] (defScope sOEq) := ⟨rfl, rfl, rfl, by decide +kernel, rfl, by decide +kernel, by decide +kernel⟩
theorem ok_oeq {fl pn gn pw gw fe fh : Addr} {dl dn dw de dh : FuncData} {f : Addr} {fd : FuncData} (F : Fun K "__eq__" "Order.__eq__" sOEq f fd) (T : KTxt mg) (gO : mg "Order" = some (.ref CO)) (S : OClx K CO) (M : SgM P w K mg base C fl pn gn pw gw fe fh dl dn dw de dh) : FnOk P w K mg base CX0 2 f fd ["self", "other"] (spOEq K C CO) := by
  refine F.ok scOE (fun vs H Q E h => ?_) (fun cdv A outer s H vs Q E hr h => ?_)
  · obtain ⟨o, v, x, ps, row, lots, rfl, _⟩ := h
    rfl
  · obtain ⟨o, v, x, ps, row, lots, rfl, hO, ok, h⟩ := h
    refine ⟨_, pss_cons (ps_if (pt_not (pt_val (pe_callB call_isi (by rfl) T.isi (by decide +kernel) (pa_cons (pv 1) (pa_cons (pe_glob (v := .ref CO) rfl gO rfl) pa_nil))))) (pss_one (ps_ret pe_bl)) pss_nil)
      (pss_one (ps_ret (pe_and (pe_cmpR (op_eqOwn M.eo hr M.ea M.ef M.eb pass0) (pe_fld (pv 0) rfl) (pe_fld (pv 1) rfl) (nomark _))
        (pe_and (pe_cmpR (op_eqD hr.units) (pe_fld (pv 0) rfl) (pe_fld (pv 1) rfl) (nomark _)) (pe_one (pe_cmpR (op_eqD hr.units) (pe_fld (pv 0) rfl) (pe_fld (pv 1) rfl) (nomark _))))))), ?_⟩
    rcases h with ⟨rfl, q⟩ | ⟨ds, hd, q⟩ | ⟨o', x', qs, row', lots', rfl, hO', ok', q⟩
    · exact ⟨_, rfl, .non, .ref CO, .type "NoneType", .ref CO, _, rfl, .own _, .base .non, S.kN, _, rfl, iteT q⟩
    · exact ⟨_, rfl, v, .ref CO, .type "list", .ref CO, _, rfl, .own _, ty_dp hd, S.kL, _, rfl, iteT q⟩
    · refine ⟨_, rfl, .ref o', .ref CO, .ref CO, .ref CO, _, rfl, .own _, hO'.ty S, S.kO, _, rfl, iteF ?_⟩
      obtain ⟨dx, ln, ll, tf, fs, ws, a, b, c, d, _⟩ := hO
      obtain ⟨dx', ln', ll', tf', fs', ws', a', b', c', d', _⟩ := hO'
      obtain ⟨ex, en, b1, b2⟩ := id b
      obtain ⟨ex', en', b1', b2'⟩ := id b'
      refine ⟨_, rfl, o, CO, dx, _, .ref x, rfl, a, S.cl, S.n1, rfl, _, rfl, o', CO, dx', _, .ref x', rfl, a', S.cl, S.n1, rfl, ?_⟩
      refine ⟨x, ex, _, .ref C, rfl, b1, .inr ⟨x', C, ex', _, rfl, b1', rfl⟩, M.nC, x, .ref x', ps, rfl, b, ok.s.ok, .inr ⟨x', qs, rfl, b', ok'.s.ok, fun H1 s1 => ⟨_, rfl, _, rfl, ?_⟩⟩⟩
      refine ite2 (fun h1 => ?_) (fun h1 => ?_)
      · have q := fun H' s' => q H' s'
        rw [h1, Bool.true_and] at q
        refine ⟨_, rfl, o, CO, dx, _, .ref ln, rfl, s1 _ _ a, S.cl, S.n2, rfl, _, rfl, o', CO, dx', _, .ref ln', rfl, s1 _ _ a', S.cl, S.n2, rfl, nmL row, nmL row', nmL_dp (s1 _ _ c), nmL_dp (s1 _ _ c'), nmL_shaped ok.r, nmL_shaped ok'.r, ?_⟩
        rw [show PyData.eqv (nmL row) (nmL row') = decide (row = row') from nm_eqv row row']
        refine ⟨_, rfl, ?_⟩
        refine ite2 (fun h2 => ?_) (fun h2 => ?_)
        · rw [h2, Bool.true_and] at q
          refine ⟨_, rfl, o, CO, dx, _, .ref ll, rfl, s1 _ _ a, S.cl, S.n3, rfl, _, rfl, o', CO, dx', _, .ref ll', rfl, s1 _ _ a', S.cl, S.n3, rfl, nmL lots, nmL lots', nmL_dp (s1 _ _ d), nmL_dp (s1 _ _ d'), nmL_shaped ok.l, nmL_shaped ok'.l, ?_⟩
          rw [show PyData.eqv (nmL lots) (nmL lots') = decide (lots = lots') from nm_eqv lots lots']
          exact q H1 s1
        · have h2 : decide (row = row') = false := by simpa using h2
          rw [h2, Bool.false_and] at q
          exact q H1 s1
      · have h1 : decide (ps = qs) = false := by simpa using h1
        have q := q H1 s1
        rw [h1, Bool.false_and] at q
        exact q
structure KeT (P : Program) (K : PySem.W.Frag) (mg : Str → Option Value) (cT eT : Addr) : Prop where
  hT : ErrC P K "BadTerm" (some "value") cT eT
  gT : mg "BadTerm" = some (.ref cT)
  rT : PySem.W.subIn K (.ref cT) (.type "BaseException") = some true ∧ PySem.W.typeIn K (.ref cT) = some (.type "type")
  sup : mg "super" = none
/-- what may be asked of is_term -/
structure TOk (d : PyData) : Prop where
  ok : okT d = true
  sz : tsz d ≤ 5000
/-- the first of two that is no term -/
def TEnd (cT : Addr) (H : Hp) (v : V) (Q : VK) (E : XK) : Bool → Prop
  | true => ∀ H', Same H H' → Q .non H'
  | false => ∀ H' dd, Same H H' → H dd = none → H' dd = some (.xd [("value", v)]) → E (.ref cT) (some dd) H'
def spLookT (K : PySem.W.Frag) (cT C : Addr) : Sp := fun vs H Q E => ∃ x ps vs' ds vt dt, vs = [.ref x, vs', vt] ∧ SgAt C H x ps ∧ Dp K H vs' ds ∧ TOk ds ∧
  ((isTerm ps ds = false ∧ TEnd cT H vs' Q E false) ∨ (isTerm ps ds = true ∧ Dp K H vt dt ∧ TOk dt ∧ isTerm ps dt = false ∧ TEnd cT H vt Q E false) ∨ (isTerm ps ds = true ∧ Dp K H vt dt ∧ TOk dt ∧ isTerm ps dt = true ∧ TEnd cT H vt Q E true))
theorem scLT : FnScope ["signs", "s", "t", "value"] ["signs", "s", "t"] (defScope sLookT) := ⟨rfl, rfl, rfl, by decide +kernel, rfl, by decide +kernel, by decide +kernel⟩
theorem ok_lookT {cT eT fI : Addr} {dI : FuncData} {f : Addr} {fd : FuncData} (F : Fun K "look_at_terms" "look_at_terms" sLookT f fd) (Z : KeT P K mg cT eT) (GI : Cal P w K mg base CX0 4 "is_term" fI dI ["signs", "value"] (spIsT K C)) : FnOk P w K mg base (L2.CX P w) 5 f fd ["signs", "s", "t"] (spLookT K cT C) := by
  refine F.okX scLT (fun vs H Q E h => ?_) (fun cdv A outer s H vs Q E hr h => ?_)
  · obtain ⟨x, ps, v, ds, vt, dt, rfl, _⟩ := h
    rfl
  · obtain ⟨x, ps, v, ds, vt, dt, rfl, hS, hd, od, h⟩ := h
    refine ⟨_, pss_one (ps_for (passes_of rfl) rfl (pi_tup (pe_tup (pa_cons (pv 1) (pa_cons (pv 2) pa_nil)))) (pg_name (i := 3) scLT.nd rfl (Or.inl rfl))
      (pss_one (ps_if (pt_not (pt_val (pe_call GI.ok hr rfl GI.g GI.kp GI.b .nil pass0 (pa_cons (pv 0) (pa_cons (pv 3) pa_nil)))))
        (pss_one (ps_raise rfl (takes_of rfl rfl rfl rfl) (pmk_err1 Z.hT Z.sup hr (raises_own Z.rT.1 Z.rT.2) Z.gT (pv 3)))) pss_nil))), ?_⟩
    refine ⟨_, rfl, _, rfl, (by show 2 ≤ sizeLine; decide), fun p hp => ?_⟩
    have s1 := same_upd (o := .tup [v, vt]) hp
    have e1 : (L2.upd H p (.tup [v, vt])) p = some (.tup [v, vt]) := upd_same
    generalize (L2.upd H p (.tup [v, vt])) = H1 at s1 e1 ⊢
    refine ⟨p, rfl, ⟨_, SqT.of e1⟩, ?_⟩
    refine for_it (walk_tup (xs := [v, vt])) (fun i σ H' => ∃ c3, σ = [some (.ref x), some v, some vt, c3] ∧ Same H1 H' ∧ (0 < i → isTerm ps ds = true) ∧ (1 < i → TEnd cT H vt Q E true)) ⟨none, rfl, Same.refl H1, fun h => by omega, fun h => by omega⟩ (fun i σ H' hi hp => by obtain ⟨_, _, sm, _⟩ := hp; exact SqT.of (sm _ _ e1)) (fun i y σ Hq H' hi hp hy => ?_) (fun σ H' hp => ?_)
    · obtain ⟨c3, rfl, sm, h0, h1⟩ := hp
      obtain ⟨rfl, ey⟩ := hy
      have sm0 := Same.trans s1 sm
      match i, hi with
      | 0, _ =>
        obtain rfl : v = y := by simpa using ey
        refine ⟨_, rfl, _, rfl, x, v, ds, ps, rfl, hS.same sm0, dp_same sm0 _ _ hd, od.ok, od.sz, fun H2 s2 => ⟨_, rfl, ?_⟩⟩
        rcases h with ⟨ht, q⟩ | ⟨ht, _⟩ | ⟨ht, _⟩
        · rw [ht]
          refine iteT ⟨_, rfl, fun dd hdd => ?_⟩
          exact q _ dd (Same.trans (Same.trans sm0 s2) (same_upd hdd)) (Same.free (Same.trans sm0 s2) hdd) upd_same
        · rw [ht]
          exact iteF ⟨_, rfl, Same.trans sm s2, fun _ => rfl, fun h => by omega⟩
        · rw [ht]
          exact iteF ⟨_, rfl, Same.trans sm s2, fun _ => rfl, fun h => by omega⟩
      | 1, _ =>
        obtain rfl : vt = y := by simpa using ey
        have ht0 := h0 (by decide)
        rcases h with ⟨ht, q⟩ | ⟨ht, hdt, odt, htt, q⟩ | ⟨ht, hdt, odt, htt, q⟩
        · rw [ht] at ht0; cases ht0
        · refine ⟨_, rfl, _, rfl, x, vt, dt, ps, rfl, hS.same sm0, dp_same sm0 _ _ hdt, odt.ok, odt.sz, fun H2 s2 => ⟨_, rfl, ?_⟩⟩
          rw [htt]
          refine iteT ⟨_, rfl, fun dd hdd => ?_⟩
          exact q _ dd (Same.trans (Same.trans sm0 s2) (same_upd hdd)) (Same.free (Same.trans sm0 s2) hdd) upd_same
        · refine ⟨_, rfl, _, rfl, x, vt, dt, ps, rfl, hS.same sm0, dp_same sm0 _ _ hdt, odt.ok, odt.sz, fun H2 s2 => ⟨_, rfl, ?_⟩⟩
          rw [htt]
          exact iteF ⟨_, rfl, Same.trans sm s2, fun _ => ht, fun _ => q⟩
    · obtain ⟨c3, rfl, sm, h0, h1⟩ := hp
      exact h1 (by show 1 < 2; decide) H' (Same.trans s1 sm)
/-- a comparison that is refused -/
def spRef (K : PySem.W.Frag) (cT C CO : Addr) : Sp := fun vs H Q E => ∃ o s t x ps row lots, vs = [.ref o, s, t] ∧ OrAt K C CO H o x ps row lots ∧ spLookT K cT C [.ref x, s, t] H (fun _ _ => False) E
def spRef3 (K : PySem.W.Frag) (cT C CO : Addr) : Sp := fun vs H Q E => ∃ o s t u x ps row lots, vs = [.ref o, s, t, u] ∧ OrAt K C CO H o x ps row lots ∧ spLookT K cT C [.ref x, s, t] H (fun _ _ => False) E
theorem scOC : FnScope ["self", "s", "t"] ["self", "s", "t"] (defScope sOCall) := ⟨rfl, rfl, rfl, by decide +kernel, rfl, by decide +kernel, by decide +kernel⟩
theorem ok_ocall {cT fL : Addr} {dL : FuncData} {f : Addr} {fd : FuncData} (F : Fun K "__call__" "Order.__call__" sOCall f fd) (S : OCl K CO) (GL : Cal P w K mg base (L2.CX P w) 5 "look_at_terms" fL dL ["signs", "s", "t"] (spLookT K cT C)) : FnOk P w K mg base (L2.CX P w) 6 f fd ["self", "s", "t"] (spRef K cT C CO) := by
  refine F.okX scOC (fun vs H Q E h => ?_) (fun cdv A outer s H vs Q E hr h => ?_)
  · obtain ⟨o, s, t, x, ps, row, lots, rfl, _⟩ := h
    rfl
  · obtain ⟨o, s, t, x, ps, row, lots, rfl, hO, q⟩ := h
    refine ⟨_, pss_cons (ps_expr (pe_callS GL.ok hr rfl GL.g GL.kp GL.b (fun σ => passAt (takes_of rfl rfl rfl rfl) σ) (pa_cons (pe_fld (pv 0) rfl) (pa_cons (pv 1) (pa_cons (pv 2) pa_nil))))) pss_no, ?_⟩
    obtain ⟨dx, ln, ll, tf, fs, ws, a, _⟩ := hO
    exact ⟨_, rfl, o, CO, dx, _, .ref x, rfl, a, S.cl, S.n1, rfl, _, rfl, _, rfl, q⟩
theorem scSt : FnScope ["order", "s", "t", "table"] ["order", "s", "t"] (defScope sSteps) := ⟨rfl, rfl, rfl, by decide +kernel, rfl, by decide +kernel, by decide +kernel⟩
theorem ok_stepsR {cT fL : Addr} {dL : FuncData} {f : Addr} {fd : FuncData} (F : Fun K "steps" "steps" sSteps f fd) (S : OCl K CO) (GL : Cal P w K mg base (L2.CX P w) 5 "look_at_terms" fL dL ["signs", "s", "t"] (spLookT K cT C)) : FnOk P w K mg base (L2.CX P w) 6 f fd ["order", "s", "t"] (spRef K cT C CO) := by
  refine F.okX scSt (fun vs H Q E h => ?_) (fun cdv A outer s H vs Q E hr h => ?_)
  · obtain ⟨o, s, t, x, ps, row, lots, rfl, _⟩ := h
    rfl
  · obtain ⟨o, s, t, x, ps, row, lots, rfl, hO, q⟩ := h
    refine ⟨_, pss_cons (ps_expr (pe_callS GL.ok hr rfl GL.g GL.kp GL.b (fun σ => passAt (takes_of rfl rfl rfl rfl) σ) (pa_cons (pe_fld (pv 0) rfl) (pa_cons (pv 1) (pa_cons (pv 2) pa_nil))))) pss_no, ?_⟩
    obtain ⟨dx, ln, ll, tf, fs, ws, a, _⟩ := hO
    exact ⟨_, rfl, o, CO, dx, _, .ref x, rfl, a, S.cl, S.n1, rfl, _, rfl, _, rfl, q⟩
end
end Sg

set_option maxRecDepth 100000
set_option maxHeartbeats 4000000
/-! del xs[a:] -/
namespace LD
open PySem PySem.Spec PyProof.Rows L2
def selO (start stop step : Int) (i : Nat) : Bool :=
  if step > 0 then start ≤ i && i < stop && (i - start) % step == 0 else stop < i && i ≤ start && (start - i) % (-step) == 0
def cutO (a n : Nat) (xs : Array Value) : Array Value := (xs.toList.zipIdx.filterMap fun (x, k) => if selO (a : Int) (n : Int) 1 k then none else some x).toArray
theorem sel_one (a n i : Nat) : selO (a : Int) (n : Int) 1 i = (decide (a ≤ i) && decide (i < n)) := by
  unfold selO
  rw [if_pos (by decide)]
  have : (((i : Int) - a) % 1 == 0) = true := by rw [Int.emod_one]; rfl
  rw [this, Bool.and_true]
  by_cases h1 : a ≤ i <;> by_cases h2 : i < n <;> simp [h1, h2]
theorem fm_cut (a n : Nat) : ∀ (l : List Value) (k : Nat), k + l.length = n → ((l.zipIdx k).filterMap fun (x, j) => if selO (a : Int) (n : Int) 1 j then none else some x) = l.take (a - k)
  | [], k, _ => by simp
  | x :: l, k, h => by
    rw [List.length_cons] at h
    rw [List.zipIdx_cons, List.filterMap_cons, fm_cut a n l (k + 1) (by omega)]
    simp only [sel_one]
    by_cases h1 : a ≤ k
    · have h2 : k < n := by omega
      have h3 : a - k = 0 := by omega
      have h4 : a - (k + 1) = 0 := by omega
      simp [h1, h2, h3, h4]
    · have h3 : a - k = (a - (k + 1)) + 1 := by omega
      simp [h1, h3]
theorem cutO_eq (its : List Value) {a : Nat} : cutO a its.length its.toArray = (its.take a).toArray := by
  unfold cutO
  rw [show its.toArray.toList = its by simp, fm_cut a its.length its 0 (by omega), Nat.sub_zero]
section
variable {prog : Program} {w : World} {A : Around} {E : Value → Shared → Prop} {s : Shared}
theorem bounds_tail {a n : Nat} (ha : a ≤ n) : sliceBounds (some (a : Int)) none none n = ((a : Int), (n : Int), 1) := by
  simp only [sliceBounds, Option.getD_none]
  have h1 : ¬ ((a : Int) < 0) := by omega
  simp only [h1, if_false, show (1 : Int) > 0 by decide, if_true]
  congr 1
  omega
theorem delItem_tail {l sl : Addr} {items : Array Value} {n : Nat} {vl : Value} {a : Nat} {Q : Unit → Shared → Prop} (e : s.heap.get? l = some { cls := .type "list", data := .seq items n }) (hs : s.heap.IsSliceOf sl vl .none .none)
    (pl : IsPart vl (some (a : Int))) (ha : a ≤ items.size) (hsz : items.size ≤ sizeLine) (h2 : (cutO a items.size items).size ≤ sizeLine + 1) (h : Q () { s with heap := s.heap.update l (Obj.mapSeq (cutO a items.size)) }) : wpAny (model prog w) A (delItem (.ref l) (.ref sl)) Q E s := by
  have hl : s.heap.IsList l items := PySem.IsL.isList e
  obtain ⟨os, hos, hcs, hds⟩ := id hs
  have hTs : s.TypeIs (.ref sl) "slice" := ⟨os, hos, hcs⟩
  have nz : ¬ ((rawPart none == rawInt 0) = true) := Bool.false_ne_true
  unfold delItem
  refine wpAny_holding ?_
  refine wpAny_bind (wpAny_sequenceKey hl.typeIs (by decide) ?_)
  refine wpAny_bind (wpAny_callSpecial?_slot (name := Str.ofString "__delitem__") hl.typeIs PySem.F.slot_list_delitem (wpAny_call_entry PySem.F.slot_list_delitem hl.typeIs PySem.F.entry_list_delitem ?_ (PySem.F.args_list_delitem_2 _ _)))
  show wpAny _ _ (Builtin.List.listSubscript? (.ref sl) >>= _) _ _ s
  refine wpAny_bind ?_
  unfold Builtin.List.listSubscript?
  refine wpAny_bind (wpAny_specialOf hTs slice_no_index ?_)
  simp only [Option.isNone_none, if_true]
  refine wpAny_pure ?_
  show wpAny _ _ (typeOf (.ref sl) >>= _) _ _ s
  refine wpAny_bind (wpAny_typeOf hTs ?_)
  refine PySem.W.KFB.if_not (by decide) ?_
  rw [listSliceParts_eq]
  refine wpAny_bind (wpAny_bind (wpAny_field hos hds (x := .none) rfl (wpAny_bind (wpAny_listPart .none ?_))))
  rw [if_neg nz]
  refine wpAny_bind (wpAny_field hos hds (x := vl) rfl (wpAny_bind (wpAny_listPart pl ?_)))
  refine wpAny_bind (wpAny_field hos hds (x := .none) rfl (wpAny_bind (wpAny_listPart .none (wpAny_pure ?_))))
  refine wpAny_bind (m := Builtin.List.listItems (.ref l)) ?_
  unfold Builtin.List.listItems
  refine wpAny_bind (wpAny_seqItems e rfl (wpAny_pure ?_))
  refine wpAny_bind (wpAny_of_eq ((sliceIndices_raw (some (a : Int)) none none items.size (by simp)).trans (congrArg (pure : Int × Int × Int → Sem (Int × Int × Int)) (bounds_tail ha))) ?_)
  refine wpAny_bind (wpAny_rule ?_)
  show wpAny _ _ (updateSeq l (cutO a items.size) >>= _) _ _ s
  refine wpAny_bind (wpAny_updateSeq (hz := hsz) (_hz' := h2) e rfl ?_)
  refine wpAny_bind (wpAny_letGo ?_)
  exact wpAny_pure ⟨.none, rfl, wpAny_pure h⟩
end
section
variable {X : Cx}
/-- del xs[a:] of a list -/
def tDelT (to : TE) (tl : TO) : TS := fun D σ H => to σ H fun x H1 => tl σ H1 fun lo H2 => ∃ (l : Addr) (xs : List V) (a : Nat), x = .ref l ∧ lo = some (a : Int) ∧ H2 l = some (.lst xs) ∧ a ≤ xs.length ∧ D.nx σ (upd H2 l (.lst (xs.take a)))
theorem ps_delT {o : Expr} {lo : Option Expr} {to : TE} {tl : TO} {p2 tpos pos : Pos} (ho : PE X o to) (hl : PO X lo tl) : PS X (.Delete [.Subscript o (.Slice lo none none p2) tpos] pos) (tDelT to tl) := by
  refine ⟨fun pins s σ H D I h => ?_⟩
  refine wpAny_Delete (wpAny_deleteEach_cons (wpAny_delete_Subscript (thn (ho.run pins s σ H _ I h) fun u s1 ⟨x, H1, I1, rx, q1⟩ => ?_)))
  refine wpAny_Slice (thn (hl.run pins s1 σ H1 _ I1 q1) fun vl s2 ⟨l, H2, I2, pl, q2⟩ => ?_)
  obtain ⟨a, xs, k, ex, el, hH, hk, q⟩ := q2
  subst ex el
  cases (show u = Value.ref a from rx)
  refine wpAny_pure (wpAny_pure ?_)
  have I3 : Inv X pins σ H2 { s2 with heap := s2.heap.push { cls := .type "slice", data := .fields #[vl, .none, .none] } } := I2.kept (t' := s2.toks) fun b ob q => Heap.get?_push_of_some _ q
  obtain ⟨z, its, n, r, hlen, e⟩ := I3.lstM hH
  have h1 : its.toArray.size = its.length := List.size_toArray ..
  refine delItem_tail (a := k) e (Heap.IsSliceOf.new ..) pl (by omega) (by omega) ?_ ?_
  · rw [h1, cutO_eq, List.size_toArray, List.length_take]
    omega
  · refine wpAny_deleteEach_nil ⟨σ, _, I3.lset (its' := its.take k) (t' := s2.toks) hH e ?_ (r.take k) ?_, q⟩
    · rw [h1, cutO_eq]
    · rw [List.length_take]
      omega
end
end LD

set_option maxRecDepth 100000
set_option maxHeartbeats 4000000
/-! a bound method as a value, and called through a local -/
namespace CM
open PySem PySem.Spec PyProof.Rows L2
def tMet (C : Addr) (m : Str) (g : Addr) (to : TE) : TE := fun σ H Q => to σ H fun x H1 => ∃ a dx fs, x = .ref a ∧ H1 a = some (.ins C dx fs) ∧ fs.lookup m = none ∧ ∀ q, H1 q = none → Q (.ref q) (upd H1 q (.met g a))
def tCallM (i : Nat) (g : Addr) (sp : Sp) (E : XK) (t : TA) : TE := fun σ H Q => ∃ q a, σ[i]? = some (some (.ref q)) ∧ H q = some (.met g a) ∧ t σ H fun vs H1 => H1 q = some (.met g a) ∧ sp (.ref a :: vs) H1 Q E
section
variable {X : Cx} {CX : CXT} {k i : Nat} {C g : Addr} {m x : Str} {sp : Sp} {E : XK} {o e : Expr} {es : List Expr} {to : TE} {t : TA} {p pos : Pos}
theorem pe_met (he : PE X o to) (c : Cls X.K C) (b : BMeth X.K C m g) (hab : attributeBase o m X.env (eval o X.env) = eval o X.env := by rfl) : PE X (.Attribute o m pos) (tMet C m g to) := by
  refine ⟨fun pins s σ H Q I h => ?_⟩
  refine attr_of hab (thn (he.run pins s σ H _ I h) fun u s1 ⟨x, H1, I1, rx, a, dx, fs, ex, ea, l, q⟩ => ?_)
  subst ex
  exact op_getbound I1 ea c b l rx q
theorem pe_callM (F : FnR X.prog X.w X.K X.mg X.base CX k g sp) (hr : Room k X.A) (hf : PySem.W.fnIn X.K g = true) (hN : X.N[i]? = some x) (hv : Vis X.env.scope x) (hx : Passes CX X E) (ha : PA X (e :: es) t)
    (hdb : (x == ("__debug__" : Str)) = false := by decide) (hcd : (x == ("__classdict__" : Str)) = false := by decide)
    (he : starEach (e :: es) X.env = (false, eval e X.env) :: starEach es X.env := by rfl) (hpl : (backTo pos (starEach es X.env)).any (·.1) = false := by rfl) : PE X (.Call (.Name x p) (e :: es) [] pos) (tCallM i g sp E t) := by
  refine ⟨fun pins s σ H Q I h => ?_⟩
  obtain ⟨q, a, hs, hq, ht⟩ := h
  refine wpAny_Call_Name_kw (thn ((pe_var (pos := p) hN hv hdb hcd).run pins s σ H (fun v H1 => v = .ref q ∧ H1 = H) I ⟨.ref q, hs, rfl, rfl⟩) fun u s1 ⟨v, H1, I1, r1, q1⟩ => ?_)
  obtain ⟨rfl, rfl⟩ := q1
  cases r1
  have hz := ha.run pos pins s1 σ _ _ I1 ht
  rw [he] at hz ⊢
  refine PySem.W.callWith_of (P := PySem.W.MethP X.K q g (.ref a)) (by show ((false || (backTo pos (starEach es X.env)).any (·.1)) || false) = false; rw [hpl]; rfl) (PySem.W.keeps_M hf) (Calls.evalArgs_plain (thn hz fun us s2 ⟨vs, H2, I2, r, hm, q2⟩ => ?_))
  exact ⟨met_P I2 hm, wpAny_call (PySem.W.method_call (met_P I2 hm).1 (run_fnR (us := Value.ref a :: us) (vs := V.ref a :: vs) F hr hx I2 (.cons rfl r) q2))⟩
end
end CM

set_option maxRecDepth 100000
set_option maxHeartbeats 8000000
namespace Sg
open PySem PySem.Spec PyProof.Rows L2 Dr Gd Er Cm LD CM
abbrev sFolded : Stmt := top 2
abbrev sArgs : Stmt := top 3
def argsD : PyData → List PyData
  | .tuple (_ :: r) => r
  | _ => []
mutual
def okF : PyData → Bool
  | .str _ => true
  | .tuple [] => false
  | .tuple (_ :: r) => okFs r
  | .none => false
  | .bool _ => false
  | .int _ => false
  | .list _ => false
  | .dict _ => false
def okFs : List PyData → Bool
  | [] => true
  | d :: r => okF d && okFs r
end
mutual
def fsz : PyData → Nat
  | .tuple (_ :: r) => 1 + fszs r
  | .tuple [] => 1
  | .str _ => 1
  | .none => 1
  | .bool _ => 1
  | .int _ => 1
  | .list _ => 1
  | .dict _ => 1
def fszs : List PyData → Nat
  | [] => 0
  | d :: r => fsz d + fszs r
end
theorem fsz_args (d : PyData) : fsz d = 1 + fszs (argsD d) := by
  cases d with
  | tuple ds =>
    cases ds with
    | nil => simp [fsz, argsD, fszs]
    | cons e r => simp [fsz, argsD]
  | _ => simp [fsz, argsD, fszs]
theorem okF_args {d : PyData} (h : okF d = true) : okFs (argsD d) = true := by
  cases d with
  | tuple ds =>
    cases ds with
    | nil => simp [argsD, okFs]
    | cons e r => rw [okF] at h; exact h
  | _ => simp [argsD, okFs]
theorem okFs_mem : ∀ {ds : List PyData}, okFs ds = true → ∀ d ∈ ds, okF d = true
  | [], _, d, hd => by cases hd
  | e :: r, h, d, hd => by
    rw [okFs, Bool.and_eq_true] at h
    rcases List.mem_cons.mp hd with rfl | hd
    · exact h.1
    · exact okFs_mem h.2 d hd
theorem fsz_pos : ∀ d : PyData, 1 ≤ fsz d := fun d => by rw [fsz_args]; omega
theorem fszs_len : ∀ ds : List PyData, ds.length ≤ fszs ds
  | [] => Nat.zero_le _
  | d :: ds => by
    have := fszs_len ds
    have := fsz_pos d
    rw [fszs, List.length_cons]
    omega
def spArgs (K : PySem.W.Frag) : Sp := fun vs H Q _ => ∃ v, vs = [v] ∧ ((∃ z, v = .str z ∧ ∀ l H', Same H H' → H l = none → H' l = some (.lst []) → Q (.ref l) H') ∨
  ∃ a x xs, v = .ref a ∧ SqT K H a (x :: xs) ∧ ∀ l H', Same H H' → H l = none → H' l = some (.lst xs) → Q (.ref l) H')
section
variable {P : Program} {w : World} {K : PySem.W.Frag} {mg : Str → Option Value} {base : Heap}
theorem scAg : FnScope ["term"] ["term"] (defScope sArgs) := ⟨rfl, rfl, rfl, by decide +kernel, rfl, by decide +kernel, by decide +kernel⟩
theorem ty_tup {H : Hp} {a : Addr} {xs : List V} (h : SqT K H a xs) : TyX K H (.ref a) (.type "tuple") := by
  rcases h with (h | ⟨o, h⟩) | ⟨o, its, n, e, c, _⟩
  · exact .base (.tup h)
  · exact .fTuple h
  · exact .kTuple e c
theorem cut1 (x : V) (xs : List V) : cutV (x :: xs) (some 1) none = xs := by
  unfold cutV
  rw [HT.sIx_none]
  rw [show HT.sIx (x :: xs).length 0 (some 1) = min 1 (x :: xs).length from HT.sIx_nat _ _ 1]
  rw [List.length_cons, Nat.min_eq_left (by omega)]
  simp
theorem ok_args {f : Addr} {fd : FuncData} (F : Fun K "arguments" "arguments" sArgs f fd) (hi : mg "isinstance" = none) (hl : mg "list" = none) (hs : mg "str" = none) : FnOk P w K mg base CX0 1 f fd ["term"] (spArgs K) := by
  refine F.ok scAg (fun vs H Q E h => ?_) (fun cdv A outer s H vs Q E hr h => ?_)
  · obtain ⟨v, rfl, _⟩ := h
    rfl
  · obtain ⟨v, rfl, h⟩ := h
    refine ⟨_, pss_one (ps_ret (pe_ifExp (pt_val (pe_callB call_isi (by rfl) hi (by decide +kernel) (pa_cons (pv 0) (pa_cons (pe_bltn (v := .ty "str") (by rfl) hs (by decide +kernel) rfl) pa_nil)))) (pe_lst pa_nil)
      (pe_callTy call_list_of (by rfl) hl (by decide +kernel) (pa_cons (pe_slice sl_tup (pv 0) (po_some pe_int) po_none) pa_nil)))), ?_⟩
    rcases h with ⟨z, rfl, q⟩ | ⟨a, x, xs, rfl, ht, q⟩
    · refine ⟨_, rfl, .str z, .ty "str", .type "str", .type "str", true, rfl, .ty _, .base (.str z), kit_ty (by decide +kernel), _, rfl, iteT ?_⟩
      refine ⟨Nat.zero_le _, fun l hl => ?_⟩
      exact q l _ (same_upd hl) hl upd_same
    · refine ⟨_, rfl, .ref a, .ty "str", .type "tuple", .type "str", false, rfl, .ty _, ty_tup ht, kit_ty (by decide +kernel), _, rfl, iteF ?_⟩
      refine ⟨_, rfl, 1, rfl, a, x :: xs, rfl, ht, ?_, fun p hp => ?_⟩
      · rw [show HT.sIx (x :: xs).length 0 (some 1) = min 1 (x :: xs).length from HT.sIx_nat _ _ 1, List.length_cons]
        omega
      · rw [cut1]
        have s1 := same_upd (o := .tup xs) hp
        refine ⟨p, xs, rfl, .inr (SqT.of upd_same), fun l hl => ?_⟩
        exact q l _ (Same.trans s1 (same_upd hl)) (Same.free s1 hl) upd_same
end
end Sg

set_option maxRecDepth 100000
set_option maxHeartbeats 8000000
namespace Sg
open PySem PySem.Spec PyProof.Rows L2 Dr Gd Er Cm LD CM
/-- H without the addresses in S -/
def delS (S : List Addr) (H : Hp) : Hp := fun b => if b ∈ S then none else H b
theorem delS_of {S : List Addr} {H : Hp} {b : Addr} (h : b ∉ S) : delS S H b = H b := by unfold delS; rw [if_neg h]
theorem delS_inv {S : List Addr} {H : Hp} {b : Addr} {o : HO} (h : delS S H b = some o) : b ∉ S ∧ H b = some o := by
  unfold delS at h
  by_cases e : b ∈ S
  · rw [if_pos e] at h; cases h
  · rw [if_neg e] at h; exact ⟨e, h⟩
theorem delS_sub {S : List Addr} {H : Hp} : Same (delS S H) H := fun b o h => (delS_inv h).2
theorem delS_same {S : List Addr} {H H' : Hp} (s : Same H H') : Same (delS S H) (delS S H') := fun b o h => by
  obtain ⟨a, b'⟩ := delS_inv h
  rw [delS_of a]
  exact s _ _ b'
theorem delS_upd {S : List Addr} {H : Hp} {a : Addr} {o : HO} (h : a ∈ S) : delS S (L2.upd H a o) = delS S H := by
  funext b
  unfold delS
  by_cases e : b ∈ S
  · rw [if_pos e, if_pos e]
  · rw [if_neg e, if_neg e, upd_ne (fun z => e (by rw [z]; exact h))]
theorem delS_in {S T : List Addr} {H H' : Hp} (h : ∀ b ∈ S, b ∈ T) (s : Same (delS S H) (delS S H')) : Same (delS T H) (delS T H') := fun b o e => by
  obtain ⟨a, b'⟩ := delS_inv e
  have k : b ∉ S := fun z => a (h b z)
  have := s b o (by rw [delS_of k]; exact b')
  rw [delS_of a]
  exact (delS_inv this).2
theorem delS_less {S T : List Addr} {H : Hp} (h : ∀ b ∈ S, b ∈ T) : Same (delS T H) (delS S H) := fun b o e => by
  obtain ⟨a, b'⟩ := delS_inv e
  rw [delS_of fun z => a (h b z)]
  exact b'
inductive Item where
  | op (d : PyData)
  | cl (d : PyData)
def meas : List Item → Nat
  | [] => 0
  | .op d :: I => 2 * fsz d + meas I
  | .cl _ :: I => 1 + meas I
theorem meas_len : ∀ I : List Item, I.length ≤ meas I
  | [] => Nat.zero_le _
  | .op d :: I => by
    have := meas_len I
    have := fsz_pos d
    rw [meas, List.length_cons]
    omega
  | .cl d :: I => by
    have := meas_len I
    rw [meas, List.length_cons]
    omega
theorem meas_ops (ds : List PyData) (I : List Item) : meas (ds.map .op ++ I) = 2 * fszs ds + meas I := by
  induction ds with
  | nil => simp [fszs]
  | cons d ds ih =>
    rw [List.map_cons, List.cons_append, meas, ih, fszs]
    omega
/-- what stands at the end, if what is left to do is done over what is done -/
inductive Exec : List Item → List PyData → List PyData → Prop where
  | nil {D : List PyData} : Exec [] D D
  | op {d : PyData} {I : List Item} {D F : List PyData} : Exec I (D ++ [d]) F → Exec (.op d :: I) D F
  | cl {d : PyData} {I : List Item} {D F : List PyData} : Exec I (D ++ [d]) F → Exec (.cl d :: I) (D ++ argsD d) F
theorem exec_ops {J : List Item} {F : List PyData} : ∀ (ds D : List PyData), Exec J (D ++ ds) F → Exec (ds.map .op ++ J) D F
  | [], D, h => by simpa using h
  | d :: ds, D, h => .op (exec_ops ds (D ++ [d]) (by rw [List.append_assoc]; exact h))
inductive StkR (K : PySem.W.Frag) (Pd : PyData → Prop) (Z : Hp) : List V → List Item → Prop where
  | nil : StkR K Pd Z [] []
  | op {t : Addr} {v : V} {d : PyData} {tr : List V} {I : List Item} : Z t = some (.tup [v, .non]) → Dp K Z v d → Pd d → StkR K Pd Z tr I → StkR K Pd Z (.ref t :: tr) (.op d :: I)
  | cl {t b : Addr} {v : V} {us : List V} {d : PyData} {tr : List V} {I : List Item} : Z t = some (.tup [v, .ref b]) → Dp K Z v d → Pd d → Z b = some (.lst us) → us.length = (argsD d).length → StkR K Pd Z tr I → StkR K Pd Z (.ref t :: tr) (.cl d :: I)
theorem StkR.mono {K : PySem.W.Frag} {Pd : PyData → Prop} {Z Z' : Hp} (s : Same Z Z') : ∀ {tr : List V} {I : List Item}, StkR K Pd Z tr I → StkR K Pd Z' tr I
  | _, _, .nil => .nil
  | _, _, .op a b c d => .op (s _ _ a) (dp_same s _ _ b) c (d.mono s)
  | _, _, .cl a b c d e f => .cl (s _ _ a) (dp_same s _ _ b) c (s _ _ d) e (f.mono s)
theorem StkR.len {K : PySem.W.Frag} {Pd : PyData → Prop} {Z : Hp} : ∀ {tr : List V} {I : List Item}, StkR K Pd Z tr I → tr.length = I.length
  | _, _, .nil => rfl
  | _, _, .op _ _ _ d => by rw [List.length_cons, List.length_cons, d.len]
  | _, _, .cl _ _ _ _ _ f => by rw [List.length_cons, List.length_cons, f.len]
inductive All2 (R : PyData → V → Prop) : List PyData → List V → Prop where
  | nil : All2 R [] []
  | cons {d : PyData} {v : V} {ds : List PyData} {vs : List V} : R d v → All2 R ds vs → All2 R (d :: ds) (v :: vs)
theorem All2.len {R : PyData → V → Prop} : ∀ {ds : List PyData} {vs : List V}, All2 R ds vs → ds.length = vs.length
  | _, _, .nil => rfl
  | _, _, .cons _ b => by rw [List.length_cons, List.length_cons, b.len]
theorem All2.imp {R R' : PyData → V → Prop} (h : ∀ d v, R d v → R' d v) : ∀ {ds : List PyData} {vs : List V}, All2 R ds vs → All2 R' ds vs
  | _, _, .nil => .nil
  | _, _, .cons a b => .cons (h _ _ a) (b.imp h)
theorem All2.app {R : PyData → V → Prop} : ∀ {ds : List PyData} {vs : List V} {es : List PyData} {us : List V}, All2 R ds vs → All2 R es us → All2 R (ds ++ es) (vs ++ us)
  | _, _, _, _, .nil, h => h
  | _, _, _, _, .cons a b, h => .cons a (b.app h)
theorem All2.split {R : PyData → V → Prop} : ∀ {ds es : List PyData} {vs : List V}, All2 R (ds ++ es) vs → All2 R ds (vs.take ds.length) ∧ All2 R es (vs.drop ds.length)
  | [], es, vs, h => ⟨.nil, by simpa using h⟩
  | d :: ds, es, vs, h => by
    cases h with
    | cons a b =>
      obtain ⟨p, q⟩ := b.split
      exact ⟨.cons a p, q⟩
/-- what a fold asks of the making: S: what the making changes; St, G: what stands, what a value is of a term -/
structure FoldP (K : PySem.W.Frag) (Pd : PyData → Prop) (S : List Addr) (H0 : Hp) (St : Hp → Prop) (G : PyData → V → Hp → Prop) (CM : List V → Hp → VK → Prop) : Prop where
  sub : ∀ d, Pd d → okF d = true ∧ ∀ a ∈ argsD d, Pd a
  trk : ∀ H, St H → ∀ b ∈ S, ∃ o, H b = some o
  alc : ∀ H H', Same H H' → St H → St H' ∧ ∀ d v, G d v H → G d v H'
  upl : ∀ H c ys zs, c ∉ S → H c = some (.lst ys) → St H → St (L2.upd H c (.lst zs)) ∧ ∀ d v, G d v H → G d v (L2.upd H c (.lst zs))
  made : ∀ (d : PyData) (v : V) (l : Addr) (us : List V) (H : Hp) (Q : VK), Same (delS S H0) (delS S H) → St H → Pd d → Dp K (delS S H) v d → l ∉ S → H l = some (.lst us) → All2 (fun d v => G d v H) (argsD d) us →
    (∀ r H', Same (delS S H) (delS S H') → St H' → (∀ d v, G d v H → G d v H') → G d r H' → Q r H') → CM [v, .ref l] H Q
def spFold (K : PySem.W.Frag) (fa g : Addr) (sp : Sp) : Sp := fun vs H0 Q _ => ∃ v q a d Pd S St G, vs = [v, .ref fa, .ref q] ∧ H0 q = some (.met g a) ∧ q ∉ S ∧ Pd d ∧ fsz d ≤ 5000 ∧ Dp K (delS S H0) v d ∧ St H0 ∧
  FoldP K Pd S H0 St G (fun vs H Q => sp (.ref a :: vs) H Q E0) ∧ ∀ r H', Same (delS S H0) (delS S H') → St H' → G d r H' → (∀ d v, G d v H0 → G d v H') → Q r H'
end Sg

set_option maxRecDepth 100000
set_option maxHeartbeats 8000000
namespace Sg
open PySem PySem.Spec PyProof.Rows L2 Dr Gd Er Cm LD CM
theorem cut_fromV (xs : List V) (k : Nat) : cutV xs (some (k : Int)) none = xs.drop k := by
  unfold cutV
  rw [HT.sIx_none, HT.sIx_nat]
  rcases Nat.le_total k xs.length with h | h
  · rw [Nat.min_eq_left h, List.take_of_length_le (by rw [List.length_drop]; omega)]
  · rw [Nat.min_eq_right h, List.drop_eq_nil_of_le h, List.drop_eq_nil_of_le (Nat.le_refl _), List.take_nil]
theorem args_of {K : PySem.W.Frag} {Z : Hp} {v : V} {d : PyData} (h : Dp K Z v d) (hok : okF d = true) : ∃ us, DpAll K Z us (argsD d) ∧ ((∃ z, v = .str z ∧ us = []) ∨ ∃ a x, v = .ref a ∧ SqT K Z a (x :: us)) := by
  cases h with
  | str z => exact ⟨[], .nil, .inl ⟨z, rfl, rfl⟩⟩
  | tup g1 g2 =>
    rename_i a xs ds
    cases ds with
    | nil => rw [okF] at hok; cases hok
    | cons e r =>
      cases g2 with
      | cons p1 p2 => exact ⟨_, p2, .inr ⟨a, _, rfl, g1⟩⟩
  | non => rw [okF] at hok; cases hok
  | bl _ => rw [okF] at hok; cases hok
  | int _ => rw [okF] at hok; cases hok
  | lst _ _ => rw [okF] at hok; cases hok
theorem args_or {K : PySem.W.Frag} {Z H : Hp} {v : V} {us : List V} {R : Addr → Hp → Prop} (h : (∃ z, v = .str z ∧ us = []) ∨ ∃ a x, v = .ref a ∧ SqT K Z a (x :: us)) (s : Same Z H) (q : ∀ l H', Same H H' → H l = none → H' l = some (.lst us) → R l H') :
    (∃ z, v = .str z ∧ ∀ l H', Same H H' → H l = none → H' l = some (.lst []) → R l H') ∨ ∃ a x xs, v = .ref a ∧ SqT K H a (x :: xs) ∧ ∀ l H', Same H H' → H l = none → H' l = some (.lst xs) → R l H' := by
  rcases h with ⟨z, rfl, rfl⟩ | ⟨a, x, rfl, g⟩
  · exact .inl ⟨z, rfl, q⟩
  · exact .inr ⟨a, x, us, rfl, seqT_same s g, q⟩
theorem StkR.app {K : PySem.W.Frag} {Pd : PyData → Prop} {Z : Hp} : ∀ {tr tr2 : List V} {I J : List Item}, StkR K Pd Z tr I → StkR K Pd Z tr2 J → StkR K Pd Z (tr ++ tr2) (I ++ J)
  | _, _, _, _, .nil, h => h
  | _, _, _, _, .op a b c d, h => .op a b c (d.app h)
  | _, _, _, _, .cl a b c d e f, h => .cl a b c d e (f.app h)
section
variable {P : Program} {w : World} {K : PySem.W.Frag} {mg : Str → Option Value} {base : Heap} {fa : Addr} {da : FuncData}
theorem scFd : FnScope ["root", "children", "made", "done", "todo", "node", "below", "first", "told", "child"] ["root", "children", "made"] (defScope sFolded) := ⟨rfl, rfl, rfl, by decide +kernel, rfl, by decide +kernel, by decide +kernel⟩
/-- made(..): Pk what stands of what was handed in, CM what its call asks -/
def tMk (mk : V) (Pk : Hp → Prop) (CM : List V → Hp → VK → Prop) (t : TA) : TE := fun σ H Q => σ[2]? = some (some mk) ∧ Pk H ∧ t σ H fun vs H1 => Pk H1 ∧ CM vs H1 Q
def spFoldG (K : PySem.W.Frag) (fa : Addr) (mk : V) (Pk : Hp → Prop) (CM : List V → Hp → VK → Prop) : List V → Hp → VK → Prop := fun vs H0 Q => ∃ v d Pd S St G, vs = [v, .ref fa, mk] ∧ (∀ H', Same (delS S H0) (delS S H') → Pk H') ∧ Pd d ∧ fsz d ≤ 5000 ∧ Dp K (delS S H0) v d ∧ St H0 ∧
  FoldP K Pd S H0 St G CM ∧ ∀ r H', Same (delS S H0) (delS S H') → St H' → G d r H' → (∀ d v, G d v H0 → G d v H') → Q r H'
theorem fold_body {f : Addr} {cdv : Value} {A : Around} {outer : List Env} {s : Shared} {H : Hp} {vs : List V} {Q : VK} {E : XK} {mk : V} {Pk : Hp → Prop} {CM : List V → Hp → VK → Prop} (hln : mg "len" = none) (FA : FnOk P w K mg base CX0 1 fa da ["term"] (spArgs K)) (bA : Binds K da ["term"] []) (kA : PySem.W.keepIn K (.ref fa) = true)
    (r1 : Room 1 (A.deeper (envOfC "folded" (defScope sFolded) s.heap.objs.size f cdv)))
    (hcall : ∀ {e1 e2 : Expr} {t : TA} {p pos : Pos}, PA (cxOf CX0 P w K mg base ["root", "children", "made", "done", "todo", "node", "below", "first", "told", "child"] "folded" (defScope sFolded) f cdv A outer s H E).nox [e1, e2] t →
      starEach [e1, e2] (envOfC "folded" (defScope sFolded) s.heap.objs.size f cdv) = (false, eval e1 (envOfC "folded" (defScope sFolded) s.heap.objs.size f cdv)) :: starEach [e2] (envOfC "folded" (defScope sFolded) s.heap.objs.size f cdv) →
      (backTo pos (starEach [e2] (envOfC "folded" (defScope sFolded) s.heap.objs.size f cdv))).any (·.1) = false →
      PE (cxOf CX0 P w K mg base ["root", "children", "made", "done", "todo", "node", "below", "first", "told", "child"] "folded" (defScope sFolded) f cdv A outer s H E).nox (.Call (.Name "made" p) [e1, e2] [] pos) (tMk mk Pk CM t))
    (h : spFoldG K fa mk Pk CM vs H Q) :
    ∃ t, PSs (cxOf CX0 P w K mg base ["root", "children", "made", "done", "todo", "node", "below", "first", "told", "child"] "folded" (defScope sFolded) f cdv A outer s H E).nox (defBody sFolded) t ∧ t { nx := fun _ H' => Q .non H', rt := Q } (start ["root", "children", "made", "done", "todo", "node", "below", "first", "told", "child"] vs) H := by
    obtain ⟨v, d0, Pd, S, St, G, rfl, pkK, hok, hsz, hd, hSt, FP, qq⟩ := h
    have nd := scFd.nd
    refine ⟨_, pss_cons (ps_set (i := 3) nd rfl (Or.inl rfl) (pe_lst pa_nil))
      (pss_cons (ps_set (i := 4) nd rfl (Or.inl rfl) (pe_lst (pa_cons (pe_tup (pa_cons (pv 0) (pa_cons pe_non pa_nil))) pa_nil)))
      (pss_cons (ps_while PassesOwn.never (pt_truth (pv 4) (by intro _; rfl))
        (pss_cons (ps_asg (pe_bm0 PySem.F.plainAttrs_list PySem.F.slot_list_pop PySem.F.type_list_pop mt_pop (pv 4)) (pg_tup rfl (pgs_cons (pg_name (i := 5) nd rfl (Or.inl rfl)) (pgs_cons (pg_name (i := 6) nd rfl (Or.inl rfl)) pgs_nil))))
        (pss_one (ps_if (pt_cmpR op_isN (pv 6) pe_non (nomark _))
          (pss_cons (ps_set (i := 6) nd rfl (Or.inl rfl) (pe_callL (i := 1) FA r1 rfl (Or.inl rfl) kA bA .nil pass0 (pa_cons (pv 5) pa_nil)))
          (pss_cons (ps_expr (pe_bm PySem.F.plainAttrs_list PySem.F.slot_list_append PySem.F.type_list_append mt_append (pv 4) (pa_cons (pe_tup (pa_cons (pv 5) (pa_cons (pv 6) pa_nil))) pa_nil)))
          (pss_one (ps_expr (pe_bm PySem.F.plainAttrs_list PySem.F.slot_list_extend PySem.F.type_list_extend mt_extend (pv 4) (pa_cons (pe_lc (own := [("child", 9)]) (g := gName 9) (tt := tYes) (te := tTup (tCons (tVar 9) (tCons (tC .non) tNil))) rfl nd (pi_list (pe_revL (pv 6)))
            (blkOk_by (N := ["root", "children", "made", "done", "todo", "node", "below", "first", "told", "child"]) (sc := defScope sFolded) (by decide +kernel)) (fun _ _ _ _ _ => pg_name (i := 9) nd rfl (Or.inl rfl)) (fun _ _ _ _ _ => pts_nil) (fun _ _ _ _ _ => pe_tup (pa_cons (pv 9) (pa_cons pe_non pa_nil)))) pa_nil))))))
          (pss_cons (ps_set (i := 7) nd rfl (Or.inl rfl) (pe_op op_sub (pe_callB call_len_seq (by rfl) hln PySem.boot_len (pa_cons (pv 3) pa_nil)) (pe_callB call_len_seq (by rfl) hln PySem.boot_len (pa_cons (pv 6) pa_nil))))
          (pss_cons (ps_set (i := 8) nd rfl (Or.inl rfl) (pe_slice sl_list (pv 3) (po_some (pv 7)) po_none))
          (pss_cons (ps_delT (pv 3) (po_some (pv 7)))
          (pss_one (ps_expr (pe_bm PySem.F.plainAttrs_list PySem.F.slot_list_append PySem.F.type_list_append mt_append (pv 3) (pa_cons (hcall (pa_cons (pv 5) (pa_cons (pv 8) pa_nil)) rfl rfl) pa_nil)))))))))))
      (pss_one (ps_ret (pe_ix ix_list (pv 3) pe_int fun _ _ => rfl))))), ?_⟩
    have big : (20000 : Nat) ≤ sizeLine := by decide
    refine ⟨Nat.zero_le _, fun ld hld => ?_⟩
    have s1 := same_upd (o := .lst []) hld
    refine ⟨_, rfl, (by show 2 ≤ sizeLine; decide), fun t0 ht0 => ⟨(by show 1 ≤ sizeLine; decide), fun lo hlo => ?_⟩⟩
    have ldt : ld ≠ t0 := fun z => by rw [← z, upd_same] at ht0; cases ht0
    have ldo : ld ≠ lo := fun z => by rw [← z, upd_ne ldt, upd_same] at hlo; cases hlo
    have t0o : t0 ≠ lo := fun z => by rw [← z, upd_same] at hlo; cases hlo
    have s2 := Same.trans s1 (same_upd (o := .tup [v, .non]) ht0)
    have s3 := Same.trans s2 (same_upd (o := .lst [.ref t0]) hlo)
    have hlo0 : H lo = none := Same.free s2 hlo
    have ht00 : H t0 = none := Same.free s1 ht0
    have out : ∀ {b : Addr}, H b = none → b ∉ S := fun {b} hb hS => by
      obtain ⟨o, e⟩ := FP.trk H hSt b hS
      rw [hb] at e
      cases e
    have ldS := out hld
    have loS := out hlo0
    have t0S := out ht00
    have al : ∀ H' H'', Same H' H'' → (Same (delS S H) (delS S H') ∧ St H' ∧ ∀ d v, G d v H → G d v H') → (Same (delS S H) (delS S H'') ∧ St H'' ∧ ∀ d v, G d v H → G d v H'') ∧ ∀ d v, G d v H' → G d v H'' := fun H' H'' s W => by
      obtain ⟨a1, a2⟩ := FP.alc H' H'' s W.2.1
      exact ⟨⟨Same.trans W.1 (delS_same s), a1, fun d v g => a2 d v (W.2.2 d v g)⟩, a2⟩
    have up : ∀ H' c ys zs, H c = none → H' c = some (.lst ys) → (Same (delS S H) (delS S H') ∧ St H' ∧ ∀ d v, G d v H → G d v H') → (Same (delS S H) (delS S (L2.upd H' c (.lst zs))) ∧ St (L2.upd H' c (.lst zs)) ∧ ∀ d v, G d v H → G d v (L2.upd H' c (.lst zs))) ∧ ∀ d v, G d v H' → G d v (L2.upd H' c (.lst zs)) := fun H' c ys zs hc hl W => by
      obtain ⟨a1, a2⟩ := FP.upl H' c ys zs (out hc) hl W.2.1
      refine ⟨⟨fun b o e => ?_, a1, fun d v g => a2 d v (W.2.2 d v g)⟩, a2⟩
      obtain ⟨e1, e2⟩ := delS_inv e
      rw [delS_of e1, upd_ne (ne_of_none e2 hc)]
      exact (delS_inv (W.1 b o e)).2
    have W0 := (al H _ s3 ⟨Same.refl _, hSt, fun _ _ g => g⟩).1
    refine ⟨fun m σ H' => ∃ tr I us D c5 c6 c7 c8, m = meas I ∧ σ = [some v, some (.ref fa), some mk, some (.ref ld), some (.ref lo), c5, c6, c7, c8, none] ∧ (Same (delS S H) (delS S H') ∧ St H' ∧ ∀ d v, G d v H → G d v H') ∧ H' ld = some (.lst us) ∧ H' lo = some (.lst tr.reverse) ∧ StkR K Pd (delS (ld :: lo :: S) H') tr I ∧ All2 (fun d v => G d v H') D us ∧ Exec I D [d0] ∧ D.length + meas I ≤ 10000,
      ⟨_, [.ref t0], [.op d0], [], [], none, none, none, none, rfl, rfl, W0, ?_, upd_same, ?_, .nil, .op .nil, ?_⟩, ?_⟩
    · rw [upd_ne ldo, upd_ne ldt, upd_same]
    · have hz : ∀ b, b ≠ ld → b ≠ lo → b ∉ S → b ∉ ld :: lo :: S := fun b h1 h2 h3 h => by
        simp only [List.mem_cons] at h
        rcases h with h | h | h
        · exact h1 h
        · exact h2 h
        · exact h3 h
      refine .op (by rw [delS_of (hz t0 ldt.symm t0o t0S), upd_ne t0o, upd_same]) (dp_same (fun b o e => ?_) _ _ hd) hok .nil
      obtain ⟨e1, e2⟩ := delS_inv e
      rw [delS_of (hz b (ne_of_none e2 hld) (ne_of_none e2 hlo0) e1)]
      exact s3 _ _ e2
    · show 0 + (2 * fsz d0 + 0) ≤ 10000
      omega
    · rintro m σ H0 ⟨tr, I, us, D, c5, c6, c7, c8, rfl, rfl, W, hL, hT, hK, hG, hE, hB⟩
      have itr := hK.len
      have iml := meas_len I
      have lus := hG.len
      refine ⟨_, rfl, !tr.reverse.isEmpty, .inl ⟨tr.reverse, SqL.of hT, rfl⟩, ?_⟩
      cases hK with
      | nil =>
        refine iteF ?_
        cases hE
        cases hG with
        | cons g1 g2 =>
          cases g2
          exact ⟨_, rfl, ld, _, 0, _, rfl, rfl, SqL.of hL, rfl, qq _ _ W.1 W.2.1 g1 W.2.2⟩
      | @op t vn d tr I k1 k2 k3 k4 =>
        rw [show (!(V.ref t :: tr).reverse.isEmpty) = true by simp]
        refine iteT ?_
        refine ⟨_, fun _ _ z => z, ?_⟩
        have hne : ((V.ref t :: tr).reverse)[(V.ref t :: tr).reverse.length - 1]? = some (.ref t) := by simp
        have hdl : (V.ref t :: tr).reverse.dropLast = tr.reverse := by simp
        obtain ⟨tS, ht⟩ := delS_inv k1
        have tlo : t ≠ lo := fun z => tS (by rw [z]; simp)
        refine ⟨_, rfl, .inl ⟨rfl, _, SqL.of hT⟩, lo, _, .ref t, rfl, rfl, hT, hne, ?_⟩
        rw [hdl]
        obtain ⟨W1, G1⟩ := up H0 lo _ tr.reverse hlo0 hT W
        have L1 : (L2.upd H0 lo (.lst tr.reverse)) ld = some (.lst us) := by rw [upd_ne ldo]; exact hL
        have T1 : (L2.upd H0 lo (.lst tr.reverse)) lo = some (.lst tr.reverse) := upd_same
        have t1 : (L2.upd H0 lo (.lst tr.reverse)) t = H0 t := upd_ne tlo
        have Z1 : delS (ld :: lo :: S) (L2.upd H0 lo (.lst tr.reverse)) = delS (ld :: lo :: S) H0 := delS_upd (by simp)
        have hG1 := hG.imp G1
        generalize (L2.upd H0 lo (.lst tr.reverse)) = H1 at W1 L1 T1 t1 Z1 hG1 ⊢
        rw [ht] at t1
        rw [← Z1] at k2 k4
        refine ⟨t, _, rfl, SqT.of t1, rfl, ?_⟩
        refine ⟨_, _, rfl, _, _, rfl, rfl, ?_⟩
        refine ⟨_, rfl, rfl, _, rfl, iteT ?_⟩
        obtain ⟨as, das, spA⟩ := args_of k2 (FP.sub d k3).1
        have las := dpAll_len das
        rw [meas] at hB
        have fz := fsz_args d
        have fl := fszs_len (argsD d)
        refine ⟨rfl, _, rfl, vn, rfl, args_or spA delS_sub fun lb H2 s2 hlb elb => ?_⟩
        obtain ⟨W2, G2⟩ := al H1 H2 s2 W1
        have hG2 := hG1.imp G2
        have L2' := s2 _ _ L1
        have T2 := s2 _ _ T1
        have sz2 : Same (delS (ld :: lo :: S) H1) (delS (ld :: lo :: S) H2) := delS_same s2
        have k2' := dp_same sz2 _ _ k2
        have k4' := k4.mono sz2
        have das2 := dpAll_same sz2 _ _ das
        have lbld : lb ≠ ld := fun z => by rw [z, L1] at hlb; cases hlb
        have lblo : lb ≠ lo := fun z => by rw [z, T1] at hlb; cases hlb
        have outW : ∀ {H' : Hp} {b : Addr}, St H' → H' b = none → b ∉ S := fun {H' b} st hb hS => by
          obtain ⟨o, e⟩ := FP.trk H' st b hS
          rw [hb] at e
          cases e
        have lbS := outW W1.2.1 hlb
        refine ⟨_, rfl, .inl ⟨rfl, _, SqL.of T2⟩, _, rfl, _, rfl, (by show 2 ≤ sizeLine; decide), fun t2 ht2 => ?_⟩
        have t2ld : t2 ≠ ld := fun z => by rw [z, L2'] at ht2; cases ht2
        have t2lo : t2 ≠ lo := fun z => by rw [z, T2] at ht2; cases ht2
        have t2S := outW W2.2.1 ht2
        have s3' := same_upd (o := .tup [vn, .ref lb]) ht2
        have e3 : (L2.upd H2 t2 (.tup [vn, .ref lb])) t2 = some (.tup [vn, .ref lb]) := upd_same
        obtain ⟨W3, G3⟩ := al H2 _ s3' W2
        have hG3 := hG2.imp G3
        have L3 := s3' _ _ L2'
        have T3 := s3' _ _ T2
        have elb3 := s3' _ _ elb
        have sz3 : Same (delS (ld :: lo :: S) H2) (delS (ld :: lo :: S) (L2.upd H2 t2 (.tup [vn, .ref lb]))) := delS_same s3'
        generalize (L2.upd H2 t2 (.tup [vn, .ref lb])) = H3 at s3' e3 W3 G3 hG3 L3 T3 elb3 sz3 ⊢
        have k2'' := dp_same sz3 _ _ k2'
        have k4'' := k4'.mono sz3
        have das3 := dpAll_same sz3 _ _ das2
        refine ⟨lo, _, .ref t2, rfl, rfl, T3, Nat.lt_of_lt_of_le (show tr.reverse.length < 20000 by rw [List.length_reverse]; have := k4.len; have := meas_len I; omega) big, ?_⟩
        obtain ⟨W4, G4⟩ := up H3 lo _ (tr.reverse ++ [.ref t2]) hlo0 T3 W3
        have hG4 := hG3.imp G4
        have L4 : (L2.upd H3 lo (.lst (tr.reverse ++ [.ref t2]))) ld = some (.lst us) := by rw [upd_ne ldo]; exact L3
        have T4 : (L2.upd H3 lo (.lst (tr.reverse ++ [.ref t2]))) lo = some (.lst (tr.reverse ++ [.ref t2])) := upd_same
        have e4 : (L2.upd H3 lo (.lst (tr.reverse ++ [.ref t2]))) t2 = some (.tup [vn, .ref lb]) := by rw [upd_ne t2lo]; exact e3
        have elb4 : (L2.upd H3 lo (.lst (tr.reverse ++ [.ref t2]))) lb = some (.lst as) := by rw [upd_ne lblo]; exact elb3
        have Z4 : delS (ld :: lo :: S) (L2.upd H3 lo (.lst (tr.reverse ++ [.ref t2]))) = delS (ld :: lo :: S) H3 := delS_upd (by simp)
        generalize (L2.upd H3 lo (.lst (tr.reverse ++ [.ref t2]))) = H4 at W4 hG4 L4 T4 e4 elb4 Z4 ⊢
        rw [← Z4] at k2'' k4'' das3
        have inZ : ∀ {b : Addr}, b ≠ ld → b ≠ lo → b ∉ S → b ∉ ld :: lo :: S := fun {b} h1 h2 h3 h => by
          simp only [List.mem_cons] at h
          rcases h with h | h | h
          · exact h1 h
          · exact h2 h
          · exact h3 h
        have stk4 : StkR K Pd (delS (ld :: lo :: S) H4) (.ref t2 :: tr) (.cl d :: I) := .cl (by rw [delS_of (inZ t2ld t2lo t2S)]; exact e4) k2'' k3 (by rw [delS_of (inZ lbld lblo lbS)]; exact elb4) las k4''
        refine ⟨_, rfl, .inl ⟨rfl, _, SqL.of T4⟩, _, rfl, lb, _, rfl, SqL.of elb4, fun p1 hp1 => ?_⟩
        have s5 := same_upd (o := .lst as.reverse) hp1
        have e5 : (L2.upd H4 p1 (.lst as.reverse)) p1 = some (.lst as.reverse) := upd_same
        obtain ⟨W5, G5⟩ := al H4 _ s5 W4
        have hG5 := hG4.imp G5
        have L5 := s5 _ _ L4
        have T5 := s5 _ _ T4
        have sz5 : Same (delS (ld :: lo :: S) H4) (delS (ld :: lo :: S) (L2.upd H4 p1 (.lst as.reverse))) := delS_same s5
        generalize (L2.upd H4 p1 (.lst as.reverse)) = H5 at s5 e5 W5 hG5 L5 T5 sz5 ⊢
        have das5 := dpAll_same sz5 _ _ das3
        have stk5 := stk4.mono sz5
        have das5r : ∀ (i : Nat) (y : V), as.reverse[i]? = some y → ∃ e, (argsD d).reverse[i]? = some e ∧ Dp K (delS (ld :: lo :: S) H5) y e := fun i y e => by
          have hi : i < as.length := by
            have := (List.getElem?_eq_some_iff.mp e).1
            simpa using this
          rw [List.getElem?_reverse hi] at e
          obtain ⟨e', h1, h2⟩ := dpAll_get' das5 e
          refine ⟨e', ?_, h2⟩
          rw [List.getElem?_reverse (by omega), ← las]
          exact h1
        refine ⟨p1, rfl, ⟨_, SqL.of e5⟩, fun D1 hD1 => ?_⟩
        have D1ld : D1 ≠ ld := fun z => by rw [z, L5] at hD1; cases hD1
        have D1lo : D1 ≠ lo := fun z => by rw [z, T5] at hD1; cases hD1
        refine lc_it (walk_list (xs := as.reverse)) (fun i H' => ∃ ks, Same H5 H' ∧ H' D1 = some (.lst ks) ∧ ks.length = i ∧ StkR K Pd (delS (D1 :: ld :: lo :: S) H') ks.reverse (((argsD d).reverse.take i).reverse.map .op))
          ⟨[], same_upd hD1, upd_same, rfl, .nil⟩ (fun i H' hi hp => by obtain ⟨_, sm, _⟩ := hp; exact SqL.of (sm _ _ e5)) (fun i y H5' H' hi hp hy => ?_) (fun H6 hp => ?_)
        · obtain ⟨ks, sm, hD, hl, hst⟩ := hp
          obtain ⟨rfl, ey⟩ := hy
          obtain ⟨e, he, hye⟩ := das5r i y ey
          have hi' : i < as.length := by simpa using hi
          refine ⟨rfl, lcYes ?_⟩
          refine ⟨_, rfl, (by show 2 ≤ sizeLine; decide), fun tk htk => ?_⟩
          have tkD : tk ≠ D1 := fun z => by rw [z, hD] at htk; cases htk
          have tkld : tk ≠ ld := fun z => by rw [z, sm _ _ L5] at htk; cases htk
          have tklo : tk ≠ lo := fun z => by rw [z, sm _ _ T5] at htk; cases htk
          have st' := (al H5 _ sm W5).1.2.1
          have tkS := outW st' htk
          have sk := same_upd (o := .tup [y, .non]) htk
          refine ⟨ks, sk _ _ hD, Nat.lt_of_lt_of_le (show ks.length < 20000 by omega) big, ks ++ [.ref tk], ?_, upd_same, by rw [List.length_append, hl]; rfl, ?_⟩
          · intro b o e'
            have := sm b o e'
            rw [upd_ne (ne_of_none e' hD1)]
            exact sk _ _ this
          · rw [List.reverse_append, List.take_succ, he]
            rw [delS_upd (by simp)]
            have kz : tk ∉ D1 :: ld :: lo :: S := fun h => by
              rcases List.mem_cons.mp h with h | h
              · exact tkD h
              · exact inZ tkld tklo tkS h
            rw [show (List.take i (argsD d).reverse ++ (some e).toList).reverse = e :: (List.take i (argsD d).reverse).reverse by simp]
            refine .op (by rw [delS_of kz, upd_same]) (dp_same (fun b o e' => ?_) _ _ hye) ((FP.sub d k3).2 e ?_) (hst.mono (delS_same sk))
            · obtain ⟨z1, z2⟩ := delS_inv e'
              have bD : b ≠ D1 := ne_of_none z2 hD1
              rw [delS_of (fun h => by
                rcases List.mem_cons.mp h with h | h
                · exact bD h
                · exact z1 h)]
              exact sk _ _ (sm _ _ z2)
            · exact List.mem_reverse.mp (List.mem_of_getElem? he)
        · obtain ⟨ks, sm, hD, hl, hst⟩ := hp
          have lk : ks.length = as.length := by simpa using hl
          obtain ⟨W6, G6⟩ := al H5 H6 sm W5
          have hG6 := hG5.imp G6
          have L6 := sm _ _ L5
          have T6 := sm _ _ T5
          refine ⟨lo, D1, _, ks, rfl, rfl, T6, hD, Nat.le_trans (show (tr.reverse ++ [V.ref t2]).length + ks.length ≤ 20000 by rw [List.length_append, List.length_reverse, List.length_singleton]; have := k4.len; have := meas_len I; omega) big, ?_⟩
          obtain ⟨W7, G7⟩ := up H6 lo _ (tr.reverse ++ [.ref t2] ++ ks) hlo0 T6 W6
          have er : (List.take as.reverse.length (argsD d).reverse).reverse = argsD d := by
            rw [List.take_of_length_le (by rw [List.length_reverse, List.length_reverse]; omega), List.reverse_reverse]
          rw [er] at hst
          refine ⟨meas ((argsD d).map .op ++ .cl d :: I), ?_, ks.reverse ++ .ref t2 :: tr, (argsD d).map .op ++ .cl d :: I, us, D, _, _, _, _, rfl, rfl, W7, (by rw [upd_ne ldo]; exact L6), (by rw [upd_same]; simp), ?_, hG6.imp G7, exec_ops _ _ (.cl (by cases hE with | op h => exact h)), ?_⟩
          · rw [meas_ops, meas, meas]
            omega
          · rw [delS_upd (by simp)]
            refine (hst.mono (delS_less fun b hb => List.mem_cons_of_mem _ hb)).app (stk5.mono (delS_same sm))
          · rw [meas_ops, meas]
            omega
      | @cl t b vn bs d tr I k1 k2 k3 k4 k5 k6 =>
        rw [show (!(V.ref t :: tr).reverse.isEmpty) = true by simp]
        refine iteT ?_
        refine ⟨_, fun _ _ z => z, ?_⟩
        have hne : ((V.ref t :: tr).reverse)[(V.ref t :: tr).reverse.length - 1]? = some (.ref t) := by simp
        have hdl : (V.ref t :: tr).reverse.dropLast = tr.reverse := by simp
        obtain ⟨tS, ht⟩ := delS_inv k1
        have tlo : t ≠ lo := fun z => tS (by rw [z]; simp)
        refine ⟨_, rfl, .inl ⟨rfl, _, SqL.of hT⟩, lo, _, .ref t, rfl, rfl, hT, hne, ?_⟩
        rw [hdl]
        obtain ⟨W1, G1⟩ := up H0 lo _ tr.reverse hlo0 hT W
        have L1 : (L2.upd H0 lo (.lst tr.reverse)) ld = some (.lst us) := by rw [upd_ne ldo]; exact hL
        have T1 : (L2.upd H0 lo (.lst tr.reverse)) lo = some (.lst tr.reverse) := upd_same
        have t1 : (L2.upd H0 lo (.lst tr.reverse)) t = H0 t := upd_ne tlo
        have Z1 : delS (ld :: lo :: S) (L2.upd H0 lo (.lst tr.reverse)) = delS (ld :: lo :: S) H0 := delS_upd (by simp)
        have hG1 := hG.imp G1
        generalize (L2.upd H0 lo (.lst tr.reverse)) = H1 at W1 L1 T1 t1 Z1 hG1 ⊢
        rw [ht] at t1
        rw [← Z1] at k2 k4 k6
        obtain ⟨bS, hb⟩ := delS_inv k4
        have blo : b ≠ lo := fun z => bS (by rw [z]; simp)
        have ldb : ld ≠ b := fun z => bS (by rw [z]; simp)
        refine ⟨t, _, rfl, SqT.of t1, rfl, ?_⟩
        refine ⟨_, _, rfl, _, _, rfl, rfl, ?_⟩
        refine ⟨_, rfl, rfl, _, rfl, iteF ?_⟩
        rw [meas] at hB
        have fz := fsz_args d
        cases hE with
        | @cl d I D F hE' =>
          rw [List.length_append] at hB lus
          obtain ⟨gl, gr⟩ := hG1.split
          refine ⟨_, rfl, ld, us, rfl, .inl (SqL.of L1), _, rfl, b, bs, rfl, .inl (SqL.of hb), _, _, rfl, rfl, ?_⟩
          have ek : (us.length : Int) - (bs.length : Int) = ((D.length : Nat) : Int) := by omega
          refine ⟨_, rfl, _, rfl, (us.length : Int) - (bs.length : Int), rfl, ld, us, rfl, SqL.of L1, fun p1 hp1 => ?_⟩
          rw [show cutV us (some ((us.length : Int) - (bs.length : Int))) none = us.drop D.length by rw [ek]; exact cut_fromV us D.length]
          have s5 := same_upd (o := .lst (us.drop D.length)) hp1
          have e5 : (L2.upd H1 p1 (.lst (us.drop D.length))) p1 = some (.lst (us.drop D.length)) := upd_same
          have p1ld : p1 ≠ ld := fun z => by rw [z, L1] at hp1; cases hp1
          have p1lo : p1 ≠ lo := fun z => by rw [z, T1] at hp1; cases hp1
          have p1S : p1 ∉ S := fun hS => by
            obtain ⟨o, e⟩ := FP.trk H1 W1.2.1 p1 hS
            rw [hp1] at e
            cases e
          obtain ⟨W5, G5⟩ := al H1 _ s5 W1
          have gl5 := gl.imp G5
          have gr5 := gr.imp G5
          have L5 := s5 _ _ L1
          have T5 := s5 _ _ T1
          have sz5 : Same (delS (ld :: lo :: S) H1) (delS (ld :: lo :: S) (L2.upd H1 p1 (.lst (us.drop D.length)))) := delS_same s5
          generalize (L2.upd H1 p1 (.lst (us.drop D.length))) = H5 at s5 e5 W5 gl5 gr5 L5 T5 sz5 ⊢
          refine ⟨_, rfl, _, rfl, (us.length : Int) - (bs.length : Int), rfl, ld, us, D.length, rfl, congrArg some ek, L5, by omega, ?_⟩
          obtain ⟨W6, G6⟩ := up H5 ld _ (us.take D.length) hld L5 W5
          have gl6 := gl5.imp G6
          have gr6 := gr5.imp G6
          have L6 : (L2.upd H5 ld (.lst (us.take D.length))) ld = some (.lst (us.take D.length)) := upd_same
          have T6 : (L2.upd H5 ld (.lst (us.take D.length))) lo = some (.lst tr.reverse) := by rw [upd_ne ldo.symm]; exact T5
          have e6 : (L2.upd H5 ld (.lst (us.take D.length))) p1 = some (.lst (us.drop D.length)) := by rw [upd_ne p1ld]; exact e5
          have Z6 : delS (ld :: lo :: S) (L2.upd H5 ld (.lst (us.take D.length))) = delS (ld :: lo :: S) H5 := delS_upd (by simp)
          generalize (L2.upd H5 ld (.lst (us.take D.length))) = H6 at W6 gl6 gr6 L6 T6 e6 Z6 ⊢
          have k2' := dp_same sz5 _ _ k2
          have k6' := k6.mono sz5
          rw [← Z6] at k2' k6'
          have q6 : Pk H6 := pkK H6 W6.1
          refine ⟨_, rfl, .inl ⟨rfl, _, SqL.of L6⟩, rfl, q6, _, rfl, _, rfl, q6, ?_⟩
          refine FP.made d vn p1 (us.drop D.length) H6 _ W6.1 W6.2.1 k3 (dp_same (delS_less fun b hb => List.mem_cons_of_mem _ (List.mem_cons_of_mem _ hb)) _ _ k2') p1S e6 gr6 fun r H7 s7 st7 g7 gd => ?_
          have L7 : H7 ld = some (.lst (us.take D.length)) := (delS_inv (s7 ld _ (by rw [delS_of ldS]; exact L6))).2
          have T7 : H7 lo = some (.lst tr.reverse) := (delS_inv (s7 lo _ (by rw [delS_of loS]; exact T6))).2
          have W7 : Same (delS S H) (delS S H7) ∧ St H7 ∧ ∀ d v, G d v H → G d v H7 := ⟨Same.trans W6.1 s7, st7, fun d v h => g7 d v (W6.2.2 d v h)⟩
          refine ⟨ld, _, r, rfl, rfl, L7, Nat.lt_of_lt_of_le (show (us.take D.length).length < 20000 by rw [List.length_take]; omega) big, ?_⟩
          obtain ⟨W8, G8⟩ := up H7 ld _ (us.take D.length ++ [r]) hld L7 W7
          refine ⟨meas I, by rw [meas]; omega, tr, I, us.take D.length ++ [r], D ++ [d], _, _, _, _, rfl, rfl, W8, upd_same, (by rw [upd_ne ldo.symm]; exact T7), ?_, ((gl6.imp g7).imp G8).app (.cons (G8 _ _ gd) .nil), hE', ?_⟩
          · rw [delS_upd (by simp)]
            exact k6'.mono (delS_in (fun b hb => List.mem_cons_of_mem _ (List.mem_cons_of_mem _ hb)) s7)
          · rw [List.length_append, List.length_singleton]
            omega
variable {g : Addr} {sp : Sp} {k : Nat}
theorem ok_folded {f : Addr} {fd : FuncData} (F : Fun K "folded" "folded" sFolded f fd) (hln : mg "len" = none) (FA : FnOk P w K mg base CX0 1 fa da ["term"] (spArgs K)) (bA : Binds K da ["term"] []) (kA : PySem.W.keepIn K (.ref fa) = true)
    (FG : FnR P w K mg base CX0 (k + 1) g sp) (hg : PySem.W.fnIn K g = true) : FnOk P w K mg base CX0 (k + 2) f fd ["root", "children", "made"] (spFold K fa g sp) := by
  refine F.ok scFd (fun vs H Q E h => ?_) (fun cdv A outer s H vs Q E hr h => ?_)
  · obtain ⟨v, q, a, d, Pd, S, St, G, rfl, _⟩ := h
    rfl
  · obtain ⟨v, q, a, d, Pd, S, St, G, rfl, hq, hqS, hok, hsz, hd, hSt, FP, qq⟩ := h
    refine fold_body (mk := .ref q) (Pk := fun H' => H' q = some (.met g a)) (CM := fun vs H' Q' => sp (.ref a :: vs) H' Q' E0) hln FA bA kA (hr.mono (by omega)) (fun {e1 e2 t p pos} ha he hpl => ?_)
      ⟨v, d, Pd, S, St, G, rfl, fun H' sm => (delS_inv (sm q _ (by rw [delS_of hqS]; exact hq))).2, hok, hsz, hd, hSt, FP, qq⟩
    have z := pe_callM (i := 2) (x := "made") (p := p) (pos := pos) FG (hr.mono (by omega)) hg rfl (Or.inl rfl) pass0 ha (he := he) (hpl := hpl)
    refine ⟨fun pins s1 σ H1 Q1 I h1 => z.run pins s1 σ H1 Q1 I ?_⟩
    obtain ⟨m1, m2, m3⟩ := h1
    exact ⟨q, a, m1, m2, m3⟩
end
end Sg

set_option maxRecDepth 100000
set_option maxHeartbeats 8000000
namespace Sg
open PySem PySem.Spec PyProof.Rows L2 Dr Gd Er Cm LD CM
/-! terms by number: what is in the tables, without the heap -/
mutual
def okN (U : Str → Bool) : PyData → Bool
  | .str z => U z
  | .tuple (.str h :: r) => !U h && okNs U r
  | _ => false
def okNs (U : Str → Bool) : List PyData → Bool
  | [] => true
  | d :: r => okN U d && okNs U r
end
theorem okN_case {U : Str → Bool} {d : PyData} (h : okN U d = true) : (∃ z, d = .str z ∧ U z = true) ∨ ∃ z r, d = .tuple (.str z :: r) ∧ U z = false ∧ okNs U r = true := by
  cases d with
  | str z => rw [okN] at h; exact .inl ⟨z, rfl, h⟩
  | tuple ds =>
    cases ds with
    | nil => simp [okN] at h
    | cons e r =>
      cases e with
      | str z =>
        rw [okN, Bool.and_eq_true] at h
        exact .inr ⟨z, r, rfl, by simpa using h.1, h.2⟩
      | _ => simp [okN] at h
  | _ => simp [okN] at h
theorem okNs_mem {U : Str → Bool} : ∀ {ds : List PyData}, okNs U ds = true → ∀ d ∈ ds, okN U d = true
  | [], _, d, hd => by cases hd
  | e :: r, h, d, hd => by
    rw [okNs, Bool.and_eq_true] at h
    rcases List.mem_cons.mp hd with rfl | hd
    · exact h.1
    · exact okNs_mem h.2 d hd
theorem okN_args {U : Str → Bool} {d : PyData} (h : okN U d = true) : okNs U (argsD d) = true := by
  rcases okN_case h with ⟨z, rfl, _⟩ | ⟨z, r, rfl, _, h2⟩
  · rfl
  · exact h2
mutual
theorem okN_F {U : Str → Bool} : ∀ d : PyData, okN U d = true → okF d = true
  | .str z, _ => by simp [okF]
  | .tuple [], h => by simp [okN] at h
  | .tuple (e :: r), h => by
    rcases okN_case h with ⟨z, e, _⟩ | ⟨z, r', e, _, h2⟩
    · cases e
    · injection e with e
      injection e with e1 e2
      subst e2
      rw [okF]
      exact okNs_F r h2
  | .none, h => by simp [okN] at h
  | .bool _, h => by simp [okN] at h
  | .int _, h => by simp [okN] at h
  | .list _, h => by simp [okN] at h
  | .dict _, h => by simp [okN] at h
theorem okNs_F {U : Str → Bool} : ∀ ds : List PyData, okNs U ds = true → okFs ds = true
  | [], _ => by simp [okFs]
  | d :: r, h => by
    rw [okNs, Bool.and_eq_true] at h
    rw [okFs, okN_F d h.1, okNs_F r h.2]
    rfl
end
def headV : PyData → V
  | .tuple (.str h :: _) => .str h
  | _ => .non
def nK (n : Nat) : Key := .inl (n : Int)
def keyN : PyData → List Nat → List Key
  | .str z, _ => [.inr z]
  | .tuple (.str h :: _), ns => .inr h :: ns.map nK
  | _, _ => []
/-- ns are the numbers of ds -/
def NumL (Ts : List PyData) (ns : List Nat) (ds : List PyData) : Prop := ns.map (fun n => Ts[n]?) = ds.map some
theorem NumL.app {Ts Us : List PyData} : ∀ {ns : List Nat} {ds : List PyData}, NumL Ts ns ds → NumL (Ts ++ Us) ns ds
  | [], ds, h => by cases ds with
    | nil => rfl
    | cons d ds => cases h
  | n :: ns, ds, h => by cases ds with
    | nil => cases h
    | cons d ds =>
      have h : Ts[n]? :: ns.map (fun n => Ts[n]?) = some d :: ds.map some := h
      injection h with h1 h2
      show (Ts ++ Us)[n]? :: ns.map (fun n => (Ts ++ Us)[n]?) = some d :: ds.map some
      rw [show ns.map (fun n => (Ts ++ Us)[n]?) = ds.map some from NumL.app (Us := Us) h2]
      have hn : n < Ts.length := (List.getElem?_eq_some_iff.mp h1).1
      rw [List.getElem?_append_left hn, h1]
theorem NumL.lt {Ts : List PyData} : ∀ {ns : List Nat} {ds : List PyData}, NumL Ts ns ds → ∀ n ∈ ns, n < Ts.length
  | [], ds, _, n, hn => by cases hn
  | m :: ns, ds, h, n, hn => by cases ds with
    | nil => cases h
    | cons d ds =>
      have h : Ts[m]? :: ns.map (fun n => Ts[n]?) = some d :: ds.map some := h
      injection h with h1 h2
      rcases List.mem_cons.mp hn with rfl | hn
      · exact (List.getElem?_eq_some_iff.mp h1).1
      · exact NumL.lt (ds := ds) h2 n hn
theorem NumL.inj {Ts : List PyData} {ns : List Nat} {ds es : List PyData} (h : NumL Ts ns ds) (g : NumL Ts ns es) : ds = es := by
  have : ds.map some = es.map some := h.symm.trans g
  exact (List.map_inj_right (fun a b e => Option.some.inj e)).mp this
theorem nodup_at {α : Type} {l : List α} (nd : l.Nodup) {i j : Nat} {a : α} (h1 : l[i]? = some a) (h2 : l[j]? = some a) : i = j := by
  exact (List.getElem?_inj (List.getElem?_eq_some_iff.mp h1).1 nd).mp (h1.trans h2.symm)
theorem NumL.uniq {Ts : List PyData} (nd : Ts.Nodup) : ∀ {ns ms : List Nat} {ds : List PyData}, NumL Ts ns ds → NumL Ts ms ds → ns = ms
  | [], ms, ds, h, g => by cases ds with
    | nil => cases ms with
      | nil => rfl
      | cons m ms => cases g
    | cons d ds => cases h
  | n :: ns, ms, ds, h, g => by cases ds with
    | nil => cases h
    | cons d ds => cases ms with
      | nil => cases g
      | cons m ms =>
        have h : Ts[n]? :: ns.map (fun n => Ts[n]?) = some d :: ds.map some := h
        have g : Ts[m]? :: ms.map (fun n => Ts[n]?) = some d :: ds.map some := g
        injection h with h1 h2
        injection g with g1 g2
        rw [nodup_at nd h1 g1, NumL.uniq nd (ds := ds) h2 g2]
theorem key_inj {U : Str → Bool} {Ts : List PyData} {d e : PyData} {ns ms : List Nat} (hd : okN U d = true) (he : okN U e = true) (h : NumL Ts ns (argsD d)) (g : NumL Ts ms (argsD e)) (k : keyN d ns = keyN e ms) : d = e := by
  rcases okN_case hd with ⟨z, rfl, hz⟩ | ⟨z, r, rfl, hz, hr⟩ <;> rcases okN_case he with ⟨y, rfl, hy⟩ | ⟨y, s, rfl, hy, hs⟩
  · have k : [(Sum.inr z : Key)] = [.inr y] := k
    injection k with k
    injection k with k
    rw [k]
  · have k : [(Sum.inr z : Key)] = (Sum.inr y : Key) :: ms.map nK := k
    injection k with k
    injection k with k
    rw [k, hy] at hz
    cases hz
  · have k : ((Sum.inr z : Key) :: ns.map nK) = [(Sum.inr y : Key)] := k
    injection k with k
    injection k with k
    rw [k, hy] at hz
    cases hz
  · have k : ((Sum.inr z : Key) :: ns.map nK) = .inr y :: ms.map nK := k
    injection k with k1 k2
    injection k1 with k1
    have e2 : ns = ms := (List.map_inj_right (fun a b e => by have e : (Sum.inl (a : Int) : Key) = .inl (b : Int) := e; injection e with e; omega)).mp k2
    subst e2
    have : r = s := h.inj g
    rw [k1, this]
/-- the tables -/
structure WfN (U : Str → Bool) (Ts : List PyData) (Ns : List (List Nat)) : Prop where
  len : Ns.length = Ts.length
  nd : Ts.Nodup
  ok : ∀ d ∈ Ts, okN U d = true
  num : ∀ (i : Nat) (d : PyData) (ns : List Nat), Ts[i]? = some d → Ns[i]? = some ns → NumL Ts ns (argsD d) ∧ ∀ n ∈ ns, n < i
def knownF : List PyData → List (List Nat) → Nat → List (List Key × V)
  | d :: Ts, ns :: Ns, i => (keyN d ns, .int (i : Int)) :: knownF Ts Ns (i + 1)
  | _, _, _ => []
theorem known_len : ∀ (Ts : List PyData) (Ns : List (List Nat)) (i : Nat), (knownF Ts Ns i).length ≤ Ts.length
  | [], _, _ => by simp [knownF]
  | _ :: _, [], _ => by simp [knownF]
  | d :: Ts, ns :: Ns, i => by
    have := known_len Ts Ns (i + 1)
    rw [knownF, List.length_cons, List.length_cons]
    omega
theorem known_app : ∀ (Ts : List PyData) (Ns : List (List Nat)) (i : Nat) (d : PyData) (ns : List Nat), Ns.length = Ts.length → knownF (Ts ++ [d]) (Ns ++ [ns]) i = knownF Ts Ns i ++ [(keyN d ns, .int ((i + Ts.length : Nat) : Int))]
  | [], [], i, d, ns, _ => rfl
  | [], _ :: _, _, _, _, h => by cases h
  | _ :: _, [], _, _, _, h => by cases h
  | e :: Ts, ms :: Ns, i, d, ns, h => by
    show (keyN e ms, V.int (i : Int)) :: knownF (Ts ++ [d]) (Ns ++ [ns]) (i + 1) = _
    rw [known_app Ts Ns (i + 1) d ns (by simpa using h)]
    show _ = (keyN e ms, V.int (i : Int)) :: (knownF Ts Ns (i + 1) ++ [(keyN d ns, V.int ((i + (Ts.length + 1) : Nat) : Int))])
    rw [show i + (Ts.length + 1) = i + 1 + Ts.length by omega]
theorem known_val (k : List Key) : ∀ (Ts : List PyData) (Ns : List (List Nat)) (i : Nat), Ns.length = Ts.length →
    (∃ (j : Nat) (d : PyData) (ns : List Nat), Ts[j]? = some d ∧ Ns[j]? = some ns ∧ keyN d ns = k ∧ valV (knownF Ts Ns i) k = some (.int ((i + j : Nat) : Int))) ∨ ((∀ (j : Nat) (d : PyData) (ns : List Nat), Ts[j]? = some d → Ns[j]? = some ns → keyN d ns ≠ k) ∧ valV (knownF Ts Ns i) k = none)
  | [], [], i, _ => .inr ⟨fun j d ns h => by simp at h, rfl⟩
  | [], _ :: _, _, h => by cases h
  | _ :: _, [], _, h => by cases h
  | e :: Ts, ms :: Ns, i, h => by
    by_cases he : keyN e ms = k
    · exact .inl ⟨0, e, ms, rfl, rfl, he, by rw [knownF, valV_pos he]; rfl⟩
    · rw [knownF, valV_neg he]
      rcases known_val k Ts Ns (i + 1) (by simpa using h) with ⟨j, d, ns, h1, h2, h3, h4⟩ | ⟨h1, h2⟩
      · exact .inl ⟨j + 1, d, ns, h1, h2, h3, by rw [h4, show i + (j + 1) = i + 1 + j by omega]⟩
      · refine .inr ⟨fun j d ns a b => ?_, h2⟩
        cases j with
        | zero =>
          cases a
          cases b
          exact he
        | succ j => exact h1 j d ns a b
/-- a term's number is found by its key, if it has one -/
theorem known_at {U : Str → Bool} {Ts : List PyData} {Ns : List (List Nat)} (W : WfN U Ts Ns) {d : PyData} {ns : List Nat} (hd : okN U d = true) (hn : NumL Ts ns (argsD d)) :
    (∃ j : Nat, Ts[j]? = some d ∧ valV (knownF Ts Ns 0) (keyN d ns) = some (.int (j : Int))) ∨ (d ∉ Ts ∧ valV (knownF Ts Ns 0) (keyN d ns) = none) := by
  rcases known_val (keyN d ns) Ts Ns 0 W.len with ⟨j, e, ms, h1, h2, h3, h4⟩ | ⟨h1, h2⟩
  · have := key_inj (W.ok e (List.mem_of_getElem? h1)) hd (W.num j e ms h1 h2).1 hn h3
    subst this
    rw [Nat.zero_add] at h4
    exact .inl ⟨j, h1, h4⟩
  · refine .inr ⟨fun hm => ?_, h2⟩
    obtain ⟨j, hj, e⟩ := List.getElem_of_mem hm
    have a : Ts[j]? = some d := by rw [List.getElem?_eq_getElem hj, e]
    have hj2 : j < Ns.length := by rw [W.len]; exact hj
    have b : Ns[j]? = some Ns[j] := List.getElem?_eq_getElem hj2
    have := NumL.uniq W.nd (W.num j d _ a b).1 hn
    exact h1 j d _ a b (by rw [this])
theorem WfN.push {U : Str → Bool} {Ts : List PyData} {Ns : List (List Nat)} (W : WfN U Ts Ns) {d : PyData} {ns : List Nat} (hd : okN U d = true) (hn : NumL Ts ns (argsD d)) (no : d ∉ Ts) : WfN U (Ts ++ [d]) (Ns ++ [ns]) where
  len := by rw [List.length_append, List.length_append, W.len]; rfl
  nd := by
    rw [List.nodup_append]
    refine ⟨W.nd, by simp, fun a ha b hb e => ?_⟩
    rw [List.mem_singleton.mp hb] at e
    exact no (e ▸ ha)
  ok := fun e he => by
    rcases List.mem_append.mp he with he | he
    · exact W.ok e he
    · rw [List.mem_singleton.mp he]; exact hd
  num := fun i e ms h1 h2 => by
    rcases Nat.lt_or_ge i Ts.length with hi | hi
    · rw [List.getElem?_append_left hi] at h1
      rw [List.getElem?_append_left (by rw [W.len]; exact hi)] at h2
      obtain ⟨a, b⟩ := W.num i e ms h1 h2
      exact ⟨a.app, b⟩
    · rw [List.getElem?_append_right hi] at h1
      rw [List.getElem?_append_right (by rw [W.len]; exact hi), W.len] at h2
      obtain ⟨k, hk⟩ : ∃ k, i - Ts.length = k := ⟨_, rfl⟩
      rw [hk] at h1 h2
      cases k with
      | zero =>
        cases h1
        cases h2
        exact ⟨hn.app, fun n hm => by have := hn.lt n hm; omega⟩
      | succ k => simp at h1
end Sg

set_option maxRecDepth 100000
set_option maxHeartbeats 4000000
/-! tuple(list), the new tuple known; a method of a tuple that is known -/
namespace TF
open PySem PySem.Spec PyProof.Rows L2
/-- a tuple whose object is known to have no dict of its own -/
def KT (H : Hp) (a : Addr) (xs : List V) : Prop := ∃ o : Obj, o.dict = none ∧ H a = some (.frz o (.tup xs))
theorem KT.sq {K : PySem.W.Frag} {H : Hp} {a : Addr} {xs : List V} (h : KT H a xs) : SqT K H a xs := by
  obtain ⟨o, _, e⟩ := h
  exact .inl (.inr ⟨o, e⟩)
theorem KT.same {H H' : Hp} {a : Addr} {xs : List V} (h : KT H a xs) (s : ∀ b o, H b = some o → H' b = some o) : KT H' a xs := by
  obtain ⟨o, h1, e⟩ := h
  exact ⟨o, h1, s _ _ e⟩
variable {X : Cx}
theorem call_tuple_ofF : CallR X (.type "tuple") (fun xs H Q => ∃ p ys, xs = [.ref p] ∧ SqL X.K H p ys ∧ ∀ (l : Addr) (o : Obj), H l = none → o.dict = none → Q (.ref l) (upd H l (.frz o (.tup ys)))) := fun pins s σ H xs us Q I r => by
  rintro ⟨p, ys, rfl, seq, q⟩
  obtain ⟨u, rfl, ru⟩ := Vals.one r
  cases ru
  obtain ⟨cells, rel, pl, sz⟩ := I.list seq
  have few : cells.toArray.size ≤ sizeLine := by rw [List.size_toArray, ← rel.length]; exact sz
  refine call_tuple_list pl.isList (fun h1 keep => ?_) few
  have J : Inv X pins σ H { s with heap := h1 } := I.kept (t' := s.toks) keep
  have ok : ObjOk X.prog X.w (upd H h1.objs.size (.frz { cls := .type "tuple", data := .seq cells.toArray } (.tup ys))) (h1.push { cls := .type "tuple", data := .seq cells.toArray }) h1.objs.size (.frz { cls := .type "tuple", data := .seq cells.toArray } (.tup ys)) :=
    ⟨Heap.get?_push_size _ rfl, sz, cells, rel, IsTup.new _ _⟩
  exact ⟨.ref h1.objs.size, _, J.laid (t' := s.toks) (fun _ _ => Heap.get?_push_of_some _) (Nat.le_refl _) ok, rfl, q _ _ (J.hok.fresh (Nat.le_refl _)) rfl⟩
def tBMF (r : V → List V → Hp → VK → Prop) (to : TE) (t : TA) : TE := fun σ H Q => to σ H fun x H1 => (∃ p ys, x = .ref p ∧ KT H1 p ys) ∧ t σ H1 fun xs H2 => r x xs H2 Q
section
variable {o e : Expr} {es : List Expr} {to : TE} {t : TA} {name : Str} {apos cpos : Pos} {id : String} {r : V → List V → Hp → VK → Prop}
theorem pe_bmF (pa : PlainAttrs "tuple") (slot : Slot "tuple" name id) (hty : typeOf (.builtin id) = pure (.type "method_descriptor")) (hm : MtR X id r) (ho : PE X o to) (ha : PA X (e :: es) t)
    (hbase : attributeBase o name X.env (eval o X.env) = eval o X.env := by rfl)
    (hfew : ((backTo cpos (starEach (e :: es) X.env)).all (fun x => !x.1) && (backToKw cpos (keywordEach [] X.env)).all (fun x => x.1.isSome)
      && decide ((e :: es).length + ([] : List Keyword).length + (if ([] : List Keyword).isEmpty then 0 else 1) < 30)) = true := by rfl)
    (hline : (apos.endLine == cpos.line) = true := by rfl) (hs : starEach (e :: es) X.env = (false, eval e X.env) :: starEach es X.env := by rfl) (hplain : (backTo cpos (starEach es X.env)).any (·.1) = false := by rfl) :
    PE X (.Call (.Attribute o name apos) (e :: es) [] cpos) (tBMF r to t) := by
  refine ⟨fun pins s σ H Q I h => ?_⟩
  refine wpAny_Call_method_late hbase hfew hline rfl (thn (ho.run pins s σ H _ I h) fun v s1 ⟨x, H1, I1, r1, ⟨p, ys, ex, ob, hd, hk⟩, q1⟩ => ?_)
  subst ex
  cases r1
  obtain ⟨g, hz, its, rv, o2, g2, hc, hdt⟩ := (show ObjOk X.prog X.w H1 s1.heap p (.frz ob (.tup ys)) from I1.hok p _ hk)
  rw [g] at g2
  cases g2
  refine ⟨"tuple", id, pa, slot, hty, ⟨ob, g, hc⟩, fun a ea => ?_, ?_⟩
  · cases ea
    exact ⟨ob, g, hd⟩
  have hA := ha.run cpos pins s1 σ H1 _ I1 q1
  rw [hs] at hA ⊢
  refine Calls.callWith_builtin (by show (false || (backTo cpos (starEach es X.env)).any (·.1)) = false; rw [hplain] <;> rfl) (Calls.evalArgs_plain ?_)
  exact thn hA fun us s2 ⟨vs, H2, I2, r2, q2⟩ => hm pins s2 σ H2 (.ref p) vs (.ref p) us Q I2 rfl r2 q2
end
end TF

set_option maxRecDepth 100000
set_option maxHeartbeats 8000000
namespace Sg
open PySem PySem.Spec PyProof.Rows L2 Dr Gd Er Cm LD CM TF
abbrev cNum : Stmt := top 4
abbrev sNInit : Stmt := inClass cNum 0
abbrev sTake_ : Stmt := inClass cNum 1
abbrev sTW : Stmt := inClass cNum 2
abbrev sPartsOf : Stmt := inClass cNum 5
def iV (n : Nat) : V := .int (n : Int)
def PlR (Z : Hp) : List V → List (List Nat) → Prop
  | [], [] => True
  | v :: vs, ns :: Ns => (∃ a, v = .ref a ∧ KT Z a (ns.map iV)) ∧ PlR Z vs Ns
  | _, _ => False
theorem PlR.mono {Z Z' : Hp} (s : Same Z Z') : ∀ {vs : List V} {Ns : List (List Nat)}, PlR Z vs Ns → PlR Z' vs Ns
  | [], [], _ => trivial
  | [], _ :: _, h => h.elim
  | _ :: _, [], h => h.elim
  | v :: vs, ns :: Ns, ⟨⟨a, e, o, h1, h⟩, r⟩ => ⟨⟨a, e, o, h1, s _ _ h⟩, r.mono s⟩
theorem PlR.len {Z : Hp} : ∀ {vs : List V} {Ns : List (List Nat)}, PlR Z vs Ns → vs.length = Ns.length
  | [], [], _ => rfl
  | [], _ :: _, h => h.elim
  | _ :: _, [], h => h.elim
  | v :: vs, ns :: Ns, ⟨_, r⟩ => by rw [List.length_cons, List.length_cons, r.len]
theorem PlR.snoc {Z : Hp} {a : Addr} {ns : List Nat} (h : KT Z a (ns.map iV)) : ∀ {vs : List V} {Ns : List (List Nat)}, PlR Z vs Ns → PlR Z (vs ++ [.ref a]) (Ns ++ [ns])
  | [], [], _ => ⟨⟨a, rfl, h⟩, trivial⟩
  | [], _ :: _, h => h.elim
  | _ :: _, [], h => h.elim
  | v :: vs, ns :: Ns, ⟨x, r⟩ => ⟨x, r.snoc h⟩
theorem PlR.get {Z : Hp} : ∀ {vs : List V} {Ns : List (List Nat)} {i : Nat} {ns : List Nat}, PlR Z vs Ns → Ns[i]? = some ns → ∃ a, vs[i]? = some (.ref a) ∧ KT Z a (ns.map iV)
  | [], [], i, ns, _, e => by simp at e
  | [], _ :: _, _, _, h, _ => h.elim
  | _ :: _, [], _, _, h, _ => h.elim
  | v :: vs, ms :: Ns, 0, ns, ⟨⟨a, e1, h⟩, r⟩, e => by
    cases e
    exact ⟨a, by rw [e1]; rfl, h⟩
  | v :: vs, ms :: Ns, i + 1, ns, ⟨x, r⟩, e => r.get (i := i) e
/-- the object that numbers terms -/
structure NumAt (K : PySem.W.Frag) (CN : Addr) (U : Str → Bool) (H : Hp) (x lt lh lp dk : Addr) (Ts : List PyData) (Ns : List (List Nat)) : Prop where
  i : ∃ dx, H x = some (.ins CN dx [("terms", .ref lt), ("heads", .ref lh), ("places", .ref lp), ("_known", .ref dk)])
  t : ∃ tv, H lt = some (.lst tv) ∧ DpAll K (delS [lt, lh, lp, dk] H) tv Ts
  h : H lh = some (.lst (Ts.map headV))
  p : ∃ pv, H lp = some (.lst pv) ∧ PlR (delS [lt, lh, lp, dk] H) pv Ns
  k : H dk = some (.dT (knownF Ts Ns 0))
  wf : WfN U Ts Ns
structure NCl (K : PySem.W.Frag) (CN : Addr) : Prop where
  cl : Cls K CN
  n1 : NoAttr K CN "terms"
  n2 : NoAttr K CN "heads"
  n3 : NoAttr K CN "places"
  n4 : NoAttr K CN "_known"
section
variable {K : PySem.W.Frag} {CN : Addr} {U : Str → Bool} {H H' : Hp} {x lt lh lp dk : Addr} {Ts : List PyData} {Ns : List (List Nat)}
theorem NumAt.same (h : NumAt K CN U H x lt lh lp dk Ts Ns) (s : Same H H') : NumAt K CN U H' x lt lh lp dk Ts Ns := by
  obtain ⟨dx, a⟩ := h.i
  obtain ⟨tv, b, c⟩ := h.t
  obtain ⟨pv, d, e⟩ := h.p
  exact ⟨⟨dx, s _ _ a⟩, ⟨tv, s _ _ b, dpAll_same (delS_same s) _ _ c⟩, s _ _ h.h, ⟨pv, s _ _ d, e.mono (delS_same s)⟩, s _ _ h.k, h.wf⟩
theorem NumAt.ne (h : NumAt K CN U H x lt lh lp dk Ts Ns) : x ∉ [lt, lh, lp, dk] ∧ dk ∉ [lt, lh, lp] := by
  obtain ⟨dx, a⟩ := h.i
  obtain ⟨tv, b, c⟩ := h.t
  obtain ⟨pv, d, e⟩ := h.p
  constructor
  · intro m
    simp only [List.mem_cons, List.not_mem_nil, or_false] at m
    rcases m with m | m | m | m
    · rw [← m, a] at b; cases b
    · have := h.h; rw [← m, a] at this; cases this
    · rw [← m, a] at d; cases d
    · have := h.k; rw [← m, a] at this; cases this
  · intro m
    have k := h.k
    simp only [List.mem_cons, List.not_mem_nil, or_false] at m
    rcases m with m | m | m
    · rw [m, b] at k; cases k
    · have := h.h; rw [m, this] at k; cases k
    · rw [m, d] at k; cases k
end
def spTW (K : PySem.W.Frag) (CN : Addr) (U : Str → Bool) : Sp := fun vs H Q _ => ∃ x v l lt lh lp dk Ts Ns d ns, vs = [.ref x, v, .ref l] ∧ NumAt K CN U H x lt lh lp dk Ts Ns ∧ lt ≠ lh ∧ lt ≠ lp ∧ lh ≠ lp ∧ Dp K (delS [lt, lh, lp, dk] H) v d ∧ okN U d = true ∧ l ∉ [lt, lh, lp, dk] ∧ H l = some (.lst (ns.map iV)) ∧
  NumL Ts ns (argsD d) ∧ Ts.length < 10000 ∧ ns.length ≤ 5000 ∧
  ∀ (m : Nat) Ts' Ns' H', Same (delS [lt, lh, lp, dk] H) (delS [lt, lh, lp, dk] H') → NumAt K CN U H' x lt lh lp dk Ts' Ns' → Ts <+: Ts' → (∀ y ∈ Ts', y ∈ Ts ∨ y = d) → Ts'[m]? = some d → Q (iV m) H'
structure NTxt (mg : Str → Option Value) : Prop where
  isi : mg "isinstance" = none
  str : mg "str" = none
  len : mg "len" = none
  tup : mg "tuple" = none
section
variable {P : Program} {w : World} {K : PySem.W.Frag} {mg : Str → Option Value} {base : Heap} {CN : Addr} {U : Str → Bool}
theorem atI_zero {α : Type} (a : α) (l : List α) : atI (a :: l) 0 = some a := by simp [atI, ixN]
theorem scTW : FnScope ["self", "term", "places", "head", "key"] ["self", "term", "places"] (defScope sTW) := ⟨rfl, rfl, rfl, by decide +kernel, rfl, by decide +kernel, by decide +kernel⟩
theorem key_V : ∀ (d : PyData) (ns : List Nat), (keyN d ns).map kV = (match d with
    | .str z => [V.str z]
    | .tuple (.str h :: _) => V.str h :: ns.map iV
    | _ => []) := fun d ns => by
  have e : (ns.map nK).map kV = ns.map iV := by
    rw [List.map_map]
    rfl
  cases d with
  | str z => rfl
  | tuple ds =>
    cases ds with
    | nil => rfl
    | cons x r =>
      cases x with
      | str h =>
        show V.str h :: (ns.map nK).map kV = _
        rw [e]
      | _ => rfl
  | _ => rfl
theorem ok_TW {f : Addr} {fd : FuncData} (F : Fun K "_take_whole" "Numbered._take_whole" sTW f fd) (T : NTxt mg) (S : NCl K CN) : FnOk P w K mg base CX0 1 f fd ["self", "term", "places"] (spTW K CN U) := by
  refine F.ok scTW (fun vs H Q E h => ?_) (fun cdv A outer s H vs Q E hr h => ?_)
  · obtain ⟨x, v, l, lt, lh, lp, dk, Ts, Ns, d, ns, rfl, _⟩ := h
    rfl
  · obtain ⟨x, v, l, lt, lh, lp, dk, Ts, Ns, d, ns, rfl, hN, n1, n2, n3, hv, hok, hl, el, hn, hT, hns, q⟩ := h
    have nd := scTW.nd
    have hu := hu_of hr
    refine ⟨_, C8.pss_cut (ps_set (i := 3) nd rfl (Or.inl rfl) (pe_ifExp (pt_val (pe_callB call_isi (by rfl) T.isi (by decide +kernel) (pa_cons (pv 1) (pa_cons (pe_bltn (v := .ty "str") (by rfl) T.str (by decide +kernel) rfl) pa_nil)))) pe_non (pe_ix ix_tup (pv 1) pe_int fun _ _ => rfl)))
      (C8.pss_cut (ps_set (i := 4) nd rfl (Or.inl rfl) (pe_ifExp (pt_cmpR op_isN (pv 3) pe_non (nomark _)) (pe_tup (pa_cons (pv 1) pa_nil)) (pe_tup (pa_cons (pv 3) (StX.pa_star (pv 2) pa_nil)))))
      (C8.pss_cut (ps_if (pt_cmp (pc_dnotin hu (pv 4) (pe_fld (pv 0) rfl)))
        (pss_cons (ps_dput hu (pe_fld (pv 0) rfl) (pv 4) (pe_callB call_len_seq (by rfl) T.len PySem.boot_len (pa_cons (pe_fld (pv 0) rfl) pa_nil)) rfl)
        (pss_cons (ps_expr (pe_bm PySem.F.plainAttrs_list PySem.F.slot_list_append PySem.F.type_list_append mt_append (pe_fld (pv 0) rfl) (pa_cons (pv 1) pa_nil)))
        (pss_cons (ps_expr (pe_bm PySem.F.plainAttrs_list PySem.F.slot_list_append PySem.F.type_list_append mt_append (pe_fld (pv 0) rfl) (pa_cons (pv 3) pa_nil)))
        (pss_one (ps_expr (pe_bm PySem.F.plainAttrs_list PySem.F.slot_list_append PySem.F.type_list_append mt_append (pe_fld (pv 0) rfl) (pa_cons (pe_callTy call_tuple_ofF (by rfl) T.tup (by decide +kernel) (pa_cons (pv 2) pa_nil)) pa_nil))))))) pss_nil)
      (pss_one (ps_ret (pe_dget hu (pe_fld (pv 0) rfl) (pv 4) fun _ _ => rfl))))), ?_⟩
    have big : (20000 : Nat) ≤ sizeLine := by decide
    obtain ⟨dx, hx⟩ := hN.i
    obtain ⟨xS, dS⟩ := hN.ne
    refine ⟨fun σ' H' => σ' = [some (.ref x), some v, some (.ref l), some (headV d), none] ∧ H' = H, ?_, ?_⟩
    · rcases okN_case hok with ⟨z, rfl, _⟩ | ⟨z, r, rfl, _, _⟩
      · cases hv
        exact ⟨_, rfl, .str z, .ty "str", .type "str", .type "str", true, rfl, .ty _, .base (.str z), kit_ty (by decide +kernel), _, rfl, iteT ⟨rfl, rfl⟩⟩
      · cases hv with
        | tup g1 g2 =>
          cases g2 with
          | cons p1 p2 =>
            cases p1
            have g1' := seqT_same delS_sub g1
            exact ⟨_, rfl, _, .ty "str", .type "tuple", .type "str", false, rfl, .ty _, ty_tup g1', kit_ty (by decide +kernel), _, rfl, iteF ⟨_, rfl, _, _, 0, .str z, rfl, rfl, g1', atI_zero _ _, rfl, rfl⟩⟩
    · rintro σ' H' ⟨rfl, rfl⟩
      refine ⟨fun σ' H1 => ∃ tk, σ' = [some (.ref x), some v, some (.ref l), some (headV d), some (.ref tk)] ∧ Same H' H1 ∧ H1 tk = some (.tup ((keyN d ns).map kV)) ∧ H' tk = none, ?_, ?_⟩
      · rw [key_V]
        rcases okN_case hok with ⟨z, rfl, _⟩ | ⟨z, r, rfl, _, _⟩
        · cases hv
          exact ⟨_, rfl, rfl, _, rfl, iteT ⟨_, rfl, (by show 1 ≤ sizeLine; decide), fun tk htk => ⟨tk, rfl, same_upd htk, upd_same, htk⟩⟩⟩
        · refine ⟨_, rfl, rfl, _, rfl, iteF ⟨_, rfl, _, rfl, l, _, rfl, .inr (SqL.of el), ?_, fun tk htk => ⟨tk, rfl, same_upd htk, ?_, htk⟩⟩⟩
          · refine Nat.le_trans ?_ big
            show (V.str z :: (ns.map iV ++ [])).length ≤ 20000
            rw [List.length_cons, List.append_nil, List.length_map]
            omega
          · rw [upd_same]
            show some (HO.tup (V.str z :: (ns.map iV ++ []))) = some (HO.tup (V.str z :: ns.map iV))
            rw [List.append_nil]
      · rintro σ' H1 ⟨tk, rfl, s1, htk, htk0⟩
        have hN1 := hN.same s1
        have hx1 := s1 _ _ hx
        refine ⟨fun σ' H2 => ∃ Ts' Ns', σ' = [some (.ref x), some v, some (.ref l), some (headV d), some (.ref tk)] ∧ Same (delS [lt, lh, lp, dk] H') (delS [lt, lh, lp, dk] H2) ∧ NumAt K CN U H2 x lt lh lp dk Ts' Ns' ∧ Ts <+: Ts' ∧ (∀ y ∈ Ts', y ∈ Ts ∨ y = d) ∧ d ∈ Ts' ∧ NumL Ts' ns (argsD d) ∧ H2 tk = some (.tup ((keyN d ns).map kV)), ?_, ?_⟩
        · refine ⟨_, rfl, _, rfl, x, CN, dx, _, .ref dk, rfl, hx1, S.cl, S.n4, rfl, dk, _, rfl, DGet.t hN1.k htk, _, rfl, ?_⟩
          rcases known_at hN.wf hok hn with ⟨j, hj, e⟩ | ⟨hno, e⟩
          · rw [e]
            exact iteF ⟨Ts, Ns, rfl, delS_same s1, hN1, List.prefix_refl _, fun y hy => .inl hy, List.mem_of_getElem? hj, hn, htk⟩
          · rw [e]
            refine iteT ?_
            obtain ⟨tv, ht, hd⟩ := hN1.t
            obtain ⟨pv, hp, hpl⟩ := hN1.p
            have ltv := dpAll_len hd
            have lpv := hpl.len
            have lN := hN.wf.len
            have out : ∀ {b : Addr}, H' b = none → b ∉ [lt, lh, lp, dk] := fun {b} hb hS => by
              obtain ⟨tv0, ht0, _⟩ := hN.t
              obtain ⟨pv0, hp0, _⟩ := hN.p
              have h2 := hN.h
              have h4 := hN.k
              simp only [List.mem_cons, List.not_mem_nil, or_false] at hS
              rcases hS with rfl | rfl | rfl | rfl
              · rw [hb] at ht0; cases ht0
              · rw [hb] at h2; cases h2
              · rw [hb] at hp0; cases hp0
              · rw [hb] at h4; cases h4
            have tkS := out htk0
            simp only [List.mem_cons, List.not_mem_nil, or_false, not_or] at tkS xS dS hl
            obtain ⟨x1, x2, x3, x4⟩ := xS
            obtain ⟨d1, d2, d3⟩ := dS
            obtain ⟨k1, k2, k3, k4⟩ := tkS
            obtain ⟨l1, l2, l3, l4⟩ := hl
            refine ⟨_, rfl, x, CN, dx, _, .ref lt, rfl, hx1, S.cl, S.n1, rfl, lt, tv, rfl, .inl (SqL.of ht), _, rfl, x, CN, dx, _, .ref dk, rfl, hx1, S.cl, S.n4, rfl, _, rfl, dk, _, rfl, DPut.t hN1.k htk (Nat.lt_of_lt_of_le (show (knownF Ts Ns 0).length < 20000 by have := known_len Ts Ns 0; omega) big), ?_⟩
            rw [putK_new _ e, ltv]
            have ek : knownF Ts Ns 0 ++ [(keyN d ns, V.int ((Ts.length : Nat) : Int))] = knownF (Ts ++ [d]) (Ns ++ [ns]) 0 := by rw [known_app Ts Ns 0 d ns lN, Nat.zero_add]
            rw [ek]
            have lk : lt ≠ dk := fun z => d1 z.symm
            have hk : lh ≠ dk := fun z => d2 z.symm
            have pk : lp ≠ dk := fun z => d3 z.symm
            have bl : ∀ {n : Nat}, n ≤ 10000 → n < sizeLine := fun h => Nat.lt_of_lt_of_le (show _ < 20000 by omega) big
            have el1 := s1 _ _ el
            -- the dict
            have hx2 : (L2.upd H1 dk (.dT (knownF (Ts ++ [d]) (Ns ++ [ns]) 0))) x = some (.ins CN dx [("terms", .ref lt), ("heads", .ref lh), ("places", .ref lp), ("_known", .ref dk)]) := by rw [upd_ne x4]; exact hx1
            have ht2 : (L2.upd H1 dk (.dT (knownF (Ts ++ [d]) (Ns ++ [ns]) 0))) lt = some (.lst tv) := by rw [upd_ne lk]; exact ht
            have hh2 : (L2.upd H1 dk (.dT (knownF (Ts ++ [d]) (Ns ++ [ns]) 0))) lh = some (.lst (Ts.map headV)) := by rw [upd_ne hk]; exact hN1.h
            have hp2 : (L2.upd H1 dk (.dT (knownF (Ts ++ [d]) (Ns ++ [ns]) 0))) lp = some (.lst pv) := by rw [upd_ne pk]; exact hp
            have hk2 : (L2.upd H1 dk (.dT (knownF (Ts ++ [d]) (Ns ++ [ns]) 0))) dk = some (.dT (knownF (Ts ++ [d]) (Ns ++ [ns]) 0)) := upd_same
            have htk2 : (L2.upd H1 dk (.dT (knownF (Ts ++ [d]) (Ns ++ [ns]) 0))) tk = some (.tup ((keyN d ns).map kV)) := by rw [upd_ne k4]; exact htk
            have el2 : (L2.upd H1 dk (.dT (knownF (Ts ++ [d]) (Ns ++ [ns]) 0))) l = some (.lst (ns.map iV)) := by rw [upd_ne l4]; exact el1
            have z2 : delS [lt, lh, lp, dk] (L2.upd H1 dk (.dT (knownF (Ts ++ [d]) (Ns ++ [ns]) 0))) = delS [lt, lh, lp, dk] H1 := delS_upd (by simp)
            generalize (L2.upd H1 dk (.dT (knownF (Ts ++ [d]) (Ns ++ [ns]) 0))) = H2 at hx2 ht2 hh2 hp2 hk2 htk2 el2 z2 ⊢
            refine ⟨_, rfl, x, CN, dx, _, .ref lt, rfl, hx2, S.cl, S.n1, rfl, .inl ⟨rfl, _, SqL.of ht2⟩, _, rfl, lt, tv, v, rfl, rfl, ht2, bl (by omega), ?_⟩
            have hx3 : (L2.upd H2 lt (.lst (tv ++ [v]))) x = some (.ins CN dx [("terms", .ref lt), ("heads", .ref lh), ("places", .ref lp), ("_known", .ref dk)]) := by rw [upd_ne x1]; exact hx2
            have ht3 : (L2.upd H2 lt (.lst (tv ++ [v]))) lt = some (.lst (tv ++ [v])) := upd_same
            have hh3 : (L2.upd H2 lt (.lst (tv ++ [v]))) lh = some (.lst (Ts.map headV)) := by rw [upd_ne n1.symm]; exact hh2
            have hp3 : (L2.upd H2 lt (.lst (tv ++ [v]))) lp = some (.lst pv) := by rw [upd_ne n2.symm]; exact hp2
            have hk3 : (L2.upd H2 lt (.lst (tv ++ [v]))) dk = some (.dT (knownF (Ts ++ [d]) (Ns ++ [ns]) 0)) := by rw [upd_ne d1]; exact hk2
            have htk3 : (L2.upd H2 lt (.lst (tv ++ [v]))) tk = some (.tup ((keyN d ns).map kV)) := by rw [upd_ne k1]; exact htk2
            have el3 : (L2.upd H2 lt (.lst (tv ++ [v]))) l = some (.lst (ns.map iV)) := by rw [upd_ne l1]; exact el2
            have z3 : delS [lt, lh, lp, dk] (L2.upd H2 lt (.lst (tv ++ [v]))) = delS [lt, lh, lp, dk] H1 := (delS_upd (by simp)).trans z2
            generalize (L2.upd H2 lt (.lst (tv ++ [v]))) = H3 at hx3 ht3 hh3 hp3 hk3 htk3 el3 z3 ⊢
            refine ⟨_, rfl, x, CN, dx, _, .ref lh, rfl, hx3, S.cl, S.n2, rfl, .inl ⟨rfl, _, SqL.of hh3⟩, _, rfl, lh, _, headV d, rfl, rfl, hh3, bl (by rw [List.length_map]; omega), ?_⟩
            have hx4 : (L2.upd H3 lh (.lst (Ts.map headV ++ [headV d]))) x = some (.ins CN dx [("terms", .ref lt), ("heads", .ref lh), ("places", .ref lp), ("_known", .ref dk)]) := by rw [upd_ne x2]; exact hx3
            have ht4 : (L2.upd H3 lh (.lst (Ts.map headV ++ [headV d]))) lt = some (.lst (tv ++ [v])) := by rw [upd_ne n1]; exact ht3
            have hh4 : (L2.upd H3 lh (.lst (Ts.map headV ++ [headV d]))) lh = some (.lst (Ts.map headV ++ [headV d])) := upd_same
            have hp4 : (L2.upd H3 lh (.lst (Ts.map headV ++ [headV d]))) lp = some (.lst pv) := by rw [upd_ne n3.symm]; exact hp3
            have hk4 : (L2.upd H3 lh (.lst (Ts.map headV ++ [headV d]))) dk = some (.dT (knownF (Ts ++ [d]) (Ns ++ [ns]) 0)) := by rw [upd_ne d2]; exact hk3
            have htk4 : (L2.upd H3 lh (.lst (Ts.map headV ++ [headV d]))) tk = some (.tup ((keyN d ns).map kV)) := by rw [upd_ne k2]; exact htk3
            have el4 : (L2.upd H3 lh (.lst (Ts.map headV ++ [headV d]))) l = some (.lst (ns.map iV)) := by rw [upd_ne l2]; exact el3
            have z4 : delS [lt, lh, lp, dk] (L2.upd H3 lh (.lst (Ts.map headV ++ [headV d]))) = delS [lt, lh, lp, dk] H1 := (delS_upd (by simp)).trans z3
            generalize (L2.upd H3 lh (.lst (Ts.map headV ++ [headV d]))) = H4 at hx4 ht4 hh4 hp4 hk4 htk4 el4 z4 ⊢
            refine ⟨_, rfl, x, CN, dx, _, .ref lp, rfl, hx4, S.cl, S.n3, rfl, .inl ⟨rfl, _, SqL.of hp4⟩, _, rfl, l, _, rfl, SqL.of el4, fun tt ob htt hob => ?_⟩
            have s5 := same_upd (o := .frz ob (.tup (ns.map iV))) htt
            have e5 : (L2.upd H4 tt (.frz ob (.tup (ns.map iV)))) tt = some (.frz ob (.tup (ns.map iV))) := upd_same
            generalize (L2.upd H4 tt (.frz ob (.tup (ns.map iV)))) = H5 at s5 e5 ⊢
            refine ⟨lp, pv, .ref tt, rfl, rfl, s5 _ _ hp4, bl (by omega), ?_⟩
            have tt1 : tt ≠ lt := fun z => by rw [z, ht4] at htt; cases htt
            have tt2 : tt ≠ lh := fun z => by rw [z, hh4] at htt; cases htt
            have tt3 : tt ≠ lp := fun z => by rw [z, hp4] at htt; cases htt
            have tt4 : tt ≠ dk := fun z => by rw [z, hk4] at htt; cases htt
            have ttS : tt ∉ [lt, lh, lp, dk] := by simp [tt1, tt2, tt3, tt4]
            have z6 : delS [lt, lh, lp, dk] (L2.upd H5 lp (.lst (pv ++ [.ref tt]))) = delS [lt, lh, lp, dk] H5 := delS_upd (by simp)
            have sz : Same (delS [lt, lh, lp, dk] H1) (delS [lt, lh, lp, dk] (L2.upd H5 lp (.lst (pv ++ [.ref tt])))) := by
              rw [z6, ← z4]
              exact delS_same s5
            refine ⟨Ts ++ [d], Ns ++ [ns], rfl, Same.trans (delS_same s1) sz, ⟨⟨dx, by rw [upd_ne x3]; exact s5 _ _ hx4⟩, ⟨tv ++ [v], by rw [upd_ne n2]; exact s5 _ _ ht4, dpAll_app (dpAll_same sz _ _ hd) (.cons (dp_same (Same.trans (delS_same s1) sz) _ _ hv) .nil)⟩, ?_,
              ⟨pv ++ [.ref tt], upd_same, (hpl.mono sz).snoc ?_⟩, by rw [upd_ne d3]; exact s5 _ _ hk4, hN.wf.push hok hn hno⟩, List.prefix_append _ _, fun y hy => (List.mem_append.mp hy).elim .inl fun h => .inr (List.mem_singleton.mp h), List.mem_append_right _ List.mem_cons_self, hn.app, by rw [upd_ne k3]; exact s5 _ _ htk4⟩
            · rw [upd_ne n3, List.map_append]
              exact s5 _ _ hh4
            · refine ⟨ob, hob, ?_⟩
              rw [delS_of ttS, upd_ne tt3]
              exact e5
        · rintro σ' H2 ⟨Ts', Ns', rfl, s2, hN2, hpre, hle, hmem, hn2, htk2⟩
          obtain ⟨dx2, hx2⟩ := hN2.i
          rcases known_at hN2.wf hok hn2 with ⟨j, hj, e⟩ | ⟨hno, e⟩
          · have g := DGet.t hN2.k htk2
            rw [e] at g
            exact ⟨_, rfl, x, CN, dx2, _, .ref dk, rfl, hx2, S.cl, S.n4, rfl, _, rfl, dk, _, rfl, g, q j Ts' Ns' H2 s2 hN2 hpre hle hj⟩
          · exact absurd hmem hno
end
end Sg

set_option maxRecDepth 100000
set_option maxHeartbeats 8000000
namespace Sg
open PySem PySem.Spec PyProof.Rows L2 Dr Gd Er Cm LD CM
mutual
theorem dp_off {K : PySem.W.Frag} {U : Str → Bool} {Z Z' : Hp} (s : ∀ b o, Z b = some o → (∀ ys, o ≠ .lst ys) → Z' b = some o) : ∀ (d : PyData) (v : V), okN U d = true → Dp K Z v d → Dp K Z' v d
  | .str z, v, _, h => by cases h; exact .str z
  | .tuple [], v, h, _ => by simp [okN] at h
  | .tuple (e :: r), v, h, hd => by
    rcases okN_case h with ⟨z, e', _⟩ | ⟨z, r', e', _, h2⟩
    · cases e'
    · injection e' with e'
      injection e' with e1 e2
      subst e2
      subst e1
      cases hd with
      | tup g1 g2 =>
        cases g2 with
        | cons p1 p2 =>
          cases p1
          refine .tup ?_ (.cons (.str z) (dps_off s r _ h2 p2))
          rcases g1 with (e | ⟨u, e⟩) | k
          · exact .inl (.inl (s _ _ e (fun ys z => by cases z)))
          · exact .inl (.inr ⟨u, s _ _ e (fun ys z => by cases z)⟩)
          · exact .inr k
  | .none, v, h, _ => by simp [okN] at h
  | .bool _, v, h, _ => by simp [okN] at h
  | .int _, v, h, _ => by simp [okN] at h
  | .list _, v, h, _ => by simp [okN] at h
  | .dict _, v, h, _ => by simp [okN] at h
theorem dps_off {K : PySem.W.Frag} {U : Str → Bool} {Z Z' : Hp} (s : ∀ b o, Z b = some o → (∀ ys, o ≠ .lst ys) → Z' b = some o) : ∀ (ds : List PyData) (vs : List V), okNs U ds = true → DpAll K Z vs ds → DpAll K Z' vs ds
  | [], vs, _, h => by cases h; exact .nil
  | d :: ds, vs, h, hd => by
    rw [okNs, Bool.and_eq_true] at h
    cases hd with
    | cons a b => exact .cons (dp_off s d _ h.1 a) (dps_off s ds _ h.2 b)
end
theorem okNs_all {U : Str → Bool} : ∀ {ds : List PyData}, (∀ d ∈ ds, okN U d = true) → okNs U ds = true
  | [], _ => rfl
  | d :: r, h => by
    rw [okNs, h d List.mem_cons_self, okNs_all fun x hx => h x (List.mem_cons_of_mem _ hx)]
    rfl
theorem PlR.off {Z Z' : Hp} (s : ∀ b o, Z b = some o → (∀ ys, o ≠ .lst ys) → Z' b = some o) : ∀ {vs : List V} {Ns : List (List Nat)}, PlR Z vs Ns → PlR Z' vs Ns
  | [], [], _ => trivial
  | [], _ :: _, h => h.elim
  | _ :: _, [], h => h.elim
  | v :: vs, ns :: Ns, ⟨⟨a, e, o, h1, h⟩, r⟩ => ⟨⟨a, e, o, h1, s _ _ h (fun ys z => by cases z)⟩, r.off s⟩
theorem NumAt.upl {K : PySem.W.Frag} {CN : Addr} {U : Str → Bool} {H : Hp} {x lt lh lp dk c : Addr} {Ts : List PyData} {Ns : List (List Nat)} {ys zs : List V} (h : NumAt K CN U H x lt lh lp dk Ts Ns) (hc : c ∉ [lt, lh, lp, dk]) (hl : H c = some (.lst ys)) :
    NumAt K CN U (L2.upd H c (.lst zs)) x lt lh lp dk Ts Ns := by
  obtain ⟨dx, a⟩ := h.i
  obtain ⟨tv, b, d⟩ := h.t
  obtain ⟨pv, e, f⟩ := h.p
  have s : ∀ b o, delS [lt, lh, lp, dk] H b = some o → (∀ ys, o ≠ .lst ys) → delS [lt, lh, lp, dk] (L2.upd H c (.lst zs)) b = some o := fun b o e n => by
    obtain ⟨e1, e2⟩ := delS_inv e
    have bc : b ≠ c := fun z => by
      rw [z, hl] at e2
      exact n ys (Option.some.inj e2).symm
    rw [delS_of e1, upd_ne bc]
    exact e2
  simp only [List.mem_cons, List.not_mem_nil, or_false, not_or] at hc
  obtain ⟨c1, c2, c3, c4⟩ := hc
  have xc : x ≠ c := fun z => by rw [z, hl] at a; cases a
  exact ⟨⟨dx, by rw [upd_ne xc]; exact a⟩, ⟨tv, by rw [upd_ne (fun z => c1 z.symm)]; exact b, dps_off s _ _ (okNs_all h.wf.ok) d⟩, by rw [upd_ne (fun z => c2 z.symm)]; exact h.h, ⟨pv, by rw [upd_ne (fun z => c3 z.symm)]; exact e, f.off s⟩, by rw [upd_ne (fun z => c4 z.symm)]; exact h.k, h.wf⟩
theorem NumAt.trk {K : PySem.W.Frag} {CN : Addr} {U : Str → Bool} {H : Hp} {x lt lh lp dk : Addr} {Ts : List PyData} {Ns : List (List Nat)} (h : NumAt K CN U H x lt lh lp dk Ts Ns) : ∀ b ∈ [lt, lh, lp, dk], ∃ o, H b = some o := by
  obtain ⟨tv, b, _⟩ := h.t
  obtain ⟨pv, e, _⟩ := h.p
  intro c hc
  simp only [List.mem_cons, List.not_mem_nil, or_false] at hc
  rcases hc with rfl | rfl | rfl | rfl
  · exact ⟨_, b⟩
  · exact ⟨_, h.h⟩
  · exact ⟨_, e⟩
  · exact ⟨_, h.k⟩
mutual
def preD : PyData → List PyData
  | .tuple (e :: r) => .tuple (e :: r) :: preDs r
  | .tuple [] => [.tuple []]
  | .str z => [.str z]
  | .none => [.none]
  | .bool b => [.bool b]
  | .int i => [.int i]
  | .list l => [.list l]
  | .dict l => [.dict l]
def preDs : List PyData → List PyData
  | [] => []
  | d :: r => preD d ++ preDs r
end
theorem preD_eq (d : PyData) : preD d = d :: preDs (argsD d) := by
  cases d with
  | tuple ds => cases ds with
    | nil => simp [preD, argsD, preDs]
    | cons e r => simp [preD, argsD]
  | _ => simp [preD, argsD, preDs]
mutual
theorem preD_len : ∀ d : PyData, (preD d).length = fsz d
  | .tuple (e :: r) => by rw [preD, fsz, List.length_cons, preDs_len r]; omega
  | .tuple [] => by simp [preD, fsz]
  | .str _ => by simp [preD, fsz]
  | .none => by simp [preD, fsz]
  | .bool _ => by simp [preD, fsz]
  | .int _ => by simp [preD, fsz]
  | .list _ => by simp [preD, fsz]
  | .dict _ => by simp [preD, fsz]
theorem preDs_len : ∀ ds : List PyData, (preDs ds).length = fszs ds
  | [] => by simp [preDs, fszs]
  | d :: r => by rw [preDs, fszs, List.length_append, preD_len d, preDs_len r]
end
theorem preDs_mem : ∀ {ds : List PyData} {t : PyData}, t ∈ preDs ds → ∃ d ∈ ds, t ∈ preD d
  | [], t, h => by simp [preDs] at h
  | d :: r, t, h => by
    rw [preDs] at h
    rcases List.mem_append.mp h with h | h
    · exact ⟨d, List.mem_cons_self, h⟩
    · obtain ⟨e, he, h⟩ := preDs_mem h
      exact ⟨e, List.mem_cons_of_mem _ he, h⟩
theorem preDs_of : ∀ {ds : List PyData} {d t : PyData}, d ∈ ds → t ∈ preD d → t ∈ preDs ds
  | [], d, t, h, _ => by cases h
  | e :: r, d, t, h, ht => by
    rw [preDs]
    rcases List.mem_cons.mp h with rfl | h
    · exact List.mem_append_left _ ht
    · exact List.mem_append_right _ (preDs_of h ht)
theorem pre_self (d : PyData) : d ∈ preD d := by rw [preD_eq]; exact List.mem_cons_self
theorem pre_trans : ∀ (n : Nat) (d t a : PyData), fsz d ≤ n → t ∈ preD d → a ∈ argsD t → a ∈ preD d
  | 0, d, t, a, hn, _, _ => by have := fsz_pos d; omega
  | n + 1, d, t, a, hn, ht, ha => by
    rw [preD_eq] at ht ⊢
    rcases List.mem_cons.mp ht with rfl | ht
    · exact List.mem_cons_of_mem _ (preDs_of ha (pre_self a))
    · obtain ⟨e, he, hte⟩ := preDs_mem ht
      have : fsz e ≤ n := by
        have h1 := fsz_args d
        have h2 : fsz e ≤ fszs (argsD d) := by
          clear hte ht ha h1 hn
          generalize argsD d = ds at he
          induction ds with
          | nil => cases he
          | cons x r ih =>
            rw [fszs]
            rcases List.mem_cons.mp he with rfl | he
            · omega
            · have := ih he
              omega
        omega
      exact List.mem_cons_of_mem _ (preDs_of he (pre_trans n e t a this hte ha))
theorem fszs_mem : ∀ {ds : List PyData} {e : PyData}, e ∈ ds → fsz e ≤ fszs ds
  | [], e, h => by cases h
  | x :: r, e, h => by
    rw [fszs]
    rcases List.mem_cons.mp h with rfl | h
    · omega
    · have := fszs_mem h
      omega
theorem pre_sz : ∀ (n : Nat) (d t : PyData), fsz d ≤ n → t ∈ preD d → fsz t ≤ fsz d
  | 0, d, t, hn, _ => by have := fsz_pos d; omega
  | n + 1, d, t, hn, ht => by
    rw [preD_eq] at ht
    rcases List.mem_cons.mp ht with rfl | ht
    · exact Nat.le_refl _
    · obtain ⟨e, he, hte⟩ := preDs_mem ht
      have h1 := fsz_args d
      have h2 := fszs_mem he
      have := pre_sz n e t (by omega) hte
      omega
open Classical in
theorem nodup_leD : ∀ {l m : List PyData}, l.Nodup → (∀ x ∈ l, x ∈ m) → l.length ≤ m.length
  | [], m, _, _ => Nat.zero_le _
  | x :: l, m, nd, h => by
    rw [List.nodup_cons] at nd
    have hx := h x List.mem_cons_self
    obtain ⟨a, b, rfl⟩ := List.append_of_mem hx
    have ih := nodup_leD (l := l) (m := a ++ b) nd.2 fun y hy => by
      have := h y (List.mem_cons_of_mem _ hy)
      rcases List.mem_append.mp this with k | k
      · exact List.mem_append_left _ k
      · rcases List.mem_cons.mp k with rfl | k
        · exact absurd hy nd.1
        · exact List.mem_append_right _ k
    rw [List.length_append] at ih ⊢
    rw [List.length_cons, List.length_cons]
    omega
end Sg

set_option maxRecDepth 100000
set_option maxHeartbeats 8000000
namespace Sg
open PySem PySem.Spec PyProof.Rows L2 Dr Gd Er Cm LD CM
theorem known_get : ∀ (Ts : List PyData) (Ns : List (List Nat)) (i j : Nat) (d : PyData) (ns : List Nat), Ts[j]? = some d → Ns[j]? = some ns → (knownF Ts Ns i)[j]? = some (keyN d ns, .int ((i + j : Nat) : Int))
  | [], _, _, _, _, _, h, _ => by simp at h
  | _ :: _, [], _, _, _, _, _, h => by simp at h
  | e :: Ts, ms :: Ns, i, 0, d, ns, h, g => by
    cases h
    cases g
    rfl
  | e :: Ts, ms :: Ns, i, j + 1, d, ns, h, g => by
    show (knownF Ts Ns (i + 1))[j]? = _
    rw [known_get Ts Ns (i + 1) j d ns h g, show i + 1 + j = i + (j + 1) by omega]
theorem known_lenE : ∀ (Ts : List PyData) (Ns : List (List Nat)) (i : Nat), Ns.length = Ts.length → (knownF Ts Ns i).length = Ts.length
  | [], _, _, _ => by simp [knownF]
  | _ :: _, [], _, h => by cases h
  | d :: Ts, ns :: Ns, i, h => by rw [knownF, List.length_cons, List.length_cons, known_lenE Ts Ns (i + 1) (by simpa using h)]
theorem NumL.to {Ts Ts' : List PyData} : ∀ {ns : List Nat} {ds : List PyData}, NumL Ts ns ds → (∀ n ∈ ns, Ts[n]? = Ts'[n]?) → NumL Ts' ns ds
  | [], ds, h, _ => by cases ds with
    | nil => rfl
    | cons d ds => cases h
  | n :: ns, ds, h, e => by cases ds with
    | nil => cases h
    | cons d ds =>
      have h : Ts[n]? :: ns.map (fun n => Ts[n]?) = some d :: ds.map some := h
      injection h with h1 h2
      show Ts'[n]? :: ns.map (fun n => Ts'[n]?) = some d :: ds.map some
      rw [← e n List.mem_cons_self, h1]
      rw [show ns.map (fun n => Ts'[n]?) = ds.map some from NumL.to (ds := ds) h2 fun m hm => e m (List.mem_cons_of_mem _ hm)]
theorem wf_uniq {U : Str → Bool} {Ts Ts' : List PyData} {Ns Ns' : List (List Nat)} (W : WfN U Ts Ns) (W' : WfN U Ts' Ns') (e : knownF Ts Ns 0 = knownF Ts' Ns' 0) : Ts = Ts' := by
  have hl : Ts.length = Ts'.length := by rw [← known_lenE Ts Ns 0 W.len, ← known_lenE Ts' Ns' 0 W'.len, e]
  have go : ∀ n j : Nat, j < n → Ts[j]? = Ts'[j]? := by
    intro n
    induction n with
    | zero => intro j h; omega
    | succ n ih =>
      intro j hj
      rcases Nat.lt_or_ge j Ts.length with hlt | hge
      · obtain ⟨d, hd⟩ : ∃ d, Ts[j]? = some d := ⟨_, List.getElem?_eq_getElem hlt⟩
        obtain ⟨d', hd'⟩ : ∃ d, Ts'[j]? = some d := ⟨_, List.getElem?_eq_getElem (by omega)⟩
        obtain ⟨ns, hn⟩ : ∃ d, Ns[j]? = some d := ⟨_, List.getElem?_eq_getElem (by rw [W.len]; omega)⟩
        obtain ⟨ns', hn'⟩ : ∃ d, Ns'[j]? = some d := ⟨_, List.getElem?_eq_getElem (by rw [W'.len]; omega)⟩
        obtain ⟨a1, a2⟩ := W.num j d ns hd hn
        obtain ⟨b1, b2⟩ := W'.num j d' ns' hd' hn'
        have k := known_get Ts Ns 0 j d ns hd hn
        rw [e, known_get Ts' Ns' 0 j d' ns' hd' hn'] at k
        have k : keyN d' ns' = keyN d ns := by
          have := Option.some.inj k
          injection this
        have a1' : NumL Ts' ns (argsD d) := a1.to fun m hm => ih m (by have := a2 m hm; omega)
        rw [hd, hd', key_inj (W'.ok d' (List.mem_of_getElem? hd')) (W.ok d (List.mem_of_getElem? hd)) b1 a1' k]
      · rw [List.getElem?_eq_none hge, List.getElem?_eq_none (by omega)]
  exact List.ext_getElem? fun j => go (j + 1) j (by omega)
theorem NumAt.uniq {K : PySem.W.Frag} {CN : Addr} {U : Str → Bool} {H : Hp} {x lt lh lp dk : Addr} {Ts Ts' : List PyData} {Ns Ns' : List (List Nat)} (h : NumAt K CN U H x lt lh lp dk Ts Ns) (g : NumAt K CN U H x lt lh lp dk Ts' Ns') : Ts = Ts' := by
  refine wf_uniq h.wf g.wf ?_
  have := h.k.symm.trans g.k
  have := Option.some.inj this
  injection this
/-- the numbers of several terms -/
theorem nums_of {Ts : List PyData} {R : PyData → V → Prop} (h : ∀ d v, R d v → ∃ m : Nat, v = iV m ∧ Ts[m]? = some d) : ∀ {ds : List PyData} {us : List V}, All2 R ds us → ∃ ns : List Nat, us = ns.map iV ∧ NumL Ts ns ds
  | _, _, .nil => ⟨[], rfl, rfl⟩
  | _, _, .cons a b => by
    obtain ⟨m, rfl, hm⟩ := h _ _ a
    obtain ⟨ns, rfl, hn⟩ := nums_of h b
    refine ⟨m :: ns, rfl, ?_⟩
    show Ts[m]? :: ns.map (fun n => Ts[n]?) = some _ :: List.map some _
    rw [hm, show ns.map (fun n => Ts[n]?) = _ from hn]
def spTakeN (K : PySem.W.Frag) (CN : Addr) (U : Str → Bool) : Sp := fun vs H Q _ => ∃ x v lt lh lp dk Ts Ns d, vs = [.ref x, v] ∧ NumAt K CN U H x lt lh lp dk Ts Ns ∧ lt ≠ lh ∧ lt ≠ lp ∧ lh ≠ lp ∧ Dp K (delS [lt, lh, lp, dk] H) v d ∧ okN U d = true ∧ fsz d ≤ 5000 ∧ Ts.length + fsz d < 10000 ∧
  ∀ (m : Nat) Ts' Ns' H', Same (delS [lt, lh, lp, dk] H) (delS [lt, lh, lp, dk] H') → NumAt K CN U H' x lt lh lp dk Ts' Ns' → Ts <+: Ts' → (∀ t ∈ Ts', t ∈ Ts ∨ t ∈ preD d) → Ts'[m]? = some d → Q (iV m) H'
section
variable {P : Program} {w : World} {K : PySem.W.Frag} {mg : Str → Option Value} {base : Heap} {CN : Addr} {U : Str → Bool} {fF fA fW : Addr} {dF dA dW : FuncData}
theorem scTk : FnScope ["self", "term"] ["self", "term"] (defScope sTake_) := ⟨rfl, rfl, rfl, by decide +kernel, rfl, by decide +kernel, by decide +kernel⟩
theorem ok_takeN {f : Addr} {fd : FuncData} (F : Fun K "take" "Numbered.take" sTake_ f fd) (S : NCl K CN) (B : BMeth K CN "_take_whole" fW) (gF : mg "folded" = some (.ref fF)) (kF : PySem.W.keepIn K (.ref fF) = true) (bF : Binds K dF ["root", "children", "made"] []) (gA : mg "arguments" = some (.ref fA))
    (FF : FnOk P w K mg base CX0 2 fF dF ["root", "children", "made"] (spFold K fA fW (spTW K CN U))) : FnOk P w K mg base CX0 3 f fd ["self", "term"] (spTakeN K CN U) := by
  refine F.ok scTk (fun vs H Q E h => ?_) (fun cdv A outer s H vs Q E hr h => ?_)
  · obtain ⟨x, v, lt, lh, lp, dk, Ts, Ns, d, rfl, _⟩ := h
    rfl
  · obtain ⟨x, v, lt, lh, lp, dk, Ts, Ns, d, rfl, hN, n1, n2, n3, hv, hok, hsz, hT, q⟩ := h
    refine ⟨_, pss_one (ps_ret (pe_call FF hr rfl gF kF bF .nil pass0 (pa_cons (pv 1) (pa_cons (pe_glob (v := .ref fA) rfl gA rfl) (pa_cons (pe_met (pv 0) S.cl B) pa_nil))))), ?_⟩
    obtain ⟨dx, hx⟩ := hN.i
    refine ⟨_, rfl, _, rfl, x, dx, _, rfl, hx, rfl, fun qm hqm => ?_⟩
    have s1 := same_upd (o := .met fW x) hqm
    have e1 : (L2.upd H qm (.met fW x)) qm = some (.met fW x) := upd_same
    generalize (L2.upd H qm (.met fW x)) = H1 at s1 e1 ⊢
    have hN1 := hN.same s1
    have qS : qm ∉ [lt, lh, lp, dk] := fun hS => by
      obtain ⟨o, e⟩ := hN.trk qm hS
      rw [hqm] at e
      cases e
    refine ⟨v, qm, x, d, fun t => t ∈ preD d ∧ okN U t = true, [lt, lh, lp, dk], fun H' => ∃ Ts' Ns', NumAt K CN U H' x lt lh lp dk Ts' Ns' ∧ Ts <+: Ts' ∧ ∀ t ∈ Ts', t ∈ Ts ∨ t ∈ preD d,
      fun t r H' => ∃ (m : Nat) (Ts' : List PyData) (Ns' : List (List Nat)), NumAt K CN U H' x lt lh lp dk Ts' Ns' ∧ r = iV m ∧ Ts'[m]? = some t, rfl, e1, qS, ⟨pre_self d, hok⟩, hsz, dp_same (delS_same s1) _ _ hv, ⟨Ts, Ns, hN1, List.prefix_refl _, fun t h => .inl h⟩, ?_, ?_⟩
    · exact {
        sub := fun t ⟨h1, h2⟩ => ⟨okN_F t h2, fun a ha => ⟨pre_trans (fsz d) d t a (Nat.le_refl _) h1 ha, okNs_mem (okN_args h2) a ha⟩⟩
        trk := fun H' ⟨Ts', Ns', h, _⟩ => h.trk
        alc := fun H' H'' s ⟨Ts', Ns', h, h2, h3⟩ => ⟨⟨Ts', Ns', h.same s, h2, h3⟩, fun t r ⟨m, Ts2, Ns2, g, g2, g3⟩ => ⟨m, Ts2, Ns2, g.same s, g2, g3⟩⟩
        upl := fun H' c ys zs hc hl ⟨Ts', Ns', h, h2, h3⟩ => ⟨⟨Ts', Ns', h.upl hc hl, h2, h3⟩, fun t r ⟨m, Ts2, Ns2, g, g2, g3⟩ => ⟨m, Ts2, Ns2, g.upl hc hl, g2, g3⟩⟩
        made := fun t vt l us H' Q' sb ⟨Ts', Ns', h, h2, h3⟩ ⟨p1, p2⟩ hvt hl el gs hQ => by
          obtain ⟨ns, rfl, hn⟩ := nums_of (Ts := Ts') (fun d v ⟨m, Ts2, Ns2, g, g2, g3⟩ => ⟨m, g2, by rw [h.uniq g]; exact g3⟩) gs
          have lT : Ts'.length ≤ Ts.length + fsz d := by
            have := nodup_leD (m := Ts ++ preD d) h.wf.nd fun y hy => List.mem_append.mpr (h3 y hy)
            rw [List.length_append, preD_len] at this
            exact this
          have lns : ns.length ≤ 5000 := by
            have e1 := congrArg List.length hn
            rw [List.length_map, List.length_map] at e1
            have e2 := fszs_len (argsD t)
            have e3 := fsz_args t
            have e4 : fsz t ≤ fsz d := pre_sz (fsz d) d t (Nat.le_refl _) p1
            omega
          refine ⟨x, vt, l, lt, lh, lp, dk, Ts', Ns', t, ns, rfl, h, n1, n2, n3, hvt, p2, hl, el, hn, by omega, lns, fun m Ts2 Ns2 H2 s2 hN2 pre le at_ => ?_⟩
          have mem : ∀ y ∈ Ts2, y ∈ Ts ∨ y ∈ preD d := fun y hy => (le y hy).elim (h3 y) fun e => .inr (by rw [e]; exact p1)
          refine hQ _ H2 s2 ⟨Ts2, Ns2, hN2, List.IsPrefix.trans h2 pre, mem⟩ (fun d' v' ⟨m', Ts3, Ns3, g, g2, g3⟩ => ⟨m', Ts2, Ns2, hN2, g2, ?_⟩) ⟨m, Ts2, Ns2, hN2, rfl, at_⟩
          have := h.uniq g
          subst this
          obtain ⟨r, rfl⟩ := pre
          rw [List.getElem?_append_left (List.getElem?_eq_some_iff.mp g3).1]
          exact g3 }
    · rintro r H' s2 ⟨Ts', Ns', h, h2, h3⟩ ⟨m, Ts2, Ns2, g, rfl, g3⟩ _
      have := h.uniq g
      subst this
      exact q m Ts' Ns' H' (Same.trans (delS_same s1) s2) h h2 h3 g3
end
end Sg

set_option maxRecDepth 100000
set_option maxHeartbeats 8000000
namespace Sg
open PySem PySem.Spec PyProof.Rows L2 Dr Gd Er Cm LD CM
open Classical in
noncomputable def addD (M : List PyData) (d : PyData) : List PyData := if d ∈ M then M else M ++ [d]
noncomputable def addAll (M : List PyData) (ds : List PyData) : List PyData := ds.foldl addD M
theorem addD_in {M : List PyData} {d : PyData} (h : d ∈ M) : addD M d = M := by unfold addD; rw [if_pos h]
theorem addD_no {M : List PyData} {d : PyData} (h : d ∉ M) : addD M d = M ++ [d] := by unfold addD; rw [if_neg h]
theorem addAll_in : ∀ {ds M : List PyData}, (∀ d ∈ ds, d ∈ M) → addAll M ds = M
  | [], M, _ => rfl
  | d :: ds, M, h => by
    show addAll (addD M d) ds = M
    rw [addD_in (h d List.mem_cons_self)]
    exact addAll_in fun x hx => h x (List.mem_cons_of_mem _ hx)
theorem addAll_app (M a b : List PyData) : addAll M (a ++ b) = addAll (addAll M a) b := List.foldl_append ..
theorem preDs_app : ∀ a b : List PyData, preDs (a ++ b) = preDs a ++ preDs b
  | [], b => by simp [preDs]
  | d :: a, b => by rw [List.cons_append, preDs, preDs, preDs_app a b, List.append_assoc]
/-- once what stands above s is done, what is met and not larger than s is closed -/
def Clos (S M : List PyData) : Prop := ∀ A s B, S = A ++ s :: B → ∀ m ∈ M, fsz m ≤ fsz s → ∀ t ∈ preD m, t ∈ M ∨ ∃ a ∈ A, t ∈ preD a
theorem clos_in {p : PyData} {S M : List PyData} (h : Clos (p :: S) M) (hp : p ∈ M) : (∀ t ∈ preD p, t ∈ M) ∧ Clos S M := by
  have top : ∀ t ∈ preD p, t ∈ M := fun t ht => (h [] p S rfl p hp (Nat.le_refl _) t ht).elim id fun ⟨a, ha, _⟩ => by cases ha
  refine ⟨top, fun A s B e m hm hs t ht => ?_⟩
  rcases h (p :: A) s B (by rw [e]; rfl) m hm hs t ht with k | ⟨a, ha, k⟩
  · exact .inl k
  · rcases List.mem_cons.mp ha with rfl | ha
    · exact .inl (top t k)
    · exact .inr ⟨a, ha, k⟩
theorem split_app {α : Type} {x y A B : List α} {s : α} (e : x ++ y = A ++ s :: B) : (∃ A', A = x ++ A' ∧ y = A' ++ s :: B) ∨ s ∈ x := by
  induction x generalizing A with
  | nil => exact .inl ⟨A, rfl, e⟩
  | cons a x ih =>
    cases A with
    | nil =>
      injection e with e1 e2
      exact .inr (by rw [← e1]; exact List.mem_cons_self)
    | cons a' A =>
      injection e with e1 e2
      rcases ih e2 with ⟨A', rfl, h⟩ | h
      · exact .inl ⟨A', by rw [← e1]; rfl, h⟩
      · exact .inr (List.mem_cons_of_mem _ h)
theorem arg_lt {d a : PyData} (h : a ∈ argsD d) : fsz a < fsz d := by
  have h1 := fsz_args d
  have h2 := fszs_mem h
  omega
theorem clos_new {p : PyData} {S M : List PyData} (h : Clos (p :: S) M) : Clos (argsD p ++ S) (M ++ [p]) := by
  have mem : ∀ {t}, t ∈ preD p → t ∈ M ++ [p] ∨ ∃ a ∈ argsD p, t ∈ preD a := fun {t} ht => by
    rw [preD_eq] at ht
    rcases List.mem_cons.mp ht with rfl | ht
    · exact .inl (List.mem_append_right _ List.mem_cons_self)
    · exact .inr (preDs_mem ht)
  intro A s B e m hm hs t ht
  rcases split_app e with ⟨A', rfl, e2⟩ | hin
  · rcases List.mem_append.mp hm with hm | hm
    · rcases h (p :: A') s B (by rw [e2]; rfl) m hm hs t ht with k | ⟨a, ha, k⟩
      · exact .inl (List.mem_append_left _ k)
      · rcases List.mem_cons.mp ha with rfl | ha
        · rcases mem k with k | ⟨b, hb, k⟩
          · exact .inl k
          · exact .inr ⟨b, List.mem_append_left _ hb, k⟩
        · exact .inr ⟨a, List.mem_append_right _ ha, k⟩
    · rw [List.mem_singleton.mp hm] at ht
      rcases mem ht with k | ⟨b, hb, k⟩
      · exact .inl k
      · exact .inr ⟨b, List.mem_append_left _ hb, k⟩
  · have lt := arg_lt hin
    rcases List.mem_append.mp hm with hm | hm
    · rcases h [] p S rfl m hm (by omega) t ht with k | ⟨a, ha, _⟩
      · exact .inl (List.mem_append_left _ k)
      · cases ha
    · rw [List.mem_singleton.mp hm] at hs
      omega
theorem run_in {p : PyData} {S M : List PyData} (h : ∀ t ∈ preD p, t ∈ M) : addAll M (preDs (p :: S)) = addAll M (preDs S) := by
  rw [preDs, addAll_app, addAll_in h]
theorem run_new {p : PyData} {S M : List PyData} (h : p ∉ M) : addAll M (preDs (p :: S)) = addAll (M ++ [p]) (preDs (argsD p ++ S)) := by
  rw [preDs, preD_eq, preDs_app]
  show addAll (addD M p) (preDs (argsD p) ++ preDs S) = _
  rw [addD_no h]
theorem fszs_app : ∀ a b : List PyData, fszs (a ++ b) = fszs a + fszs b
  | [], b => by simp [fszs]
  | d :: a, b => by rw [List.cons_append, fszs, fszs, fszs_app a b]; omega
end Sg

set_option maxRecDepth 100000
set_option maxHeartbeats 4000000
/-! t[::-1], t a tuple -/
namespace RT
open PySem PySem.Spec PyProof.Rows L2 HT
theorem revAdj (n : Nat) : Builtin.Slice.sliceAdjust none none (-1) (n : Int) = ((n : Int) - 1, -1) := by
  unfold Builtin.Slice.sliceAdjust
  simp
theorem revPlaces (n : Nat) : Builtin.Slice.slicePlaces ((n : Int) - 1) (-1) (-1) = n := by
  unfold Builtin.Slice.slicePlaces
  have h1 : ¬ (-1 : Int) > 0 := by decide
  simp only [h1, if_false]
  rw [show (- -1 : Int) = 1 from rfl, Int.ediv_one]
  split <;> omega
theorem fmCongr {α β : Type} {f g : α → Option β} : ∀ (l : List α), (∀ x ∈ l, f x = g x) → l.filterMap f = l.filterMap g
  | [], _ => rfl
  | x :: l, h => by
    rw [List.filterMap_cons, List.filterMap_cons, h x List.mem_cons_self, fmCongr l fun y hy => h y (List.mem_cons_of_mem _ hy)]
theorem revPick (xs : Array Value) : ((List.range xs.size).filterMap fun (k : Nat) => xs[(((xs.size : Int) - 1) + (k : Int) * (-1)).toNat]?).toArray = xs.toList.reverse.toArray := by
  have e : ((List.range xs.size).filterMap fun (k : Nat) => xs[(((xs.size : Int) - 1) + (k : Int) * (-1)).toNat]?) = ((List.range xs.size).map fun k => xs.size - 1 - k).filterMap (xs[·]?) := by
    rw [List.filterMap_map]
    refine fmCongr _ fun k hk => ?_
    have := List.mem_range.mp hk
    show xs[(((xs.size : Int) - 1) + (k : Int) * (-1)).toNat]? = xs[xs.size - 1 - k]?
    have e : (((xs.size : Int) - 1) + (k : Int) * (-1)).toNat = xs.size - 1 - k := by omega
    rw [e]
  rw [e, PySem.W.krv_range, List.filterMap_reverse, PySem.W.krv_all]
section
variable {prog : Program} {w : World} {A : Around} {E : Value → Shared → Prop} {s : Shared}
theorem sliceRev {sl : Addr} {vl vu vs : Value} {n : Nat} {Q : Int × Int × Nat → Shared → Prop} (hs : s.heap.IsSliceOf sl vl vu vs) (pl : IsPart vl none) (pu : IsPart vu none) (ps : IsPart vs (some (-1)))
    (h : Q ((n : Int) - 1, -1, n) s) : wpAny (model prog w) A (Builtin.Slice.sliceApplied (.ref sl) (pure (n : Int))) Q E s := by
  obtain ⟨os, hos, hcs, hds⟩ := id hs
  unfold Builtin.Slice.sliceApplied Builtin.Slice.sliceFields
  refine wpAny_bind (wpAny_bind (wpAny_field hos hds (x := vl) rfl (wpAny_bind (wpAny_field hos hds (x := vu) rfl (wpAny_bind (wpAny_field hos hds (x := vs) rfl (wpAny_pure ?_)))))))
  refine wpAny_bind (slicePart_ ps ?_)
  show wpAny _ _ (if ((-1 : Int) == 0) = true then _ else _) _ _ s
  rw [if_neg (by decide)]
  refine wpAny_bind (slicePart_ pl (wpAny_bind (slicePart_ pu (wpAny_bind (wpAny_pure ?_)))))
  show wpAny _ _ (match Builtin.Slice.sliceAdjust none none (-1) (n : Int) with | (lo, hi) => pure (lo, (-1 : Int), Builtin.Slice.slicePlaces lo hi (-1))) _ _ s
  rw [revAdj]
  show wpAny _ _ (pure ((n : Int) - 1, (-1 : Int), Builtin.Slice.slicePlaces ((n : Int) - 1) (-1) (-1))) _ _ s
  rw [revPlaces]
  exact wpAny_pure h

theorem getItem_tuple_rev {t sl : Addr} {items : Array Value} {vl vu vs : Value} {Q : Value → Shared → Prop} (ht : IsTup s.heap t items) (hs : s.heap.IsSliceOf sl vl vu vs) (pl : IsPart vl none) (pu : IsPart vu none) (ps : IsPart vs (some (-1)))
    (h : Q (.ref s.heap.objs.size) { s with heap := s.heap.push { cls := .type "tuple", data := .seq items.toList.reverse.toArray } })
    (hsz : items.size ≤ sizeLine) : wpAny (model prog w) A (getItem (.ref t) (.ref sl)) Q E s := by
  have htake : sizeOk (.seq items.toList.reverse.toArray) := by
    show items.toList.reverse.toArray.size ≤ sizeLine
    rw [List.size_toArray, List.length_reverse, Array.length_toList]
    exact hsz
  obtain ⟨os, hos, hcs, hds⟩ := id hs
  have hTs : s.TypeIs (.ref sl) "slice" := ⟨os, hos, hcs⟩
  unfold getItem
  try with_reducible refine wpAny_holding ?_
  first | refine wpAny_bind (wpAny_pure ?_) | skip
  refine wpAny_bind (wpAny_sequenceKey ht.typeIs (by decide) ?_)
  refine wpAny_bind (wpAny_callSpecial?_slot (name := Str.ofString "__getitem__") ht.typeIs PyProof.Rows.slot_tuple_getitem
    (wpAny_call_entry PyProof.Rows.slot_tuple_getitem ht.typeIs entry_tuple_getitem ?_ (args_tuple_getitem _ _)))
  show wpAny _ _ (Builtin.Tuple.tupleItemsOf (.ref t) >>= _) _ _ s
  refine wpAny_bind (tupleItemsOf_ ht ?_)
  refine wpAny_bind (wpAny_typeOf hTs ?_)
  rw [if_pos (by decide)]
  refine wpAny_bind (sliceRev hs pl pu ps ?_)
  have hno : ¬ ((((items.size : Int) - 1) == 0 && (-1 : Int) == 1 && items.size == items.size) = true) := by
    intro q
    rw [Bool.and_eq_true, Bool.and_eq_true] at q
    exact absurd q.1.2 (by decide)
  show wpAny _ _ (if (((items.size : Int) - 1) == 0 && (-1 : Int) == 1 && items.size == items.size) = true then _ else _) _ _ s
  rw [if_neg hno, revPick]
  first
    | exact wpAny_bind (m := Builtin.Tuple.tupleExact _) (wpAny_newObj_type (wpAny_pure ⟨_, rfl, wpAny_pure h⟩) htake)
    | exact wpAny_bind (m := Builtin.Tuple.tupleExact _) (wpAny_newObj_type (wpAny_bind (wpAny_pure (wpAny_pure ⟨_, rfl, wpAny_pure h⟩))) htake)
    | exact wpAny_bind (wpAny_bind (m := Builtin.Tuple.tupleExact _) (wpAny_newObj_type (wpAny_pure (wpAny_pure ⟨_, rfl, wpAny_pure h⟩)) htake))
    | exact wpAny_bind (wpAny_bind (m := Builtin.Tuple.tupleExact _) (wpAny_newObj_type (wpAny_pure ⟨_, rfl, wpAny_pure h⟩) htake))
end
section
variable {X : Cx}
/-- t[::-1]: the rule -/
def tRevT (K : PySem.W.Frag) (te : TE) : TE := fun σ H Q => te σ H fun x H1 => ∃ a xs, x = .ref a ∧ SqT K H1 a xs ∧ ∀ p, H1 p = none → Q (.ref p) (upd H1 p (.tup xs.reverse))
theorem pe_revT {e : Expr} {te : TE} {k : Nat} {p1 p2 p3 pos : Pos} (he : PE X e te) : PE X (.Subscript e (.Slice none none (some (.UnaryOp .USub (.Constant (.int 1) k p1) p2)) p3) pos) (tRevT X.K te) := by
  refine ⟨fun pins s σ H Q I h => ?_⟩
  refine Subscript_ (thn (he.run pins s σ H _ I h) fun v s1 ⟨x, H1, I1, r1, q1⟩ => ?_)
  obtain ⟨a, xs, ex, hx, q⟩ := q1
  subst ex
  cases r1
  have hst : PO X (some (.UnaryOp .USub (.Constant (.int 1) k p1) p2)) (tPart (tUn (rU fun i => .int (-i)) (tC (.int 1)))) := po_some (pe_un un_neg pe_int)
  refine wpAny_Slice (thn (po_none.run pins s1 σ H1 (fun o H2 => o = none ∧ H2 = H1) I1 ⟨rfl, rfl⟩) fun vl s2 ⟨l, H2, I2, pl, el, e2⟩ => ?_)
  subst el e2
  refine thn (po_none.run pins s2 σ H2 (fun o H3 => o = none ∧ H3 = H2) I2 ⟨rfl, rfl⟩) fun vu s3 ⟨u, H3, I3, pu, eu, e3⟩ => ?_
  subst eu e3
  refine thn (hst.run pins s3 σ H3 (fun o H4 => o = some (-1) ∧ H4 = H3) I3 ⟨1, rfl, -1, rfl, rfl, rfl⟩) fun vs s4 ⟨o, H4, I4, ps, eo, e4⟩ => ?_
  subst eo e4
  have I5 : Inv X pins σ H4 { s4 with heap := s4.heap.push { cls := .type "slice", data := .fields #[vl, vu, vs] } } := I4.kept (t' := s4.toks) fun b ob q => Heap.get?_push_of_some _ q
  obtain ⟨its, r, ht, hz⟩ := I5.tuple hx
  have hlen : its.toArray.size = xs.length := by rw [List.size_toArray]; exact r.length.symm
  show wpAny (model X.prog X.w) X.A (subscriptTail e (.Slice none none (some (.UnaryOp .USub (.Constant (.int 1) k p1) p2)) p3) (.ref a) (.ref s4.heap.objs.size)) (EP X pins σ Q) X.xe { s4 with heap := s4.heap.push { cls := .type "slice", data := .fields #[vl, vu, vs] } }
  refine tail_any (ops := [.ref a, .ref s4.heap.objs.size]) ht.typeIs (PyProof.Rows.slot_tuple_getitem.lookup) ?_ (by with_unfolding_all rfl)
  refine getItem_tuple_rev ht (Heap.IsSliceOf.new _ vl vu vs) pl pu ps ?_ (by rw [hlen]; exact hz)
  refine ⟨.ref _, _, I5.laid (t' := s4.toks) (o := .tup xs.reverse) (fun b ob q => Heap.get?_push_of_some _ q) (Nat.le_refl _) ?_, rfl, q _ (I5.hok.fresh (Nat.le_refl _))⟩
  exact ⟨by rw [List.length_reverse]; exact hz, _, r.reverse, IsTup.new _ _⟩
end
end RT

set_option maxRecDepth 100000
set_option maxHeartbeats 8000000
namespace Sg
open PySem PySem.Spec PyProof.Rows L2 Dr Gd Er Cm LD CM XT RT
def metF (ks : List Nat) : List (Key × V) := ks.map fun k => (nK k, V.bl true)
theorem met_val (p : Nat) : ∀ ks : List Nat, valV (metF ks) (nK p) = if p ∈ ks then some (.bl true) else none
  | [] => rfl
  | k :: ks => by
    by_cases h : k = p
    · subst h
      rw [show metF (k :: ks) = (nK k, V.bl true) :: metF ks from rfl, valV_pos rfl]
      simp
    · have hn : ¬ nK k = nK p := fun e => by
        have e : (Sum.inl (k : Int) : Key) = .inl (p : Int) := e
        injection e with e
        exact h (by omega)
      rw [show metF (k :: ks) = (nK k, V.bl true) :: metF ks from rfl, valV_neg hn, met_val p ks]
      simp [Ne.symm h]
theorem num_mem {Ts : List PyData} (nd : Ts.Nodup) {p : Nat} {d : PyData} (hp : Ts[p]? = some d) : ∀ {ks : List Nat} {ds : List PyData}, NumL Ts ks ds → (p ∈ ks ↔ d ∈ ds)
  | [], ds, h => by cases ds with
    | nil => simp
    | cons x r => cases h
  | k :: ks, ds, h => by cases ds with
    | nil => cases h
    | cons x r =>
      have h : Ts[k]? :: ks.map (fun n => Ts[n]?) = some x :: r.map some := h
      injection h with h1 h2
      have ih := num_mem nd hp (ks := ks) (ds := r) h2
      rw [List.mem_cons, List.mem_cons, ih]
      constructor
      · rintro (rfl | h)
        · rw [hp] at h1
          exact .inl (Option.some.inj h1)
        · exact .inr h
      · rintro (rfl | h)
        · exact .inl (nodup_at nd hp h1)
        · exact .inr h
theorem num_app {Ts : List PyData} : ∀ {ns ms : List Nat} {ds es : List PyData}, NumL Ts ns ds → NumL Ts ms es → NumL Ts (ns ++ ms) (ds ++ es) := fun {ns ms ds es} h g => by
  unfold NumL at *
  rw [List.map_append, List.map_append, h, g]
theorem num_len {Ts : List PyData} {ns : List Nat} {ds : List PyData} (h : NumL Ts ns ds) : ns.length = ds.length := by
  have := congrArg List.length h
  rwa [List.length_map, List.length_map] at this
theorem num_in {Ts : List PyData} {ns : List Nat} {ds : List PyData} (h : NumL Ts ns ds) : ∀ d ∈ ds, d ∈ Ts := fun d hd => by
  have : some d ∈ ds.map some := List.mem_map.mpr ⟨d, hd, rfl⟩
  rw [← show ns.map (fun n => Ts[n]?) = ds.map some from h] at this
  obtain ⟨n, _, e⟩ := List.mem_map.mp this
  exact List.mem_of_getElem? e
def spPartsOf (K : PySem.W.Frag) (CN : Addr) (U : Str → Bool) : Sp := fun vs H Q _ => ∃ x lt lh lp dk Ts Ns d, ∃ n : Nat, vs = [.ref x, iV n] ∧ NumAt K CN U H x lt lh lp dk Ts Ns ∧ Ts[n]? = some d ∧ fsz d ≤ 5000 ∧ Ts.length < 10000 ∧
  ∀ (l : Addr) (ks : List Nat) (H' : Hp), Same H H' → H l = none → H' l = some (.lst (ks.map iV)) → NumL Ts ks (addAll [] (preD d)) → Q (.ref l) H'
section
variable {P : Program} {w : World} {K : PySem.W.Frag} {mg : Str → Option Value} {base : Heap} {CN : Addr} {U : Str → Bool}
theorem scPO : FnScope ["self", "number", "met", "todo", "part"] ["self", "number"] (defScope sPartsOf) := ⟨rfl, rfl, rfl, by decide +kernel, rfl, by decide +kernel, by decide +kernel⟩
theorem ok_partsOf {f : Addr} {fd : FuncData} (F : Fun K "parts_of" "Numbered.parts_of" sPartsOf f fd) (S : NCl K CN) (hl : mg "list" = none) : FnOk P w K mg base CX0 1 f fd ["self", "number"] (spPartsOf K CN U) := by
  refine F.ok scPO (fun vs H Q E h => ?_) (fun cdv A outer s H vs Q E hr h => ?_)
  · obtain ⟨x, lt, lh, lp, dk, Ts, Ns, d, n, rfl, _⟩ := h
    rfl
  · obtain ⟨x, lt, lh, lp, dk, Ts, Ns, d, n, rfl, hN, hd, hsz, hT, q⟩ := h
    have nd := scPO.nd
    have hu := hu_of hr
    have big : (20000 : Nat) ≤ sizeLine := by decide
    refine ⟨_, pss_cons (ps_set (i := 2) nd rfl (Or.inl rfl) pe_dnewK)
      (pss_cons (ps_set (i := 3) nd rfl (Or.inl rfl) (pe_lst (pa_cons (pv 1) pa_nil)))
      (pss_cons (ps_while PassesOwn.never (pt_truth (pv 3) (by intro _; rfl))
        (pss_cons (ps_set (i := 4) nd rfl (Or.inl rfl) (pe_bm0 PySem.F.plainAttrs_list PySem.F.slot_list_pop PySem.F.type_list_pop mt_pop (pv 3)))
        (pss_one (ps_if (pt_cmp (pc_dnotin hu (pv 4) (pv 2)))
          (pss_cons (ps_dput hu (pv 2) (pv 4) pe_bl rfl)
          (pss_one (ps_expr (pe_bm PySem.F.plainAttrs_list PySem.F.slot_list_extend PySem.F.type_list_extend mt_extendT (pv 3) (pa_cons (pe_revT (pe_ix ix_list (pe_fld (pv 0) rfl) (pv 4) fun _ _ => rfl)) pa_nil))))) pss_nil))))
      (pss_one (ps_ret (pe_callTy (call_listD rfl) (by rfl) hl (by decide +kernel) (pa_cons (pv 2) pa_nil)))))), ?_⟩
    refine fun dm hdm => ?_
    have s1 := same_upd (o := .dK []) hdm
    have e1 : (L2.upd H dm (.dK [])) dm = some (.dK []) := upd_same
    generalize (L2.upd H dm (.dK [])) = H1 at s1 e1 ⊢
    refine ⟨_, rfl, (by show 1 ≤ sizeLine; decide), fun lo hlo => ?_⟩
    have s2 := same_upd (o := .lst [iV n]) hlo
    have e2 : (L2.upd H1 lo (.lst [iV n])) lo = some (.lst [iV n]) := upd_same
    have e12 := s2 _ _ e1
    have hlo0 : H lo = none := Same.free s1 hlo
    have dmo : dm ≠ lo := ne_of_none e1 hlo
    generalize (L2.upd H1 lo (.lst [iV n])) = H2 at s2 e2 e12 ⊢
    have hd1 : NumL Ts [n] [d] := by
      show [Ts[n]?] = [some d]
      rw [hd]
    refine ⟨fun m σ H' => ∃ Sn Sd ks Md c4, m = fszs Sd ∧ σ = [some (.ref x), some (iV n), some (.ref dm), some (.ref lo), c4] ∧ Same H H' ∧ H' lo = some (.lst (Sn.map iV).reverse) ∧ H' dm = some (.dK (metF ks)) ∧ NumL Ts Sn Sd ∧ NumL Ts ks Md ∧ Md.Nodup ∧ Clos Sd Md ∧ addAll Md (preDs Sd) = addAll [] (preD d) ∧ fszs Sd ≤ 5000,
      ⟨_, [n], [d], [], [], none, rfl, rfl, Same.trans s1 s2, e2, e12, hd1, rfl, List.nodup_nil, (show Clos [d] [] from fun A s B _ m hm => by cases hm), (by simp [preDs]), (by simpa [fszs] using hsz)⟩, ?_⟩
    rintro m σ H0 ⟨Sn, Sd, ks, Md, c4, rfl, rfl, sm, hL, hM, nS, nM, mnd, hC, hE, hB⟩
    have lS := num_len nS
    have lM := num_len nM
    have lSz := fszs_len Sd
    refine ⟨_, rfl, !(Sn.map iV).reverse.isEmpty, .inl ⟨_, SqL.of hL, rfl⟩, ?_⟩
    cases Sn with
    | nil =>
      refine iteF ?_
      cases Sd with
      | cons _ _ => cases lS
      | nil =>
        refine ⟨_, rfl, dm, _, rfl, .inl hM, fun p hp => ?_⟩
        have ek : (metF ks).map (fun kv => kV kv.1) = ks.map iV := by
          unfold metF
          rw [List.map_map]
          rfl
        rw [ek]
        rw [show addAll Md (preDs []) = Md from rfl] at hE
        exact q p ks _ (Same.trans sm (same_upd hp)) (Same.free sm hp) upd_same (by rw [← hE]; exact nM)
    | cons p Sn =>
      cases Sd with
      | nil => cases lS
      | cons pd Sd =>
        rw [show (!((p :: Sn).map iV).reverse.isEmpty) = true by simp]
        refine iteT ?_
        refine ⟨_, fun _ _ z => z, ?_⟩
        have nS' : Ts[p]? :: Sn.map (fun n => Ts[n]?) = some pd :: Sd.map some := nS
        injection nS' with hp nS2
        have nS2 : NumL Ts Sn Sd := nS2
        refine ⟨_, rfl, .inl ⟨rfl, _, SqL.of hL⟩, lo, _, iV p, rfl, rfl, hL, (by simp), ?_⟩
        rw [show ((p :: Sn).map iV).reverse.dropLast = (Sn.map iV).reverse by simp]
        have sm3 : Same H (L2.upd H0 lo (.lst (Sn.map iV).reverse)) := fun b o e => by
          rw [upd_ne (ne_of_none e hlo0)]
          exact sm b o e
        have L3 : (L2.upd H0 lo (.lst (Sn.map iV).reverse)) lo = some (.lst (Sn.map iV).reverse) := upd_same
        have M3 : (L2.upd H0 lo (.lst (Sn.map iV).reverse)) dm = some (.dK (metF ks)) := by rw [upd_ne dmo]; exact hM
        generalize (L2.upd H0 lo (.lst (Sn.map iV).reverse)) = H3 at sm3 L3 M3 ⊢
        have mem := num_mem hN.wf.nd hp nM
        rw [fszs] at hB
        have fz := fsz_args pd
        refine ⟨_, rfl, _, rfl, dm, _, rfl, DGet.k (k := nK p) M3, _, rfl, ?_⟩
        rw [met_val]
        by_cases hin : p ∈ ks
        · rw [if_pos hin]
          obtain ⟨c1, c2⟩ := clos_in hC (mem.mp hin)
          refine iteF ⟨fszs Sd, by rw [fszs]; omega, Sn, Sd, ks, Md, _, rfl, rfl, sm3, L3, M3, nS2, nM, mnd, c2, ?_, by omega⟩
          rw [← hE, run_in c1]
        · rw [if_neg hin]
          have hno : pd ∉ Md := fun h => hin (mem.mpr h)
          have lT : Md.length ≤ Ts.length := nodup_leD mnd (num_in nM)
          refine iteT ?_
          refine ⟨_, rfl, _, rfl, dm, _, rfl, DPut.k (k := nK p) M3 (Nat.lt_of_lt_of_le (show (metF ks).length < 20000 by unfold metF; rw [List.length_map]; omega) big), ?_⟩
          rw [putK_new _ (by rw [met_val, if_neg hin]), show metF ks ++ [(nK p, V.bl true)] = metF (ks ++ [p]) by unfold metF; rw [List.map_append]; rfl]
          have sm4 : Same H (L2.upd H3 dm (.dK (metF (ks ++ [p])))) := fun b o e => by
            rw [upd_ne (ne_of_none e hdm)]
            exact sm3 b o e
          have L4 : (L2.upd H3 dm (.dK (metF (ks ++ [p])))) lo = some (.lst (Sn.map iV).reverse) := by rw [upd_ne dmo.symm]; exact L3
          have M4 : (L2.upd H3 dm (.dK (metF (ks ++ [p])))) dm = some (.dK (metF (ks ++ [p]))) := upd_same
          generalize (L2.upd H3 dm (.dK (metF (ks ++ [p])))) = H4 at sm4 L4 M4 ⊢
          have hN4 := hN.same sm4
          obtain ⟨dx, hx⟩ := hN4.i
          obtain ⟨pv, hp4, hpl⟩ := hN4.p
          obtain ⟨ns, hns⟩ : ∃ ns, Ns[p]? = some ns := ⟨_, List.getElem?_eq_getElem (by rw [hN.wf.len]; exact (List.getElem?_eq_some_iff.mp hp).1)⟩
          obtain ⟨w1, w2⟩ := hN.wf.num p pd ns hp hns
          obtain ⟨ta, ha1, ha2⟩ := hpl.get hns
          have ha3 := seqT_same delS_sub (ha2.sq (K := K))
          have lns := num_len w1
          have lar := fszs_len (argsD pd)
          refine ⟨_, rfl, .inl ⟨rfl, _, SqL.of L4⟩, _, rfl, x, CN, dx, _, .ref lp, rfl, hx, S.cl, S.n3, rfl, _, rfl, lp, pv, (p : Int), .ref ta, rfl, rfl, SqL.of hp4, ?_, ta, _, rfl, ha3, fun tr htr => ?_⟩
          · exact atI_nat ha1
          · have s5 := same_upd (o := .tup (ns.map iV).reverse) htr
            have e5 : (L2.upd H4 tr (.tup (ns.map iV).reverse)) tr = some (.tup (ns.map iV).reverse) := upd_same
            have L5 := s5 _ _ L4
            have M5 := s5 _ _ M4
            generalize (L2.upd H4 tr (.tup (ns.map iV).reverse)) = H5 at s5 e5 L5 M5 ⊢
            refine ⟨lo, tr, _, _, rfl, rfl, L5, SqT.of e5, Nat.le_trans (show (Sn.map iV).reverse.length + (ns.map iV).reverse.length ≤ 20000 by rw [List.length_reverse, List.length_reverse, List.length_map, List.length_map]; rw [List.length_cons, List.length_cons] at lS; rw [fszs, List.length_cons] at lSz; omega) big, ?_⟩
            refine ⟨fszs (argsD pd ++ Sd), by rw [fszs_app, fszs]; omega, ns ++ Sn, argsD pd ++ Sd, ks ++ [p], Md ++ [pd], _, rfl, rfl, fun b o e => ?_, ?_, ?_, num_app w1 nS2, num_app nM (show NumL Ts [p] [pd] by show [Ts[p]?] = [some pd]; rw [hp]), ?_, clos_new hC, ?_, by rw [fszs_app]; omega⟩
            · rw [upd_ne (ne_of_none e hlo0)]
              exact s5 _ _ (sm4 b o e)
            · rw [upd_same]
              simp
            · rw [upd_ne dmo]
              exact M5
            · rw [List.nodup_append]
              refine ⟨mnd, by simp, fun a ha b hb e => ?_⟩
              rw [List.mem_singleton.mp hb] at e
              exact hno (e ▸ ha)
            · rw [← hE, run_new hno]
end
end Sg

set_option maxRecDepth 100000
set_option maxHeartbeats 8000000
namespace Sg
open PySem PySem.Spec PyProof.Rows L2 Dr Gd Er Cm LD CM XT RT
abbrev sParts : Stmt := top 6
def spNInit (K : PySem.W.Frag) (CN : Addr) (U : Str → Bool) : Sp := fun vs H Q _ => ∃ x dx, vs = [.ref x] ∧ H x = some (.ins CN dx []) ∧
  ∀ lt lh lp dk H', SameX x H H' → (∀ b ∈ [lt, lh, lp, dk], H b = none) → lt ≠ lh → lt ≠ lp → lh ≠ lp → NumAt K CN U H' x lt lh lp dk [] [] → Q .non H'
section
variable {P : Program} {w : World} {K : PySem.W.Frag} {mg : Str → Option Value} {base : Heap} {CN : Addr} {U : Str → Bool} {fI fT fP : Addr} {dI dT dP : FuncData}
theorem scNI : FnScope ["self"] ["self"] (defScope sNInit) := ⟨rfl, rfl, rfl, by decide +kernel, rfl, by decide +kernel, by decide +kernel⟩
theorem ok_ninit {f : Addr} {fd : FuncData} (F : Fun K "__init__" "Numbered.__init__" sNInit f fd) (S : NCl K CN) : FnOk P w K mg base CX0 1 f fd ["self"] (spNInit K CN U) := by
  refine F.ok scNI (fun vs H Q E h => ?_) (fun cdv A outer s H vs Q E hr h => ?_)
  · obtain ⟨x, dx, rfl, _⟩ := h
    rfl
  · obtain ⟨x, dx, rfl, hx, q⟩ := h
    refine ⟨_, pss_cons (ps_fld (pv 0) (pe_lst pa_nil) rfl) (pss_cons (ps_fld (pv 0) (pe_lst pa_nil) rfl) (pss_cons (ps_fld (pv 0) (pe_lst pa_nil) rfl) (pss_one (ps_fld (pv 0) pe_dnewT rfl)))), ?_⟩
    refine ⟨Nat.zero_le _, fun lt h1 => ⟨_, rfl, x, CN, dx, [], rfl, ?_, S.cl, S.n1, by decide, ?_⟩⟩
    · rw [upd_ne (ne_of_none hx h1)]; exact hx
    have xl : x ≠ lt := ne_of_none hx h1
    have sx1 : SameX x H (L2.upd (L2.upd H lt (.lst [])) x (.ins CN dx (putF "terms" (.ref lt) []))) := (Same.x (same_upd h1)).upd
    have x1 : (L2.upd (L2.upd H lt (.lst [])) x (.ins CN dx (putF "terms" (.ref lt) []))) x = some (.ins CN dx [("terms", .ref lt)]) := upd_same
    have t1 : (L2.upd (L2.upd H lt (.lst [])) x (.ins CN dx (putF "terms" (.ref lt) []))) lt = some (.lst []) := by rw [upd_ne xl.symm, upd_same]
    generalize (L2.upd (L2.upd H lt (.lst [])) x (.ins CN dx (putF "terms" (.ref lt) []))) = H1 at sx1 x1 t1 ⊢
    refine ⟨Nat.zero_le _, fun lh h2 => ⟨_, rfl, x, CN, dx, [("terms", .ref lt)], rfl, ?_, S.cl, S.n2, (by simp), ?_⟩⟩
    · rw [upd_ne (ne_of_none x1 h2)]; exact x1
    have xh : x ≠ lh := ne_of_none x1 h2
    have th : lt ≠ lh := ne_of_none t1 h2
    have n2 : H lh = none := by
      cases e : H lh with
      | none => rfl
      | some o => have := sx1 _ _ e xh.symm; rw [h2] at this; cases this
    have sx2 : SameX x H (L2.upd (L2.upd H1 lh (.lst [])) x (.ins CN dx (putF "heads" (.ref lh) [("terms", .ref lt)]))) := (sx1.trans (Same.x (same_upd h2))).upd
    have x2 : (L2.upd (L2.upd H1 lh (.lst [])) x (.ins CN dx (putF "heads" (.ref lh) [("terms", .ref lt)]))) x = some (.ins CN dx [("terms", .ref lt), ("heads", .ref lh)]) := upd_same
    have t2 : (L2.upd (L2.upd H1 lh (.lst [])) x (.ins CN dx (putF "heads" (.ref lh) [("terms", .ref lt)]))) lt = some (.lst []) := by rw [upd_ne xl.symm, upd_ne th]; exact t1
    have u2 : (L2.upd (L2.upd H1 lh (.lst [])) x (.ins CN dx (putF "heads" (.ref lh) [("terms", .ref lt)]))) lh = some (.lst []) := by rw [upd_ne xh.symm, upd_same]
    generalize (L2.upd (L2.upd H1 lh (.lst [])) x (.ins CN dx (putF "heads" (.ref lh) [("terms", .ref lt)]))) = H2 at sx2 x2 t2 u2 ⊢
    refine ⟨Nat.zero_le _, fun lp h3 => ⟨_, rfl, x, CN, dx, [("terms", .ref lt), ("heads", .ref lh)], rfl, ?_, S.cl, S.n3, (by simp), ?_⟩⟩
    · rw [upd_ne (ne_of_none x2 h3)]; exact x2
    have xp : x ≠ lp := ne_of_none x2 h3
    have tp : lt ≠ lp := ne_of_none t2 h3
    have hp : lh ≠ lp := ne_of_none u2 h3
    have n3 : H lp = none := by
      cases e : H lp with
      | none => rfl
      | some o => have := sx2 _ _ e xp.symm; rw [h3] at this; cases this
    have sx3 : SameX x H (L2.upd (L2.upd H2 lp (.lst [])) x (.ins CN dx (putF "places" (.ref lp) [("terms", .ref lt), ("heads", .ref lh)]))) := (sx2.trans (Same.x (same_upd h3))).upd
    have x3 : (L2.upd (L2.upd H2 lp (.lst [])) x (.ins CN dx (putF "places" (.ref lp) [("terms", .ref lt), ("heads", .ref lh)]))) x = some (.ins CN dx [("terms", .ref lt), ("heads", .ref lh), ("places", .ref lp)]) := upd_same
    have t3 : (L2.upd (L2.upd H2 lp (.lst [])) x (.ins CN dx (putF "places" (.ref lp) [("terms", .ref lt), ("heads", .ref lh)]))) lt = some (.lst []) := by rw [upd_ne xl.symm, upd_ne tp]; exact t2
    have u3 : (L2.upd (L2.upd H2 lp (.lst [])) x (.ins CN dx (putF "places" (.ref lp) [("terms", .ref lt), ("heads", .ref lh)]))) lh = some (.lst []) := by rw [upd_ne xh.symm, upd_ne hp]; exact u2
    have v3 : (L2.upd (L2.upd H2 lp (.lst [])) x (.ins CN dx (putF "places" (.ref lp) [("terms", .ref lt), ("heads", .ref lh)]))) lp = some (.lst []) := by rw [upd_ne xp.symm, upd_same]
    generalize (L2.upd (L2.upd H2 lp (.lst [])) x (.ins CN dx (putF "places" (.ref lp) [("terms", .ref lt), ("heads", .ref lh)]))) = H3 at sx3 x3 t3 u3 v3 ⊢
    refine fun dk h4 => ⟨_, rfl, x, CN, dx, [("terms", .ref lt), ("heads", .ref lh), ("places", .ref lp)], rfl, ?_, S.cl, S.n4, (by simp), ?_⟩
    · rw [upd_ne (ne_of_none x3 h4)]; exact x3
    have xk : x ≠ dk := ne_of_none x3 h4
    have n4 : H dk = none := by
      cases e : H dk with
      | none => rfl
      | some o => have := sx3 _ _ e xk.symm; rw [h4] at this; cases this
    refine q lt lh lp dk _ ((sx3.trans (Same.x (same_upd h4))).upd) (fun b hb => ?_) th tp hp ⟨⟨dx, upd_same⟩, ⟨[], ?_, .nil⟩, ?_, ⟨[], ?_, trivial⟩, ?_, ⟨rfl, List.nodup_nil, (fun d hd => by cases hd), (fun i d ns h => by simp at h)⟩⟩
    · simp only [List.mem_cons, List.not_mem_nil, or_false] at hb
      rcases hb with rfl | rfl | rfl | rfl
      · exact h1
      · exact n2
      · exact n3
      · exact n4
    · rw [upd_ne xl.symm, upd_ne (ne_of_none t3 h4)]; exact t3
    · rw [upd_ne xh.symm, upd_ne (ne_of_none u3 h4)]; exact u3
    · rw [upd_ne xp.symm, upd_ne (ne_of_none v3 h4)]; exact v3
    · rw [upd_ne xk.symm, upd_same]; rfl
end
end Sg

set_option maxRecDepth 100000
set_option maxHeartbeats 8000000
namespace Sg
open PySem PySem.Spec PyProof.Rows L2 Dr Gd Er Cm
/-! above, as the program finds it -/
section
variable {α β : Type}
def sameL (eq : α → α → Bool) (us vs : List α) : List Bool := List.zipWith eq us vs
def fuI (eq : α → α → Bool) (us vs : List α) : Nat := (sameL eq us vs).idxOf false
def at2 (hb : α → α → Bool) (us vs : List α) (i j : Nat) : Bool := match us[i]?, vs[j]? with
  | some a, some b => hb a b
  | _, _ => false
def leftC (eq hb : α → α → Bool) (us vs : List α) : Bool := at2 hb us vs (fuI eq us vs) (fuI eq us vs)
def at1 (hb : α → α → Bool) (us : List α) (b : α) (i : Nat) : Bool := match us[i]? with
  | some a => hb a b
  | none => false
def lov (eq : α → α → Bool) (us : List α) : List α → Nat → List Nat → List Nat → List Nat × List Nat
  | [], _, kept, over => (kept, over)
  | b :: bs, j, kept, over => match kept.filter (at1 eq us b) with
    | [] => lov eq us bs (j + 1) kept (over ++ [j])
    | i :: _ => lov eq us bs (j + 1) (kept.erase i) over
def rowsG (hb : α → α → Bool) (us vs : List α) (kept : List Nat) : List Nat → List (Nat × Nat) → List (Nat × Nat)
  | [], acc => acc
  | j :: js, acc => match kept.filter (fun i => at2 hb us vs i j) with
    | [] => []
    | i :: _ => rowsG hb us vs kept js (acc ++ [(j, i)])
def leftO (eq : α → α → Bool) (us vs : List α) : List Nat × List Nat := lov eq us vs 0 (List.range us.length) []
def rowsC (eq hb : α → α → Bool) (us vs : List α) : List (Nat × Nat) := rowsG hb us vs (leftO eq us vs).1 (leftO eq us vs).2 []
inductive Cas where
  | no | sign | left | lots
  deriving DecidableEq
def Cas.word : Cas → Str
  | .no => "none"
  | .sign => "sign"
  | .left => "left"
  | .lots => "lots"
def caseC (row lots : List Str) (h1 h2 : Option Str) (same : Bool) : Cas := match h1, h2 with
  | some f, some g => if same then .no else if f = g then (if f ∈ lots then .lots else .left) else if row.idxOf f < row.idxOf g then .sign else .no
  | _, _ => .no
def byC (eq hb : α → α → Bool) (us vs : List α) : Cas → Bool
  | .no => false
  | .sign => true
  | .left => leftC eq hb us vs
  | .lots => !(rowsC eq hb us vs).isEmpty
/-- the same by other names -/
structure Ren (eq hb : α → α → Bool) (eq' hb' : β → β → Bool) (τ : α → β) (us vs : List α) : Prop where
  e : ∀ a ∈ us, ∀ b ∈ vs, eq a b = eq' (τ a) (τ b)
  h : ∀ a ∈ us, ∀ b ∈ vs, hb a b = hb' (τ a) (τ b)
theorem sameL_map {eq : α → α → Bool} {eq' : β → β → Bool} {τ : α → β} : ∀ {us vs : List α}, (∀ a ∈ us, ∀ b ∈ vs, eq a b = eq' (τ a) (τ b)) → sameL eq us vs = sameL eq' (us.map τ) (vs.map τ)
  | [], _, _ => rfl
  | _ :: _, [], _ => rfl
  | a :: us, b :: vs, h => by
    show eq a b :: sameL eq us vs = eq' (τ a) (τ b) :: sameL eq' (us.map τ) (vs.map τ)
    rw [h a List.mem_cons_self b List.mem_cons_self, sameL_map fun x hx y hy => h x (List.mem_cons_of_mem _ hx) y (List.mem_cons_of_mem _ hy)]
theorem at2_map {hb : α → α → Bool} {hb' : β → β → Bool} {τ : α → β} {us vs : List α} (h : ∀ a ∈ us, ∀ b ∈ vs, hb a b = hb' (τ a) (τ b)) (i j : Nat) : at2 hb us vs i j = at2 hb' (us.map τ) (vs.map τ) i j := by
  unfold at2
  rw [List.getElem?_map, List.getElem?_map]
  cases e1 : us[i]? with
  | none => rfl
  | some a => cases e2 : vs[j]? with
    | none => rfl
    | some b => exact h a (List.mem_of_getElem? e1) b (List.mem_of_getElem? e2)
theorem at1_map {eq : α → α → Bool} {eq' : β → β → Bool} {τ : α → β} {us : List α} {b : α} (h : ∀ a ∈ us, eq a b = eq' (τ a) (τ b)) (i : Nat) : at1 eq us b i = at1 eq' (us.map τ) (τ b) i := by
  unfold at1
  rw [List.getElem?_map]
  cases e1 : us[i]? with
  | none => rfl
  | some a => exact h a (List.mem_of_getElem? e1)
theorem lov_map {eq : α → α → Bool} {eq' : β → β → Bool} {τ : α → β} {us : List α} : ∀ {vs : List α} {j : Nat} {kept over : List Nat}, (∀ a ∈ us, ∀ b ∈ vs, eq a b = eq' (τ a) (τ b)) → lov eq us vs j kept over = lov eq' (us.map τ) (vs.map τ) j kept over
  | [], _, _, _, _ => rfl
  | b :: bs, j, kept, over, h => by
    have e : at1 eq us b = at1 eq' (us.map τ) (τ b) := funext fun i => at1_map (fun a ha => h a ha b List.mem_cons_self) i
    have r := fun (j : Nat) (k o : List Nat) => lov_map (vs := bs) (j := j) (kept := k) (over := o) fun a ha x hx => h a ha x (List.mem_cons_of_mem _ hx)
    rw [List.map_cons, lov, lov, e]
    split <;> exact r _ _ _
theorem rowsG_map {hb : α → α → Bool} {hb' : β → β → Bool} {τ : α → β} {us vs : List α} (h : ∀ a ∈ us, ∀ b ∈ vs, hb a b = hb' (τ a) (τ b)) (kept : List Nat) : ∀ (js : List Nat) (acc : List (Nat × Nat)), rowsG hb us vs kept js acc = rowsG hb' (us.map τ) (vs.map τ) kept js acc
  | [], _ => rfl
  | j :: js, acc => by
    have e : (fun i => at2 hb us vs i j) = fun i => at2 hb' (us.map τ) (vs.map τ) i j := funext fun i => at2_map h i j
    rw [rowsG, rowsG, e]
    split
    · rfl
    · exact rowsG_map h kept js _
theorem Ren.left {eq hb : α → α → Bool} {eq' hb' : β → β → Bool} {τ : α → β} {us vs : List α} (r : Ren eq hb eq' hb' τ us vs) : leftC eq hb us vs = leftC eq' hb' (us.map τ) (vs.map τ) := by
  unfold leftC fuI
  rw [sameL_map r.e, at2_map r.h]
theorem Ren.lo {eq hb : α → α → Bool} {eq' hb' : β → β → Bool} {τ : α → β} {us vs : List α} (r : Ren eq hb eq' hb' τ us vs) : leftO eq us vs = leftO eq' (us.map τ) (vs.map τ) := by
  unfold leftO
  rw [lov_map r.e, List.length_map]
theorem Ren.rows {eq hb : α → α → Bool} {eq' hb' : β → β → Bool} {τ : α → β} {us vs : List α} (r : Ren eq hb eq' hb' τ us vs) : rowsC eq hb us vs = rowsC eq' hb' (us.map τ) (vs.map τ) := by
  unfold rowsC
  rw [r.lo, rowsG_map r.h]
theorem Ren.by {eq hb : α → α → Bool} {eq' hb' : β → β → Bool} {τ : α → β} {us vs : List α} (r : Ren eq hb eq' hb' τ us vs) (c : Cas) : byC eq hb us vs c = byC eq' hb' (us.map τ) (vs.map τ) c := by
  cases c with
  | no => rfl
  | sign => rfl
  | left => exact r.left
  | lots =>
    show (!(rowsC eq hb us vs).isEmpty) = !(rowsC eq' hb' (us.map τ) (vs.map τ)).isEmpty
    rw [r.rows]
end
def headO : PyData → Option Str
  | .tuple (.str h :: _) => some h
  | _ => none
def abF (row lots : List Str) (r : PyData → PyData → Bool) (s t : PyData) : Bool :=
  (argsD s).any (fun a => PyData.eqv a t || r a t) || ((argsD t).all (fun b => r s b) && byC PyData.eqv r (argsD s) (argsD t) (caseC row lots (headO s) (headO t) (PyData.eqv s t)))
def abN (row lots : List Str) : Nat → PyData → PyData → Bool
  | 0 => fun _ _ => false
  | n + 1 => abF row lots (abN row lots n)
def abT (row lots : List Str) (s t : PyData) : Bool := abN row lots (fsz s + fsz t) s t
theorem any_congr' {α : Type} {f g : α → Bool} : ∀ {l : List α}, (∀ a ∈ l, f a = g a) → l.any f = l.any g
  | [], _ => rfl
  | a :: l, h => by rw [List.any_cons, List.any_cons, h a List.mem_cons_self, any_congr' fun x hx => h x (List.mem_cons_of_mem _ hx)]
theorem all_congr' {α : Type} {f g : α → Bool} : ∀ {l : List α}, (∀ a ∈ l, f a = g a) → l.all f = l.all g
  | [], _ => rfl
  | a :: l, h => by rw [List.all_cons, List.all_cons, h a List.mem_cons_self, all_congr' fun x hx => h x (List.mem_cons_of_mem _ hx)]
theorem abF_congr {row lots : List Str} {r r' : PyData → PyData → Bool} {s t : PyData} (h1 : ∀ a ∈ argsD s, r a t = r' a t) (h2 : ∀ b ∈ argsD t, r s b = r' s b) (h3 : ∀ a ∈ argsD s, ∀ b ∈ argsD t, r a b = r' a b) : abF row lots r s t = abF row lots r' s t := by
  unfold abF
  have R : Ren PyData.eqv r PyData.eqv r' id (argsD s) (argsD t) := ⟨fun _ _ _ _ => rfl, h3⟩
  have e := R.by (caseC row lots (headO s) (headO t) (PyData.eqv s t))
  rw [List.map_id, List.map_id] at e
  rw [e, any_congr' (fun a ha => by rw [h1 a ha]), all_congr' h2]
theorem args_lt {s a : PyData} (h : a ∈ argsD s) : fsz a < fsz s := by
  have h1 := fsz_args s
  have h2 := fszs_mem h
  omega
theorem abN_fuel {row lots : List Str} : ∀ (n m : Nat) (s t : PyData), fsz s + fsz t ≤ n → fsz s + fsz t ≤ m → abN row lots n s t = abN row lots m s t
  | 0, m, s, t, h, _ => by have := fsz_pos s; omega
  | n + 1, 0, s, t, _, h => by have := fsz_pos s; omega
  | n + 1, m + 1, s, t, h1, h2 => by
    show abF row lots (abN row lots n) s t = abF row lots (abN row lots m) s t
    refine abF_congr (fun a ha => ?_) (fun b hb => ?_) (fun a ha b hb => ?_)
    · have := args_lt ha
      exact abN_fuel n m a t (by omega) (by omega)
    · have := args_lt hb
      exact abN_fuel n m s b (by omega) (by omega)
    · have := args_lt ha
      have := args_lt hb
      exact abN_fuel n m a b (by omega) (by omega)
theorem abT_eq (row lots : List Str) (s t : PyData) : abT row lots s t = abF row lots (abT row lots) s t := by
  unfold abT
  rw [abN_fuel (fsz s + fsz t) (fsz s + fsz t + 1) s t (Nat.le_refl _) (Nat.le_succ _)]
  show abF row lots (abN row lots (fsz s + fsz t)) s t = _
  refine abF_congr (fun a ha => ?_) (fun b hb => ?_) (fun a ha b hb => ?_)
  · have := args_lt ha
    exact abN_fuel _ _ a t (by omega) (by omega)
  · have := args_lt hb
    exact abN_fuel _ _ s b (by omega) (by omega)
  · have := args_lt ha
    have := args_lt hb
    exact abN_fuel _ _ a b (by omega) (by omega)
end Sg

set_option maxRecDepth 100000
set_option maxHeartbeats 8000000
namespace Sg
open PySem PySem.Spec PyProof.Rows L2 Dr Gd Er Cm
mutual
theorem eqvN {U : Str → Bool} : ∀ a b : PyData, okN U a = true → okN U b = true → PyData.eqv a b = true → a = b
  | .str z, b, _, hb, h => by
    rcases okN_case hb with ⟨y, rfl, _⟩ | ⟨y, s, rfl, _, _⟩
    · rw [PyData.eqv] at h
      rw [eq_of_beq h]
    · simp [PyData.eqv] at h
  | .tuple (.str z :: r), b, ha, hb, h => by
    rcases okN_case hb with ⟨y, rfl, _⟩ | ⟨y, s, rfl, _, hs⟩
    · simp [PyData.eqv] at h
    · rw [PyData.eqv, PyData.eqvAll, Bool.and_eq_true] at h
      obtain ⟨h1, h2⟩ := h
      rw [PyData.eqv] at h1
      rw [okN, Bool.and_eq_true] at ha
      rw [eq_of_beq h1, eqvNs r s ha.2 hs h2]
  | .tuple [], b, ha, _, _ => by simp [okN] at ha
  | .tuple (.none :: _), b, ha, _, _ => by simp [okN] at ha
  | .tuple (.bool _ :: _), b, ha, _, _ => by simp [okN] at ha
  | .tuple (.int _ :: _), b, ha, _, _ => by simp [okN] at ha
  | .tuple (.list _ :: _), b, ha, _, _ => by simp [okN] at ha
  | .tuple (.tuple _ :: _), b, ha, _, _ => by simp [okN] at ha
  | .tuple (.dict _ :: _), b, ha, _, _ => by simp [okN] at ha
  | .none, b, ha, _, _ => by simp [okN] at ha
  | .bool _, b, ha, _, _ => by simp [okN] at ha
  | .int _, b, ha, _, _ => by simp [okN] at ha
  | .list _, b, ha, _, _ => by simp [okN] at ha
  | .dict _, b, ha, _, _ => by simp [okN] at ha
theorem eqvNs {U : Str → Bool} : ∀ a b : List PyData, okNs U a = true → okNs U b = true → PyData.eqvAll a b = true → a = b
  | [], [], _, _, _ => rfl
  | [], _ :: _, _, _, h => by simp [PyData.eqvAll] at h
  | _ :: _, [], _, _, h => by simp [PyData.eqvAll] at h
  | x :: a, y :: b, ha, hb, h => by
    rw [PyData.eqvAll, Bool.and_eq_true] at h
    rw [okNs, Bool.and_eq_true] at ha hb
    rw [eqvN x y ha.1 hb.1 h.1, eqvNs a b ha.2 hb.2 h.2]
end
mutual
theorem eqvR {U : Str → Bool} : ∀ a : PyData, okN U a = true → PyData.eqv a a = true
  | .str z, _ => by simp [PyData.eqv]
  | .tuple [], h => by simp [okN] at h
  | .tuple (e :: r), h => by
    rcases okN_case h with ⟨z, e', _⟩ | ⟨z, r', e', _, h2⟩
    · cases e'
    · injection e' with e'
      injection e' with e1 e2
      subst e1
      subst e2
      rw [PyData.eqv, PyData.eqvAll, eqvRs r h2]
      simp [PyData.eqv]
  | .none, h => by simp [okN] at h
  | .bool _, h => by simp [okN] at h
  | .int _, h => by simp [okN] at h
  | .list _, h => by simp [okN] at h
  | .dict _, h => by simp [okN] at h
theorem eqvRs {U : Str → Bool} : ∀ a : List PyData, okNs U a = true → PyData.eqvAll a a = true
  | [], _ => by simp [PyData.eqvAll]
  | x :: a, h => by
    rw [okNs, Bool.and_eq_true] at h
    rw [PyData.eqvAll, eqvR x h.1, eqvRs a h.2]
    rfl
end
theorem eqv_iff {U : Str → Bool} {a b : PyData} (ha : okN U a = true) (hb : okN U b = true) : PyData.eqv a b = true ↔ a = b :=
  ⟨eqvN a b ha hb, fun e => by rw [← e]; exact eqvR a ha⟩
/-! bits -/
def bitsG (r : Nat) (ns : List Nat) : Nat := ns.foldl (fun r n => r ||| 2 ^ n) r
theorem bitsG_t (w : Nat) : ∀ (ns : List Nat) (r : Nat), (bitsG r ns).testBit w = (r.testBit w || decide (w ∈ ns))
  | [], r => by simp [bitsG]
  | n :: ns, r => by
    show (bitsG (r ||| 2 ^ n) ns).testBit w = _
    rw [bitsG_t w ns, Nat.testBit_or, Nat.testBit_two_pow]
    by_cases h : n = w
    · subst h
      simp
    · have : ¬ w = n := fun e => h e.symm
      simp [h, this]
theorem bits_t (ns : List Nat) (w : Nat) : (bitsG 0 ns).testBit w = decide (w ∈ ns) := by rw [bitsG_t]; simp
def orO (os : List Nat) (r : Nat) (ns : List Nat) : Nat := ns.foldl (fun r a => r ||| os.getD a 0) r
theorem orO_t (os : List Nat) (w : Nat) : ∀ (ns : List Nat) (r : Nat), (orO os r ns).testBit w = (r.testBit w || ns.any fun a => (os.getD a 0).testBit w)
  | [], r => by simp [orO]
  | n :: ns, r => by
    show (orO os (r ||| os.getD n 0) ns).testBit w = _
    rw [orO_t os w ns, Nat.testBit_or, List.any_cons, Bool.or_assoc]
theorem and_iff (R W : Nat) : (R &&& W = W) ↔ ∀ w, W.testBit w = true → R.testBit w = true := by
  constructor
  · intro h w hw
    have : (R &&& W).testBit w = true := by rw [h]; exact hw
    rw [Nat.testBit_and, Bool.and_eq_true] at this
    exact this.1
  · intro h
    refine Nat.eq_of_testBit_eq fun w => ?_
    rw [Nat.testBit_and]
    cases e : W.testBit w with
    | false => simp
    | true => simp [h w e]
def colF (wt : Nat → Nat) (cs : Nat → Bool) (r v : Nat) : Nat := if r &&& wt v = wt v ∧ cs v = true then r ||| 2 ^ v else r
theorem colF_ne {wt : Nat → Nat} {cs : Nat → Bool} {r v w : Nat} (h : w ≠ v) : (colF wt cs r v).testBit w = r.testBit w := by
  unfold colF
  split
  · rw [Nat.testBit_or, Nat.testBit_two_pow]
    have : ¬ v = w := fun e => h e.symm
    simp [this]
  · rfl
theorem col_fold {pl : Nat → List Nat} {cs A : Nat → Bool} {Cl : Nat → Prop} {cols : List Nat} (asc : cols.Pairwise (· < ·)) {r0 : Nat}
    (cl : ∀ v ∈ cols, Cl v ∧ ∀ b ∈ pl v, Cl b ∧ b < v) (h0 : ∀ w, Cl w → w ∉ cols → r0.testBit w = A w) (h1 : ∀ v ∈ cols, A v = (r0.testBit v || ((pl v).all A && cs v))) :
    ∀ w, Cl w → (cols.foldl (colF (fun v => bitsG 0 (pl v)) cs) r0).testBit w = A w := by
  have go : ∀ (rest don : List Nat) (r : Nat), cols = don ++ rest → (∀ w, Cl w → w ∈ rest → r.testBit w = r0.testBit w) → (∀ w, Cl w → w ∉ rest → r.testBit w = A w) → ∀ w, Cl w → (rest.foldl (colF (fun v => bitsG 0 (pl v)) cs) r).testBit w = A w := by
    intro rest
    induction rest with
    | nil => exact fun don r e a b w hw => b w hw (by simp)
    | cons v rest ih =>
      intro don r e a b w hw
      show (rest.foldl (colF (fun v => bitsG 0 (pl v)) cs) (colF (fun v => bitsG 0 (pl v)) cs r v)).testBit w = A w
      have hv : v ∈ cols := by rw [e]; exact List.mem_append_right _ List.mem_cons_self
      have pw := asc
      rw [e, List.pairwise_append] at pw
      have pr := List.pairwise_cons.mp pw.2.1
      have nr : v ∉ rest := fun h => Nat.lt_irrefl _ (pr.1 v h)
      obtain ⟨c1, c2⟩ := cl v hv
      have low : ∀ b' ∈ pl v, r.testBit b' = A b' := fun b' hb => by
        obtain ⟨d1, d2⟩ := c2 b' hb
        refine b b' d1 fun hm => ?_
        rcases List.mem_cons.mp hm with rfl | hm
        · exact Nat.lt_irrefl _ d2
        · have := pr.1 b' hm
          omega
      have at_v : (colF (fun v => bitsG 0 (pl v)) cs r v).testBit v = A v := by
        rw [h1 v hv]
        have e1 : (r &&& bitsG 0 (pl v) = bitsG 0 (pl v)) ↔ (pl v).all A = true := by
          rw [and_iff, List.all_eq_true]
          constructor
          · intro h b' hb
            rw [← low b' hb]
            exact h b' (by rw [bits_t]; simpa using hb)
          · intro h b' hb
            rw [bits_t] at hb
            have hb : b' ∈ pl v := by simpa using hb
            rw [low b' hb]
            exact h b' hb
        have e2 : r.testBit v = r0.testBit v := a v c1 List.mem_cons_self
        unfold colF
        by_cases h : r &&& bitsG 0 (pl v) = bitsG 0 (pl v) ∧ cs v = true
        · rw [if_pos h, Nat.testBit_or, Nat.testBit_two_pow, (e1.mp h.1), h.2]
          simp
        · rw [if_neg h, e2]
          have : ((pl v).all A && cs v) = false := by
            cases h2 : (pl v).all A with
            | false => rfl
            | true => cases h3 : cs v with
              | false => rfl
              | true => exact absurd ⟨e1.mpr h2, h3⟩ h
          rw [this, Bool.or_false]
      refine ih (don ++ [v]) _ (by rw [e]; simp) (fun x hx hm => ?_) (fun x hx hm => ?_) w hw
      · rw [colF_ne (v := v) (w := x) (fun z => nr (by rw [← z]; exact hm))]
        exact a x hx (List.mem_cons_of_mem _ hm)
      · by_cases h : x = v
        · rw [h]
          exact at_v
        · rw [colF_ne h]
          refine b x hx fun hm' => ?_
          rcases List.mem_cons.mp hm' with z | z
          · exact h z
          · exact hm z
  exact go cols [] r0 rfl (fun _ _ _ => rfl) h0
/-! the table -/
structure Tab where
  Ts : List PyData
  Ns : List (List Nat)
  row : List Str
  lots : List Str
  cols : List Nat
namespace Tab
def pl (T : Tab) (u : Nat) : List Nat := T.Ns.getD u []
def tm (T : Tab) (u : Nat) : PyData := T.Ts.getD u .none
def hb (os : List Nat) (a b : Nat) : Bool := (os.getD a 0).testBit b
def cas (T : Tab) (u v : Nat) : Cas := caseC T.row T.lots (headO (T.tm u)) (headO (T.tm v)) (u == v)
def byU (T : Tab) (os : List Nat) (u v : Nat) : Bool := byC (· == ·) (hb os) (T.pl u) (T.pl v) (T.cas u v)
def wt (T : Tab) (v : Nat) : Nat := bitsG 0 (T.pl v)
def row0 (T : Tab) (os : List Nat) (u : Nat) : Nat := orO os (bitsG 0 (T.pl u)) (T.pl u)
def fill (T : Tab) (os : List Nat) (u : Nat) : Nat := T.cols.foldl (colF T.wt (T.byU os u)) (T.row0 os u)
def tab (T : Tab) : Nat → List Nat
  | 0 => []
  | u + 1 => T.tab u ++ [T.fill (T.tab u) u]
theorem tab_len (T : Tab) : ∀ u, (T.tab u).length = u
  | 0 => rfl
  | u + 1 => by rw [tab, List.length_append, tab_len T u]; rfl
/-- the numbers of a term's parts, ascending, variables aside -/
structure Ok (U : Str → Bool) (T : Tab) (Cl : Nat → Prop) : Prop where
  wf : WfN U T.Ts T.Ns
  lt : ∀ v, Cl v → v < T.Ts.length
  dn : ∀ v, Cl v → ∀ b ∈ T.pl v, Cl b
  asc : T.cols.Pairwise (· < ·)
  col : ∀ v, v ∈ T.cols ↔ Cl v ∧ headO (T.tm v) ≠ none
section
variable {U : Str → Bool} {T : Tab} {Cl : Nat → Prop}
theorem at_ (W : WfN U T.Ts T.Ns) {u : Nat} (h : u < T.Ts.length) : T.Ts[u]? = some (T.tm u) ∧ T.Ns[u]? = some (T.pl u) ∧ NumL T.Ts (T.pl u) (argsD (T.tm u)) ∧ (∀ n ∈ T.pl u, n < u) ∧ okN U (T.tm u) = true := by
  have h1 : T.Ts[u]? = some (T.tm u) := by
    unfold tm
    rw [List.getD_eq_getElem?_getD, List.getElem?_eq_getElem h]
    rfl
  have h2 : T.Ns[u]? = some (T.pl u) := by
    unfold pl
    rw [List.getD_eq_getElem?_getD, List.getElem?_eq_getElem (by rw [W.len]; exact h)]
    rfl
  obtain ⟨a, b⟩ := W.num u _ _ h1 h2
  exact ⟨h1, h2, a, b, W.ok _ (List.mem_of_getElem? h1)⟩
theorem numL_map {Ts : List PyData} : ∀ {ns : List Nat} {ds : List PyData}, NumL Ts ns ds → ds = ns.map fun n => Ts.getD n .none
  | [], ds, h => by cases ds with
    | nil => rfl
    | cons d ds => cases h
  | n :: ns, ds, h => by cases ds with
    | nil => cases h
    | cons d ds =>
      have h : Ts[n]? :: ns.map (fun n => Ts[n]?) = some d :: ds.map some := h
      injection h with h1 h2
      rw [List.map_cons, List.getD_eq_getElem?_getD, h1, numL_map (ds := ds) h2]
      rfl
theorem args_map (W : WfN U T.Ts T.Ns) {u : Nat} (h : u < T.Ts.length) : argsD (T.tm u) = (T.pl u).map T.tm := numL_map (at_ W h).2.2.1
theorem eq_tm (W : WfN U T.Ts T.Ns) {u v : Nat} (hu : u < T.Ts.length) (hv : v < T.Ts.length) : (u == v) = PyData.eqv (T.tm u) (T.tm v) := by
  obtain ⟨a1, _, _, _, a5⟩ := at_ W hu
  obtain ⟨b1, _, _, _, b5⟩ := at_ W hv
  by_cases h : u = v
  · subst h
    rw [eqvR _ a5]
    simp
  · have : ¬ PyData.eqv (T.tm u) (T.tm v) = true := fun e => by
      have e := eqvN _ _ a5 b5 e
      rw [← e] at b1
      exact h (nodup_at W.nd a1 b1)
    rw [Bool.not_eq_true] at this
    rw [this]
    simpa using h
theorem ren (W : WfN U T.Ts T.Ns) {os : List Nat} {r : PyData → PyData → Bool} {u v : Nat} (hu : u < T.Ts.length) (hv : v < T.Ts.length) (h : ∀ a ∈ T.pl u, ∀ b ∈ T.pl v, hb os a b = r (T.tm a) (T.tm b)) : Ren (· == ·) (hb os) PyData.eqv r T.tm (T.pl u) (T.pl v) where
  e := fun a ha b hb => by
    have h1 := (at_ W hu).2.2.2.1 a ha
    have h2 := (at_ W hv).2.2.2.1 b hb
    exact eq_tm W (by omega) (by omega)
  h := h
theorem fill_ok (O : T.Ok U Cl) {os : List Nat} {u : Nat} (hu : u < T.Ts.length) (ho : ∀ a, a < u → ∀ w, Cl w → hb os a w = abT T.row T.lots (T.tm a) (T.tm w)) :
    ∀ w, Cl w → (T.fill os u).testBit w = abT T.row T.lots (T.tm u) (T.tm w) := by
  have W := O.wf
  obtain ⟨u1, u2, u3, u4, u5⟩ := at_ W hu
  have r0 : ∀ w, Cl w → (T.row0 os u).testBit w = (argsD (T.tm u)).any (fun a => PyData.eqv a (T.tm w) || abT T.row T.lots a (T.tm w)) := fun w hw => by
    unfold row0
    rw [orO_t, bits_t, args_map W hu, List.any_map]
    rw [Bool.eq_iff_iff, Bool.or_eq_true, List.any_eq_true, List.any_eq_true, decide_eq_true_eq]
    constructor
    · rintro (h | ⟨a, ha, h⟩)
      · exact ⟨w, h, by show (PyData.eqv _ _ || _) = true; rw [← eq_tm W (O.lt w hw) (O.lt w hw)]; simp⟩
      · refine ⟨a, ha, ?_⟩
        show (_ || abT T.row T.lots (T.tm a) (T.tm w)) = true
        rw [← ho a (u4 a ha) w hw]
        show (_ || (os.getD a 0).testBit w) = true
        rw [h, Bool.or_true]
    · rintro ⟨a, ha, h⟩
      have h : (PyData.eqv (T.tm a) (T.tm w) || abT T.row T.lots (T.tm a) (T.tm w)) = true := h
      have la := u4 a ha
      rw [← eq_tm W (by omega) (O.lt w hw), ← ho a la w hw, Bool.or_eq_true] at h
      rcases h with h | h
      · exact .inl (by rw [← (show a = w by simpa using h)]; exact ha)
      · exact .inr ⟨a, ha, h⟩
  unfold fill
  refine col_fold (pl := T.pl) (cs := T.byU os u) (A := fun w => abT T.row T.lots (T.tm u) (T.tm w)) (Cl := Cl) O.asc (fun v hv => ?_) (fun w hw hn => ?_) (fun v hv => ?_)
  · have hc := ((O.col v).mp hv).1
    exact ⟨hc, fun b hb => ⟨O.dn v hc b hb, (at_ W (O.lt v hc)).2.2.2.1 b hb⟩⟩
  · rw [r0 w hw]
    have hh : headO (T.tm w) = none := by
      cases e : headO (T.tm w) with
      | none => rfl
      | some f => exact absurd ((O.col w).mpr ⟨hw, by rw [e]; intro z; cases z⟩) hn
    rw [abT_eq]
    unfold abF
    rw [hh]
    have : caseC T.row T.lots (headO (T.tm u)) none (PyData.eqv (T.tm u) (T.tm w)) = .no := by
      cases headO (T.tm u) <;> rfl
    rw [this]
    show _ = (_ || (_ && false))
    rw [Bool.and_false, Bool.or_false]
  · have hc := ((O.col v).mp hv).1
    have lv := O.lt v hc
    show abT T.row T.lots (T.tm u) (T.tm v) = _
    rw [r0 v hc, abT_eq]
    conv => lhs; unfold abF
    have e1 : byC PyData.eqv (abT T.row T.lots) (argsD (T.tm u)) (argsD (T.tm v)) (caseC T.row T.lots (headO (T.tm u)) (headO (T.tm v)) (PyData.eqv (T.tm u) (T.tm v))) = T.byU os u v := by
      unfold byU cas
      rw [eq_tm W hu lv, (ren (r := abT T.row T.lots) W hu lv fun a ha b hb => ho a (u4 a ha) b (O.dn v hc b hb)).by, ← args_map W hu, ← args_map W lv]
    have e2 : (argsD (T.tm v)).all (fun b => abT T.row T.lots (T.tm u) b) = (T.pl v).all fun w => abT T.row T.lots (T.tm u) (T.tm w) := by
      rw [args_map W lv, List.all_map]
      rfl
    rw [e1, e2]
theorem tab_ok (O : T.Ok U Cl) : ∀ n, n ≤ T.Ts.length → ∀ u, u < n → ∀ w, Cl w → hb (T.tab n) u w = abT T.row T.lots (T.tm u) (T.tm w)
  | 0, _, u, h, _, _ => by omega
  | n + 1, hn, u, hu, w, hw => by
    have ih := tab_ok O n (by omega)
    have ln := tab_len T n
    unfold hb
    rw [tab]
    rcases Nat.lt_or_ge u n with h | h
    · rw [List.getD_eq_getElem?_getD, List.getElem?_append_left (by omega), ← List.getD_eq_getElem?_getD]
      exact ih u h w hw
    · obtain rfl : u = n := by omega
      rw [List.getD_eq_getElem?_getD, List.getElem?_append_right (by omega), ln, Nat.sub_self]
      exact fill_ok O (by omega) ih w hw
end
end Tab
end Sg

set_option maxRecDepth 100000
set_option maxHeartbeats 4000000
/-! enumerate(t), t a tuple: what a tuple's iterator draws (Draws.tuple), counted -/
namespace EnT
open PySem PySem.Spec PyProof.Rows L2
open AutoSeq1 (wpAny_loadPart')
/-- the two cells that enumerate(t) makes -/
def cells (h : Heap) (t : Addr) : Heap := (h.push { cls := .type "tuple_iterator", data := .fields #[.ref t, .int 0 0] }).push { cls := .type "enumerate", data := .fields #[.none, .bool false, .ref h.objs.size, rawInt 0, .none, .none] }
theorem new_meets (t : Addr) (xs : Array Value) (n : Nat) (dd : Option Addr) (sl : Array (Option Value)) :
    Meets (Builtin.«enumerate.__new__» ⟨[.type "enumerate", .ref t], []⟩) (fun _ R s => s.heap.get? t = some { cls := .type "tuple", dict := dd, data := .seq xs n, slots := sl } ∧ R (.ok (.ret (.ref (s.heap.objs.size + 1)))) { s with heap := cells s.heap t }) :=
  .of_wp fun prog w A R s k => by
    obtain ⟨hp, g, d, tk, os⟩ := s
    have ht := k.1
    have hz : (hp.push { cls := .type "tuple_iterator", data := .fields #[.ref t, .int 0 0] }).objs.size = hp.objs.size + 1 := Heap.size_push ..
    have sub := sub_enumerate
    have q : R (.ok (.ret (.ref (hp.push { cls := .type "tuple_iterator", data := .fields #[.ref t, .int 0 0] }).objs.size))) ⟨cells hp t, g, d, tk, os⟩ := by rw [hz]; exact k.2
    have it := (begins_tuple t xs).iter prog w
    have tp : Heap.IsTuple (Shared.heap ⟨hp, g, d, tk, os⟩) t xs := ⟨_, ht, rfl, n, rfl⟩
    wp_walk using wpAny_loadPart' ht, wpAny_pyIter_tuple tp
    refine wpAny_stack_any fun st => wpAny_pure ?_
    split
    · rename_i c _ _ _ _ _
      cases (c == Value.type "enumerate") <;> (wp_walk using wpAny_loadPart' ht, wpAny_pyIter_tuple tp; exact ⟨_, rfl, q⟩)
    · wp_walk using wpAny_loadPart' ht, wpAny_pyIter_tuple tp
      exact ⟨_, rfl, q⟩
/-- the tuple at a, each item in a new pair with its place -/
def IteT (K : PySem.W.Frag) (a : Addr) : It where
  go i H := ∃ (xs : List V) (x : V), SqT K H a xs ∧ xs[i]? = some x
  yld i H v H' := ∃ T x, v = .ref T ∧ H T = none ∧ H' = upd H T (.tup [.int (i : Nat), x]) ∧ ∀ xs, SqT K H a xs → xs[i]? = some x
  stop i H := ∃ xs : List V, SqT K H a xs ∧ xs.length = i
/-- between two turns -/
def Btw (a e it : Addr) (i : Nat) (h : Heap) : Prop := (∃ old, IsEnum h e it (i : Int) old) ∧ h.IsTupleIter it a i ∧ e ≠ it
theorem two_mem {b e it : Addr} {R : Prop} (h : b ∈ [e, it]) (h1 : b = e → R) (h2 : b = it → R) : R := by
  rcases List.mem_cons.mp h with z | z
  · exact h1 z
  · exact h2 (List.mem_singleton.mp z)
theorem turnT {P : Program} {w : World} {K : PySem.W.Frag} {elts : List Expr} {kk : Nat} {tpos : Pos} (a e it : Addr) (hai : a ≠ it) (hae : a ≠ e) : Turn P w K (.Tuple elts kk tpos) (IteT K a) [e, it] e (Btw a e it) where
  mem := List.mem_cons_self
  obj i h st b hb := two_mem hb (fun z => z ▸ ⟨_, st.1.choose_spec, fun v q => nomatch q⟩) fun z => by
    obtain ⟨o, ho, _, hd⟩ := st.2.1
    exact ⟨o, z ▸ ho, fun v q => by rw [hd] at q; cases q⟩
  keep i h h' st k := ⟨⟨_, k e List.mem_cons_self _ st.1.choose_spec⟩, st.2.1.at fun o q => k it (List.mem_cons_of_mem _ List.mem_cons_self) o q, st.2.2⟩
  item X hP hw hK hc i pins s σ H E I hf st hg := by
    subst hP hw hK
    obtain ⟨⟨old, he⟩, hit, hne⟩ := st
    obtain ⟨xs, x, hq, hx⟩ := hg
    obtain ⟨its, rv, tp, _⟩ := I.tuple hq
    obtain ⟨u, hu, ru⟩ := rv.get hx
    have lt : i < its.toArray.size := by rw [List.size_toArray]; exact (List.getElem?_eq_some_iff.mp hu).1
    have off : e ∉ [it, a] := fun m => two_mem m (fun z => hne z) (fun z => hae z.symm)
    have D := Draws.tuple (prog := X.prog) (w := X.w) (A := X.A.in1) (I.ok.hd hc) it a hai its.toArray
    refine wpAny_pyNext_enum_itemD D he ⟨hit, tp⟩ lt hne off fun u' h1 tk hu' out st1 hT hsz fr => ?_
    have eu : u' = u := by
      have z : its.toArray[i]? = some u := by simpa using hu
      exact Option.some.inj (hu'.symm.trans z)
    subst eu
    refine ⟨_, rfl, wpAny_letOwnedTupleGo_enum (s := { s with heap := h1, toks := tk + 1 }) out fun h2 back sb => ?_⟩
    have lte : e < s.heap.objs.size := Heap.lt_size he
    have lti : it < s.heap.objs.size := let ⟨_, z, _⟩ := hit; Heap.lt_size z
    have tup2 : h2.get? s.heap.objs.size = some { cls := .type "tuple", data := .seq #[.int i tk, u'] } := (sb.2 _ (Nat.ne_of_gt lte)).trans hT
    have fr2 : ∀ b ob, b ∉ [e, it] → s.heap.get? b = some ob → h2.get? b = some ob := fun b ob nb z => by
      have ne1 : b ≠ e := fun q => nb (q ▸ List.mem_cons_self)
      have ne2 : b ≠ it := fun q => nb (q ▸ List.mem_cons_of_mem _ List.mem_cons_self)
      exact (sb.2 b ne1).trans (fr b ob ne1 ne2 z)
    refine ⟨.ref s.heap.objs.size, _, I.turnedNew (t' := tk + 1) fr2 hf (Nat.le_refl _) (show ObjOk X.prog X.w _ _ _ (.tup [.int (i : Nat), x]) from ⟨by show 2 ≤ sizeLine; decide, [.int i tk, u'], .cons ⟨_, rfl⟩ (.cons ru .nil), ⟨_, tup2, rfl, _, rfl⟩⟩), rfl,
      ⟨_, x, rfl, I.hok.fresh (Nat.le_refl _), rfl, fun ys hy => (I.tuple_inj hy hq) ▸ hx⟩, ⟨⟨u', ?_⟩, st1.1.at fun o q => (sb.2 it hne.symm).trans q, hne⟩, fun b hb => ?_⟩
    · rw [show ((i + 1 : Nat) : Int) = (i : Int) + 1 by omega]
      exact back
    · have lb : b < s.heap.objs.size := two_mem hb (fun z => z ▸ lte) fun z => z ▸ lti
      rw [upd_ne (Nat.ne_of_lt lb)]
      exact (hf b hb).1
  done X hP hw hK hc i pins s σ H E I hf st hg := by
    subst hP hw hK
    obtain ⟨⟨old, he⟩, hit, hne⟩ := st
    obtain ⟨xs, hq, hx⟩ := hg
    obtain ⟨its, rv, tp, _⟩ := I.tuple hq
    have D := Draws.tuple (prog := X.prog) (w := X.w) (A := X.A.in1) (I.ok.hd hc) it a hai its.toArray
    have len := rv.length
    have ei : its.toArray.size = i := by rw [List.size_toArray, ← len, hx]
    obtain ⟨f0, f1, _, f3, f4, f5⟩ := hf it (List.mem_cons_of_mem _ List.mem_cons_self)
    exact wpAny_pyNext_enum_endD D he ⟨ei ▸ hit, tp⟩ fun h1 ext => ⟨rfl, I.turned (t' := s.toks) (fun b o nb z => ext b o nb z) f0 f1 f3 f4 f5⟩
  self A i s Q E st h := wpAny_pyIter_enum st.1.choose_spec h
def iEnumT (K : PySem.W.Frag) (ta : TA) : TI := fun σ H R => ta σ H fun vs H1 => ∃ a xs, vs = [.ref a] ∧ SqT K H1 a xs ∧ R (IteT K a) H1
theorem pi_enumT {X : Cx} {e : Expr} {ta : TA} {p pos tpos : Pos} {elts : List Expr} {kk : Nat} (hg : Gl X "enumerate") (hm : X.mg "enumerate" = none) (ha : PA X [e] ta) (hs : starEach [e] X.env = [(false, eval e X.env)] := by rfl) :
    PI X (.Tuple elts kk tpos) (.Call (.Name "enumerate" p) [e] [] pos) (iEnumT X.K ta) where
  run pins s σ H R I h := by
    refine Call_ (ld_blt I hg hm boot_enumerate (PyProof.Rows.callWith_type1 (thn (ha.run pos pins s σ H _ I h) fun us s1 ⟨vs, H1, I1, r1, a, xs, ex, hq, q⟩ => ?_) hs rfl))
    subst ex
    obtain ⟨u, rfl, ru⟩ := Vals.one r1
    cases ru
    obtain ⟨its, rv, tp, _⟩ := I1.tuple hq
    have at_ : a < s1.heap.objs.size := let ⟨_, z, _⟩ := tp; Heap.lt_size z
    obtain ⟨⟨cl, dd, dt, sl⟩, ho, hc, n, hd⟩ := id tp
    simp only at hc hd
    subst hc
    subst hd
    have hz : (s1.heap.push { cls := .type "tuple_iterator", data := .fields #[.ref a, .int 0 0] }).objs.size = s1.heap.objs.size + 1 := Heap.size_push ..
    have he : IsEnum (cells s1.heap a) (s1.heap.objs.size + 1) s1.heap.objs.size ((0 : Nat) : Int) .none := hz ▸ Heap.get?_push_size (s1.heap.push { cls := .type "tuple_iterator", data := .fields #[.ref a, .int 0 0] }) rfl
    have keep : ∀ b o, s1.heap.get? b = some o → (cells s1.heap a).get? b = some o := fun b o z => Heap.get?_push_of_some _ (Heap.get?_push_of_some _ z)
    refine callType_new F.called_enumerate (by decide) (F.typeCall_enumerate_1 _) (F.newCall_enumerate_1 _) (fun obj => F.args_object_init_2 obj _) F.entry_enumerate_new (new_meets a _ n dd sl) ⟨ho, ⟨_, he, rfl⟩, wpAny_pyIter_enum he ?_⟩
    have fresh : ∀ b ∈ [s1.heap.objs.size + 1, s1.heap.objs.size], s1.heap.objs.size ≤ b := fun b hb => two_mem hb (fun z => z ▸ Nat.le_succ _) fun z => z ▸ Nat.le_refl _
    exact ⟨_, _, _, _, H1, rfl, I1.kept (t' := s1.toks) keep, turnT a (s1.heap.objs.size + 1) s1.heap.objs.size (Nat.ne_of_lt at_) (Nat.ne_of_lt (Nat.lt_succ_of_lt at_)), ⟨⟨.none, he⟩, ⟨_, Heap.get?_push_of_some _ (Heap.get?_push_size _ rfl), rfl, rfl⟩, Nat.succ_ne_self _⟩, fun b hb => I1.fpOk (fresh b hb) (I1.hok.fresh (fresh b hb)), q⟩
theorem walk_enumT {K : PySem.W.Frag} {a : Addr} {xs : List V} : Walk (IteT K a) xs.length (fun H => SqT K H a xs) (YPair (fun i => some (.int (i : Nat))) (fun i => xs[i]?)) where
  goes i _ hi q := ⟨xs, _, q, List.getElem?_eq_getElem hi⟩
  stops _ q := ⟨xs, q, rfl⟩
  yields i H v H' _ q y := let ⟨T, x, h1, h2, h3, h4⟩ := y; ⟨T, .int (i : Nat), x, h1, h2, h3, rfl, h4 xs q⟩
end EnT

set_option maxRecDepth 100000
set_option maxHeartbeats 8000000
namespace Sg
open PySem PySem.Spec PyProof.Rows L2 Dr Gd Er Cm LD CM XT RT EnT RZ TF
abbrev sFU : Stmt := inClass cNum 6
abbrev sLO : Stmt := inClass cNum 7
abbrev sNAt : Stmt := inClass cNum 8
theorem walk_zipT {K : PySem.W.Frag} {a b : Addr} {xs ys : List V} {n : Nat} (hn : n = min xs.length ys.length) : Walk (ItzT K a b) n (fun H => SqT K H a xs ∧ SqT K H b ys) (YPair (fun i => xs[i]?) (fun i => ys[i]?)) := by
  subst hn
  refine ⟨fun i _ hi q => ?_, fun _ q => ⟨xs, ys, q.1, q.2, by omega⟩, fun i H v H' _ q y => ?_⟩
  · have h1 : i < xs.length := by omega
    have h2 : i < ys.length := by omega
    exact ⟨xs, ys, xs[i], ys[i], q.1, q.2, by simp [h1], by simp [h2]⟩
  · obtain ⟨T, x, z, h1, h2, h3, h4, h5⟩ := y
    exact ⟨T, x, z, h1, h2, h3, h4 xs q.1, h5 ys q.2⟩
theorem rd_var {i : Nat} {σ : L2.St} {H : Hp} {Q : VK} {v : V} (h : σ[i]? = some (some v)) (q : Q v H) : tVar i σ H Q := ⟨v, h, q⟩
section
variable {K : PySem.W.Frag} {CN : Addr} {U : Str → Bool} {H : Hp} {x lt lh lp dk : Addr} {Ts : List PyData} {Ns : List (List Nat)}
theorem rd_pl (hN : NumAt K CN U H x lt lh lp dk Ts Ns) (S : NCl K CN) {to ti : TE} {σ : L2.St} {u : Nat} {us : List Nat} {Q : VK} (ho : ∀ Q' : VK, Q' (.ref x) H → to σ H Q') (hi : ∀ Q' : VK, Q' (iV u) H → ti σ H Q') (hu : Ns[u]? = some us)
    (q : ∀ ta, KT H ta (us.map iV) → Q (.ref ta) H) : tOp (rIxL K) (tFld K to "places") ti σ H Q := by
  obtain ⟨dx, hx⟩ := hN.i
  obtain ⟨pv, hp, hpl⟩ := hN.p
  obtain ⟨a, e1, e2⟩ := hpl.get hu
  refine ho _ ⟨x, CN, dx, _, .ref lp, rfl, hx, S.cl, S.n3, rfl, ?_⟩
  exact hi _ ⟨lp, pv, (u : Int), .ref a, rfl, rfl, SqL.of hp, atI_nat e1, q a (e2.same delS_sub)⟩
end
theorem idx_false : ∀ bs : List Bool, false ∈ bs → bs[bs.idxOf false]? = some false ∧ ∀ m, m < bs.idxOf false → bs[m]? = some true
  | [], h => by cases h
  | false :: bs, _ => ⟨by simp, fun m h => by simp at h⟩
  | true :: bs, h => by
    have h : false ∈ bs := by simpa using h
    obtain ⟨a, b⟩ := idx_false bs h
    have e : (true :: bs).idxOf false = bs.idxOf false + 1 := by simp [List.idxOf_cons]
    rw [e]
    refine ⟨by simpa using a, fun m hm => ?_⟩
    cases m with
    | zero => rfl
    | succ m => simpa using b m (by omega)
theorem iV_at {us : List Nat} {i : Nat} {y : V} (h : (us.map iV)[i]? = some y) : ∃ n, us[i]? = some n ∧ y = iV n := by
  rw [List.getElem?_map] at h
  cases e : us[i]? with
  | none => rw [e] at h; cases h
  | some n => rw [e] at h; exact ⟨n, rfl, (Option.some.inj h).symm⟩
theorem iV_eq (a b : Nat) : decide (iV a = iV b) = (a == b) := by
  by_cases h : a = b
  · subst h
    simp
  · have : ¬ iV a = iV b := fun e => by
      have e : V.int (a : Int) = V.int (b : Int) := e
      injection e with e
      omega
    simp [h, this]
theorem same_take {us ws : List Nat} {i : Nat} {a b : Nat} (h1 : us[i]? = some a) (h2 : ws[i]? = some b) : (sameL (· == ·) us ws).take (i + 1) = (sameL (· == ·) us ws).take i ++ [a == b] := by
  have : (sameL (· == ·) us ws)[i]? = some (a == b) := by
    unfold sameL
    rw [List.getElem?_zipWith, h1, h2]
  rw [List.take_add_one, this]
  rfl
def spFU (K : PySem.W.Frag) (CN : Addr) (U : Str → Bool) : Sp := fun vs H Q _ => ∃ x lt lh lp dk Ts Ns us ws, ∃ u v : Nat, vs = [.ref x, iV u, iV v] ∧ NumAt K CN U H x lt lh lp dk Ts Ns ∧ Ns[u]? = some us ∧ Ns[v]? = some ws ∧ us.length ≤ 5000 ∧ false ∈ sameL (· == ·) us ws ∧
  ∀ H', Same H H' → Q (iV (fuI (· == ·) us ws)) H'
section
variable {P : Program} {w : World} {K : PySem.W.Frag} {mg : Str → Option Value} {base : Heap} {CN : Addr} {U : Str → Bool}
theorem scFU : FnScope ["self", "u", "v", "same", "a", "b"] ["self", "u", "v"] (defScope sFU) := ⟨rfl, rfl, rfl, by decide +kernel, rfl, by decide +kernel, by decide +kernel⟩
theorem ok_FU {f : Addr} {fd : FuncData} (F : Fun K "first_unlike" "Numbered.first_unlike" sFU f fd) (S : NCl K CN) (hz : mg "zip" = none) : FnOk P w K mg base CX0 1 f fd ["self", "u", "v"] (spFU K CN U) := by
  refine F.ok scFU (fun vs H Q E h => ?_) (fun cdv A outer s H vs Q E hr h => ?_)
  · obtain ⟨x, lt, lh, lp, dk, Ts, Ns, us, ws, u, v, rfl, _⟩ := h
    rfl
  · obtain ⟨x, lt, lh, lp, dk, Ts, Ns, us, ws, u, v, rfl, hN, hu, hv, l5, hf, q⟩ := h
    have nd := scFU.nd
    refine ⟨_, pss_cons (ps_setLc (i := 3) (own := [("a", 4), ("b", 5)]) (g := gTup K 2 (gCons (gName 4) (gCons (gName 5) gNil))) (tt := tYes) (te := tOp rEq (tVar 4) (tVar 5)) (by rfl) nd rfl rfl (sw_true rfl rfl rfl (by decide +kernel))
        (pi_zipA (by rfl) hz (pa_cons (pe_ix ix_list (pe_fld (pv 0) rfl) (pv 1) fun _ _ => rfl) (pa_cons (pe_ix ix_list (pe_fld (pv 0) rfl) (pv 2) fun _ _ => rfl) pa_nil))) (blkOk_by (N := ["self", "u", "v", "same", "a", "b"]) (sc := defScope sFU) (by decide +kernel))
        (fun _ _ _ _ _ => pg_tup rfl (pgs_cons (pg_name (i := 4) nd rfl (Or.inl rfl)) (pgs_cons (pg_name (i := 5) nd rfl (Or.inl rfl)) pgs_nil))) (fun _ _ _ _ _ => pts_nil)
        (fun _ _ _ _ _ => pe_cmpR op_eq (pv 4) (pv 5) (nomark _)))
      (pss_one (ps_ret (pe_bm PySem.F.plainAttrs_list PySem.F.slot_list_index PySem.F.type_list_index mt_index (pv 3) (pa_cons pe_bl pa_nil)))), ?_⟩
    refine rd_pl hN S (fun Q' q' => rd_var rfl q') (fun Q' q' => rd_var rfl q') hu fun ta hta => ?_
    refine rd_pl hN S (fun Q' q' => rd_var rfl q') (fun Q' q' => rd_var rfl q') hv fun tb htb => ?_
    refine ⟨ta, tb, us.map iV, ws.map iV, rfl, .inr ⟨hta.sq, htb.sq, fun D hD => ?_⟩⟩
    have ln : (sameL (· == ·) us ws).length = min us.length ws.length := by unfold sameL; rw [List.length_zipWith]
    have e0 : min (us.map iV).length (ws.map iV).length = min us.length ws.length := by rw [List.length_map, List.length_map]
    refine lc_it (walk_zipT (n := min us.length ws.length) e0.symm) (fun i H' => Same H H' ∧ H' D = some (.lst (((sameL (· == ·) us ws).take i).map V.bl))) ⟨same_upd hD, upd_same⟩ (fun i H' hi hp => ⟨seqT_same hp.1 hta.sq, seqT_same hp.1 htb.sq⟩) (fun i y H1 H2 hi hp hy => ?_) (fun H' hp => ?_)
    · obtain ⟨sm, hDl⟩ := hp
      obtain ⟨t, n1, z1, rfl, hT, rfl, e1, e2⟩ := hy
      obtain ⟨a, ea, rfl⟩ := iV_at e1
      obtain ⟨b, eb, rfl⟩ := iV_at e2
      have sT := same_upd (o := .tup [iV a, iV b]) hT
      refine ⟨t, _, rfl, SqT.of upd_same, rfl, ?_⟩
      refine ⟨_, _, rfl, _, _, rfl, rfl, ?_⟩
      refine ⟨rfl, lcYes ?_⟩
      have D1 := sT _ _ hDl
      refine ⟨_, rfl, _, rfl, rfl, _, D1, ?_, ?_, ?_⟩
      · rw [List.length_map]
        exact Nat.lt_of_le_of_lt (Nat.le_trans (List.length_take_le _ _) (Nat.le_trans (Nat.le_of_lt hi) (Nat.le_trans (Nat.min_le_left _ _) l5))) (by decide)
      · exact fun c o e => by
          rw [upd_ne (ne_of_none e hD)]
          exact sT _ _ (sm c o e)
      · rw [upd_same, same_take ea eb, List.map_append, iV_eq]
        rfl
    · obtain ⟨sm, hDl⟩ := hp
      rw [← ln, List.take_length] at hDl
      obtain ⟨i1, i2⟩ := idx_false _ hf
      refine ⟨_, rfl, .inl ⟨rfl, _, SqL.of hDl⟩, D, _, .bl false, (sameL (· == ·) us ws).idxOf false, .bl false, rfl, rfl, SqL.of hDl, rfl, ?_, ?_, rfl, fun m z hm hz => ?_, q _ sm⟩
      · rw [List.all_map]
        exact List.all_eq_true.mpr fun _ _ => rfl
      · rw [List.getElem?_map, i1]
        rfl
      · rw [List.getElem?_map, i2 m hm] at hz
        cases hz
        rfl
def spNAt (K : PySem.W.Frag) (CN : Addr) (U : Str → Bool) : Sp := fun vs H Q _ => ∃ x lt lh lp dk Ts Ns us ws, ∃ u v i j a b : Nat, vs = [.ref x, iV u, iV i, iV v, iV j] ∧ NumAt K CN U H x lt lh lp dk Ts Ns ∧ Ns[u]? = some us ∧ Ns[v]? = some ws ∧ us[i]? = some a ∧ ws[j]? = some b ∧
  ∀ t H', Same H H' → H t = none → H' t = some (.tup [iV a, iV b]) → Q (.ref t) H'
theorem scNAt : FnScope ["self", "u", "i", "v", "j"] ["self", "u", "i", "v", "j"] (defScope sNAt) := ⟨rfl, rfl, rfl, by decide +kernel, rfl, by decide +kernel, by decide +kernel⟩
theorem map_at {us : List Nat} {i a : Nat} (h : us[i]? = some a) : (us.map iV)[i]? = some (iV a) := by rw [List.getElem?_map, h]; rfl
theorem ok_NAt {f : Addr} {fd : FuncData} (F : Fun K "at" "Numbered.at" sNAt f fd) (S : NCl K CN) : FnOk P w K mg base CX0 1 f fd ["self", "u", "i", "v", "j"] (spNAt K CN U) := by
  refine F.ok scNAt (fun vs H Q E h => ?_) (fun cdv A outer s H vs Q E hr h => ?_)
  · obtain ⟨x, lt, lh, lp, dk, Ts, Ns, us, ws, u, v, i, j, a, b, rfl, _⟩ := h
    rfl
  · obtain ⟨x, lt, lh, lp, dk, Ts, Ns, us, ws, u, v, i, j, a, b, rfl, hN, hu, hv, hi, hj, q⟩ := h
    refine ⟨_, pss_one (ps_ret (pe_tup (pa_cons (pe_ix ix_tup (pe_ix ix_list (pe_fld (pv 0) rfl) (pv 1) fun _ _ => rfl) (pv 2) fun _ _ => rfl) (pa_cons (pe_ix ix_tup (pe_ix ix_list (pe_fld (pv 0) rfl) (pv 3) fun _ _ => rfl) (pv 4) fun _ _ => rfl) pa_nil)))), ?_⟩
    refine rd_pl hN S (fun Q' q' => rd_var rfl q') (fun Q' q' => rd_var rfl q') hu fun ta hta => ?_
    refine ⟨_, rfl, ta, _, (i : Int), iV a, rfl, rfl, hta.sq, atI_nat (map_at hi), ?_⟩
    refine rd_pl hN S (fun Q' q' => rd_var rfl q') (fun Q' q' => rd_var rfl q') hv fun tb htb => ?_
    refine ⟨_, rfl, tb, _, (j : Int), iV b, rfl, rfl, htb.sq, atI_nat (map_at hj), ?_⟩
    exact ⟨(by show 2 ≤ sizeLine; decide), fun t ht => q t _ (same_upd ht) ht upd_same⟩
end
end Sg

set_option maxRecDepth 100000
set_option maxHeartbeats 8000000
namespace Sg
open PySem PySem.Spec PyProof.Rows L2 Dr Gd Er Cm LD CM XT RT EnT RZ TF
theorem KT_ne {H : Hp} {a b : Addr} {xs ys : List V} (h : H a = some (.lst xs)) (g : TF.KT H b ys) : a ≠ b := fun z => by
  obtain ⟨o, _, e⟩ := g
  rw [← z, h] at e
  cases e
theorem erase_at : ∀ {ks : List Nat} {k : Nat}, k ∈ ks → ∃ j, ks[j]? = some k ∧ (∀ m, m < j → ks[m]? ≠ some k) ∧ ks.eraseIdx j = ks.erase k
  | [], k, h => by cases h
  | a :: ks, k, h => by
    by_cases e : a = k
    · subst e
      exact ⟨0, rfl, fun m hm => by omega, by simp⟩
    · have h : k ∈ ks := by
        rcases List.mem_cons.mp h with z | z
        · exact absurd z.symm e
        · exact z
      obtain ⟨j, h1, h2, h3⟩ := erase_at h
      refine ⟨j + 1, by simpa using h1, fun m hm => ?_, ?_⟩
      · cases m with
        | zero => simpa using e
        | succ m => simpa using h2 m (by omega)
      · rw [List.eraseIdx_cons_succ, h3, List.erase_cons_tail (by simpa using e)]
theorem filter_take {α : Type} (p : α → Bool) {l : List α} {i : Nat} {a : α} (h : l[i]? = some a) : (l.take (i + 1)).filter p = (l.take i).filter p ++ (if p a then [a] else []) := by
  rw [List.take_add_one, h, List.filter_append]
  congr 1
  by_cases hp : p a = true
  · simp [hp]
  · simp [hp]
theorem lov_len {α : Type} {eq : α → α → Bool} {us : List α} : ∀ (bs : List α) (j : Nat) (kept over : List Nat), (lov eq us bs j kept over).1.length ≤ kept.length ∧ (lov eq us bs j kept over).2.length ≤ over.length + bs.length
  | [], j, kept, over => ⟨Nat.le_refl _, by simp [lov]⟩
  | b :: bs, j, kept, over => by
    rw [lov]
    split
    · obtain ⟨h1, h2⟩ := lov_len (eq := eq) (us := us) bs (j + 1) kept (over ++ [j])
      refine ⟨h1, ?_⟩
      rw [List.length_append] at h2
      simp only [List.length_cons, List.length_nil] at h2 ⊢
      omega
    · rename_i i _ _
      obtain ⟨h1, h2⟩ := lov_len (eq := eq) (us := us) bs (j + 1) (kept.erase i) over
      have := List.length_erase_le (a := i) (l := kept)
      simp only [List.length_cons]
      exact ⟨by omega, by omega⟩
theorem idx_map {α β : Type} (f : α → β) : ∀ (l : List α) (j : Nat), (l.eraseIdx j).map f = (l.map f).eraseIdx j
  | [], j => by simp
  | a :: l, 0 => rfl
  | a :: l, j + 1 => by rw [List.eraseIdx_cons_succ, List.map_cons, List.map_cons, List.eraseIdx_cons_succ, idx_map f l j]
def LovOk (us ws : List Nat) (kept over : List Nat) : Prop := leftO (· == ·) us ws = (kept, over)
def spLO (K : PySem.W.Frag) (CN : Addr) (U : Str → Bool) : Sp := fun vs H Q _ => ∃ x lt lh lp dk Ts Ns us ws, ∃ u v : Nat, vs = [.ref x, iV u, iV v] ∧ NumAt K CN U H x lt lh lp dk Ts Ns ∧ Ns[u]? = some us ∧ Ns[v]? = some ws ∧ us.length ≤ 5000 ∧ ws.length ≤ 5000 ∧
  ∀ t ka oa kept over H', Same H H' → H t = none → H ka = none → H oa = none → ka ≠ oa → H' t = some (.tup [.ref ka, .ref oa]) → H' ka = some (.lst (kept.map iV)) → H' oa = some (.lst (over.map iV)) → leftO (· == ·) us ws = (kept, over) → Q (.ref t) H'
section
variable {P : Program} {w : World} {K : PySem.W.Frag} {mg : Str → Option Value} {base : Heap} {CN : Addr} {U : Str → Bool}
theorem rg_nat (n : Nat) : rgV 0 (n : Int) = (List.range n).map iV := by
  unfold rgV
  rw [show ((n : Int) - 0).toNat = n by omega]
  refine List.map_congr_left fun i _ => ?_
  show V.int (0 + (i : Int)) = V.int (i : Int)
  rw [Int.zero_add]
theorem int_map (ks : List Nat) : (ks.map fun k => ((k : Nat) : Int)).map V.int = ks.map iV := by rw [List.map_map]; rfl
theorem scLO : FnScope ["self", "u", "v", "kept", "over", "j", "b", "same", "i"] ["self", "u", "v"] (defScope sLO) := ⟨rfl, rfl, rfl, by decide +kernel, rfl, by decide +kernel, by decide +kernel⟩
theorem ok_LO {f : Addr} {fd : FuncData} (F : Fun K "left_over" "Numbered.left_over" sLO f fd) (S : NCl K CN) (hl : mg "list" = none) (hr : mg "range" = none) (hn : mg "len" = none) (he : mg "enumerate" = none) : FnOk P w K mg base CX0 1 f fd ["self", "u", "v"] (spLO K CN U) := by
  refine F.ok scLO (fun vs H Q E h => ?_) (fun cdv A outer s H vs Q E hr' h => ?_)
  · obtain ⟨x, lt, lh, lp, dk, Ts, Ns, us, ws, u, v, rfl, _⟩ := h
    rfl
  · obtain ⟨x, lt, lh, lp, dk, Ts, Ns, us, ws, u, v, rfl, hN, hu, hv, l5, w5, q⟩ := h
    have nd := scLO.nd
    refine ⟨_, pss_cons (ps_set (i := 3) nd rfl (Or.inl rfl) (pe_listRg (by rfl) (by rfl) hl (prg_1 (by rfl) hr (pe_callB call_len_seq (by rfl) hn PySem.boot_len (pa_cons (pe_ix ix_list (pe_fld (pv 0) rfl) (pv 1) fun _ _ => rfl) pa_nil)))))
      (pss_cons (ps_set (i := 4) nd rfl (Or.inl rfl) (pe_lst pa_nil))
      (pss_cons (ps_for PassesOwn.never rfl (pi_enumT (by rfl) he (pa_cons (pe_ix ix_list (pe_fld (pv 0) rfl) (pv 2) fun _ _ => rfl) pa_nil)) (pg_tup rfl (pgs_cons (pg_name (i := 5) nd rfl (Or.inl rfl)) (pgs_cons (pg_name (i := 6) nd rfl (Or.inr rfl)) pgs_nil)))
        (pss_cons (ps_setLc (i := 7) (own := [("i", 8)]) (g := gName 8) (tt := tTest (tOp rEq (tOp (rIxT K) (tOp (rIxL K) (tFld K (tVar 0) "places") (tVar 1)) (tVar 8)) (tVar 6))) (te := tVar 8) (by rfl) nd rfl rfl (sw_true rfl rfl rfl (by decide +kernel))
            (pi_list (pv 3)) (blkOk_by (N := ["self", "u", "v", "kept", "over", "j", "b", "same", "i"]) (sc := defScope sLO) (by decide +kernel)) (fun _ _ _ _ _ => pg_name (i := 8) nd rfl (Or.inl rfl))
            (fun _ _ _ _ _ => pts_one (pt_cmpR op_eq (pe_ix ix_tup (pe_ix ix_list (pe_fld (pv 0) rfl) (pv 1) fun _ _ => rfl) (pv 8) fun _ _ => rfl) (pv 6) (nomark _))) (fun _ _ _ _ _ => pv 8))
        (pss_one (ps_if (pt_truth (pv 7) (by intro _; rfl))
          (pss_one (ps_expr (pe_bm PySem.F.plainAttrs_list PySem.F.slot_list_remove PySem.F.type_list_remove mt_remove (pv 3) (pa_cons (pe_ix ix_list (pv 7) pe_int fun _ _ => rfl) pa_nil))))
          (pss_one (ps_expr (pe_bm PySem.F.plainAttrs_list PySem.F.slot_list_append PySem.F.type_list_append mt_append (pv 4) (pa_cons (pv 5) pa_nil))))))))
      (pss_one (ps_ret (pe_tup (pa_cons (pv 3) (pa_cons (pv 4) pa_nil))))))), ?_⟩
    have big : (20000 : Nat) ≤ sizeLine := by decide
    refine rd_pl hN S (fun Q' q' => rd_var rfl q') (fun Q' q' => rd_var rfl q') hu fun ta hta => ?_
    refine ⟨ta, us.map iV, rfl, .inr (hta.sq), _, rfl, ?_⟩
    rw [List.length_map]
    refine ⟨RgOk.of_le (by decide) (by omega) (by decide) (by omega), fun ka hka => ?_⟩
    rw [rg_nat]
    have s1 := same_upd (o := .lst ((List.range us.length).map iV)) hka
    have e1 : (L2.upd H ka (.lst ((List.range us.length).map iV))) ka = some (.lst ((List.range us.length).map iV)) := upd_same
    generalize (L2.upd H ka (.lst ((List.range us.length).map iV))) = H1 at s1 e1 ⊢
    refine ⟨Nat.zero_le _, fun oa hoa => ?_⟩
    have s2 := same_upd (o := .lst []) hoa
    have e2 : (L2.upd H1 oa (.lst [])) oa = some (.lst []) := upd_same
    have e12 := s2 _ _ e1
    have hoa0 : H oa = none := Same.free s1 hoa
    have kao : ka ≠ oa := ne_of_none e1 hoa
    generalize (L2.upd H1 oa (.lst [])) = H2 at s2 e2 e12 ⊢
    have s02 := Same.trans s1 s2
    refine rd_pl (hN.same s02) S (fun Q' q' => rd_var rfl q') (fun Q' q' => rd_var rfl q') hv fun tb htb => ?_
    refine ⟨tb, ws.map iV, rfl, htb.sq, ?_⟩
    refine for_it (walk_enumT (xs := ws.map iV)) (fun i σ H' => ∃ kept over c5 c6 c7, σ = [some (.ref x), some (iV u), some (iV v), some (.ref ka), some (.ref oa), c5, c6, c7, none] ∧ Same H H' ∧ KT H' tb (ws.map iV) ∧ H' ka = some (.lst (kept.map iV)) ∧ H' oa = some (.lst (over.map iV)) ∧ leftO (· == ·) us ws = lov (· == ·) us (ws.drop i) i kept over ∧ kept.length ≤ us.length ∧ over.length ≤ i ∧ ∀ k ∈ kept, k < us.length)
      ⟨_, [], none, none, none, rfl, s02, htb, e12, e2, by rw [List.drop_zero]; rfl, by rw [List.length_range]; exact Nat.le_refl _, Nat.le_refl _, fun k hk => List.mem_range.mp hk⟩ (fun i σ H' hi hp => by obtain ⟨_, _, _, _, _, _, _, hb, _⟩ := hp; exact hb.sq) (fun i y σ H1 H3 hi hp hy => ?_) (fun σ H' hp => ?_)
    · obtain ⟨kept, over, c5, c6, c7, rfl, sm, hb, hk, ho, hlo, lk, lo', hlt⟩ := hp
      obtain ⟨t, n1, z1, rfl, hT, rfl, e1, e2⟩ := hy
      cases e1
      obtain ⟨b, eb, rfl⟩ := iV_at e2
      rw [List.length_map] at hi
      have sT := same_upd (o := .tup [V.int (i : Nat), iV b]) hT
      have eT : (L2.upd H1 t (.tup [V.int (i : Nat), iV b])) t = some (.tup [V.int (i : Nat), iV b]) := upd_same
      have sm1 := Same.trans sm sT
      have hb1 := hb.same sT
      have hk1 := sT _ _ hk
      have ho1 := sT _ _ ho
      generalize (L2.upd H1 t (.tup [V.int (i : Nat), iV b])) = H2' at sT eT sm1 hb1 hk1 ho1 ⊢
      refine ⟨t, _, rfl, SqT.of eT, rfl, ?_⟩
      refine ⟨_, _, rfl, _, _, rfl, rfl, ?_⟩
      refine ⟨_, rfl, ka, rfl, ⟨_, SqL.of hk1⟩, fun D hD => ?_⟩
      have nD : ∀ {c : Addr} {o : HO}, H2' c = some o → c ≠ D := fun e => ne_of_none e hD
      refine lc_it (walk_list (xs := kept.map iV)) (fun m H' => Same H2' H' ∧ H' D = some (.lst (((kept.take m).filter (at1 (· == ·) us b)).map iV))) ⟨same_upd hD, upd_same⟩ (fun m H' hm hp => Same.seq hp.1 (SqL.of hk1)) (fun m y Hq H' hm hp hy => ?_) (fun H' hp => ?_)
      · obtain ⟨sd, hDl⟩ := hp
        obtain ⟨rfl, ey⟩ := hy
        obtain ⟨k, ek, rfl⟩ := iV_at ey
        refine ⟨rfl, ?_⟩
        refine rd_pl (hN.same (Same.trans sm1 sd)) S (fun Q' q' => rd_var rfl q') (fun Q' q' => rd_var rfl q') hu fun tc htc => ?_
        have kr : k < us.length := hlt k (List.mem_of_getElem? ek)
        obtain ⟨a, ea⟩ : ∃ a, us[k]? = some a := ⟨_, List.getElem?_eq_getElem kr⟩
        refine ⟨_, rfl, tc, _, (k : Int), iV a, rfl, rfl, htc.sq, atI_nat (map_at ea), ?_⟩
        refine ⟨_, rfl, rfl, _, rfl, ?_⟩
        rw [iV_eq]
        have ef := filter_take (at1 (· == ·) us b) ek
        have ea1 : at1 (· == ·) us b k = (a == b) := by
          unfold at1
          rw [ea]
        rw [ea1] at ef
        refine ite2 (fun c => ?_) (fun c => ?_)
        · refine ⟨_, rfl, _, hDl, ?_, ?_, ?_⟩
          · rw [List.length_map]
            have := List.length_filter_le (at1 (· == ·) us b) (kept.take m)
            rw [List.length_take] at this
            exact Nat.lt_of_lt_of_le (show _ < 20000 by omega) big
          · exact fun c o e => by
              rw [upd_ne (nD e)]
              exact sd c o e
          · rw [upd_same, ef, c, List.map_append]
            rfl
        · refine ⟨sd, ?_⟩
          have c : (a == b) = false := by simpa using c
          rw [ef, c]
          simpa using hDl
      · obtain ⟨sd, hDl⟩ := hp
        rw [List.length_map, List.take_length] at hDl
        have sm2 := Same.trans sm1 sd
        have hb2 := hb1.same sd
        have hk2 := sd _ _ hk1
        have ho2 := sd _ _ ho1
        have edr : ws.drop i = b :: ws.drop (i + 1) := by
          obtain ⟨h, e⟩ := List.getElem?_eq_some_iff.mp eb
          rw [List.drop_eq_getElem_cons h, e]
        rw [edr, lov] at hlo
        have kaD : ka ≠ tb := KT_ne hk2 hb2
        have oaD : oa ≠ tb := KT_ne ho2 hb2
        refine ⟨_, rfl, !((kept.filter (at1 (· == ·) us b)).map iV).isEmpty, .inl ⟨_, SqL.of hDl, rfl⟩, ?_⟩
        cases ef : kept.filter (at1 (· == ·) us b) with
        | nil =>
          rw [ef] at hlo
          refine iteF ?_
          refine ⟨_, rfl, .inl ⟨rfl, _, SqL.of ho2⟩, _, rfl, oa, _, .int (i : Nat), rfl, rfl, ho2, Nat.lt_of_lt_of_le (show (over.map iV).length < 20000 by rw [List.length_map]; omega) big, ?_⟩
          refine ⟨kept, over ++ [i], _, _, _, rfl, fun c o e => ?_, ?_, ?_, ?_, hlo, lk, ?_, hlt⟩
          · rw [upd_ne (ne_of_none e hoa0)]
            exact sm2 c o e
          · obtain ⟨o, z1, z2⟩ := hb2; exact ⟨o, z1, by rw [upd_ne oaD.symm]; exact z2⟩
          · rw [upd_ne kao]; exact hk2
          · rw [upd_same, List.map_append]; rfl
          · rw [List.length_append]; exact Nat.succ_le_succ lo'
        | cons k r =>
          rw [ef] at hlo hDl
          have hkm : k ∈ kept := (List.mem_filter.mp (by rw [ef]; exact List.mem_cons_self)).1
          obtain ⟨j, j1, j2, j3⟩ := erase_at hkm
          refine iteT ?_
          refine ⟨_, rfl, .inl ⟨rfl, _, SqL.of hk2⟩, _, rfl, D, _, 0, iV k, rfl, rfl, SqL.of hDl, atI_zero _ _, ka, kept.map (fun k => ((k : Nat) : Int)), (k : Int), j, rfl, rfl, by rw [int_map]; exact hk2, by rw [List.getElem?_map, j1]; rfl, fun m hm e => ?_, ?_⟩
          · rw [List.getElem?_map] at e
            cases em : kept[m]? with
            | none => rw [em] at e; cases e
            | some z =>
              rw [em] at e
              have e := Option.some.inj e
              have e : ((z : Nat) : Int) = ((k : Nat) : Int) := e
              have : z = k := by omega
              exact j2 m hm (by rw [em, this])
          · rw [← idx_map, j3, int_map]
            refine ⟨kept.erase k, over, _, _, _, rfl, fun c o e => ?_, ?_, upd_same, ?_, hlo, ?_, ?_, fun z hz => hlt z (List.mem_of_mem_erase hz)⟩
            · rw [upd_ne (ne_of_none e hka)]
              exact sm2 c o e
            · obtain ⟨o, z1, z2⟩ := hb2; exact ⟨o, z1, by rw [upd_ne kaD.symm]; exact z2⟩
            · rw [upd_ne kao.symm]; exact ho2
            · exact Nat.le_trans (List.length_erase_le ..) lk
            · omega
    · obtain ⟨kept, over, c5, c6, c7, rfl, sm, hb, hk, ho, hlo, lk, lo', hlt⟩ := hp
      rw [List.length_map, List.drop_length] at hlo
      refine ⟨_, rfl, _, rfl, (by show 2 ≤ sizeLine; decide), fun t ht => ?_⟩
      have st := same_upd (o := .tup [.ref ka, .ref oa]) ht
      exact q t ka oa kept over _ (Same.trans sm st) (Same.free sm ht) hka hoa0 kao upd_same (st _ _ hk) (st _ _ ho) hlo
end
end Sg

set_option maxRecDepth 100000
set_option maxHeartbeats 8000000
namespace Sg
open PySem PySem.Spec PyProof.Rows L2 Dr Gd Er Cm LD CM XT RT EnT RZ
abbrev cPair : Stmt := top 6
abbrev sPInit : Stmt := inClass cPair 0
abbrev sCase : Stmt := inClass cPair 1
abbrev sWArgs : Stmt := inClass cPair 2
mutual
theorem dp_offI {K : PySem.W.Frag} {U : Str → Bool} {Z Z' : Hp} (s : ∀ b o, Z b = some o → (∀ C d f, o ≠ .ins C d f) → Z' b = some o) : ∀ (d : PyData) (v : V), okN U d = true → Dp K Z v d → Dp K Z' v d
  | .str z, v, _, h => by cases h; exact .str z
  | .tuple [], v, h, _ => by simp [okN] at h
  | .tuple (e :: r), v, h, hd => by
    rcases okN_case h with ⟨z, e', _⟩ | ⟨z, r', e', _, h2⟩
    · cases e'
    · injection e' with e'
      injection e' with e1 e2
      subst e2
      subst e1
      cases hd with
      | tup g1 g2 =>
        cases g2 with
        | cons p1 p2 =>
          cases p1
          refine .tup ?_ (.cons (.str z) (dps_offI s r _ h2 p2))
          rcases g1 with (e | ⟨u, e⟩) | k
          · exact .inl (.inl (s _ _ e (fun C d f z => by cases z)))
          · exact .inl (.inr ⟨u, s _ _ e (fun C d f z => by cases z)⟩)
          · exact .inr k
  | .none, v, h, _ => by simp [okN] at h
  | .bool _, v, h, _ => by simp [okN] at h
  | .int _, v, h, _ => by simp [okN] at h
  | .list _, v, h, _ => by simp [okN] at h
  | .dict _, v, h, _ => by simp [okN] at h
theorem dps_offI {K : PySem.W.Frag} {U : Str → Bool} {Z Z' : Hp} (s : ∀ b o, Z b = some o → (∀ C d f, o ≠ .ins C d f) → Z' b = some o) : ∀ (ds : List PyData) (vs : List V), okNs U ds = true → DpAll K Z vs ds → DpAll K Z' vs ds
  | [], vs, _, h => by cases h; exact .nil
  | d :: ds, vs, h, hd => by
    rw [okNs, Bool.and_eq_true] at h
    cases hd with
    | cons a b => exact .cons (dp_offI s d _ h.1 a) (dps_offI s ds _ h.2 b)
end
theorem PlR.offI {Z Z' : Hp} (s : ∀ b o, Z b = some o → (∀ C d f, o ≠ .ins C d f) → Z' b = some o) : ∀ {vs : List V} {Ns : List (List Nat)}, PlR Z vs Ns → PlR Z' vs Ns
  | [], [], _ => trivial
  | [], _ :: _, h => h.elim
  | _ :: _, [], h => h.elim
  | v :: vs, ns :: Ns, ⟨⟨a, e, o, h1, h⟩, r⟩ => ⟨⟨a, e, o, h1, s _ _ h (fun C d f z => by cases z)⟩, r.offI s⟩
/-- an instance changes that is not the store -/
theorem NumAt.x {K : PySem.W.Frag} {CN : Addr} {U : Str → Bool} {H H' : Hp} {x lt lh lp dk p C d : Addr} {fs : List (Str × V)} {Ts : List PyData} {Ns : List (List Nat)} (h : NumAt K CN U H x lt lh lp dk Ts Ns) (hp : H p = some (.ins C d fs)) (px : x ≠ p) (s : SameX p H H') : NumAt K CN U H' x lt lh lp dk Ts Ns := by
  obtain ⟨dx, a⟩ := h.i
  obtain ⟨tv, b, c⟩ := h.t
  obtain ⟨pv, e, f⟩ := h.p
  have s0 : ∀ b o, H b = some o → (∀ C d f, o ≠ .ins C d f) → H' b = some o := fun b o e n => s _ _ e fun z => by
    rw [z, hp] at e
    exact n _ _ _ (Option.some.inj e).symm
  have s1 : ∀ b o, delS [lt, lh, lp, dk] H b = some o → (∀ C d f, o ≠ .ins C d f) → delS [lt, lh, lp, dk] H' b = some o := fun b o e n => by
    obtain ⟨e1, e2⟩ := delS_inv e
    rw [delS_of e1]
    exact s0 _ _ e2 n
  exact ⟨⟨dx, s _ _ a px⟩, ⟨tv, s0 _ _ b (fun _ _ _ z => by cases z), dps_offI s1 _ _ (okNs_all h.wf.ok) c⟩, s0 _ _ h.h (fun _ _ _ z => by cases z), ⟨pv, s0 _ _ e (fun _ _ _ z => by cases z), f.offI s1⟩, s0 _ _ h.k (fun _ _ _ z => by cases z), h.wf⟩
theorem dc_it {J : It} {n : Nat} {G : Hp → Prop} {Y : Nat → Hp → V → Hp → Prop} (w : Walk J n G Y) {g : TG} {tt : TT} {tk tv : TE} {vs : List Nat} {σ : L2.St} {H1 : Hp} {D : Addr} {Qd : Hp → Prop} (Pv : Nat → Hp → Prop) (h0 : Pv 0 (L2.upd H1 D (.dK []))) (hG : ∀ i H, i ≤ n → Pv i H → G H)
    (hs : ∀ i x H H', i < n → Pv i H → Y i H x H' → g x (wipe σ vs) H' fun σ2 H2 => wipe σ2 vs = wipe σ vs ∧ tt σ2 H2 fun b H3 =>
      if b = true then tk σ2 H3 fun y H4 => tv σ2 H4 fun z H5 => ∃ kvs k, y = kV k ∧ H5 D = some (.dK kvs) ∧ kvs.length < sizeLine ∧ Pv (i + 1) (L2.upd H5 D (.dK (putK kvs k z))) else Pv (i + 1) H3) (hd : ∀ H, Pv n H → Qd H) :
    ∃ W : Nat → Nat → Hp → Prop, (∃ m, W 0 m (L2.upd H1 D (.dK []))) ∧ ∀ i m H, W i m H →
      (J.stop i H ∧ Qd H) ∨ (J.go i H ∧ ∃ Nx : Hp → Prop, (∀ H', Nx H' → ∃ m', m' < m ∧ W (i + 1) m' H') ∧ ∀ x H', J.yld i H x H' → g x (wipe σ vs) H' fun σ2 H2 => wipe σ2 vs = wipe σ vs ∧ tt σ2 H2 fun b H3 =>
        if b = true then tk σ2 H3 fun y H4 => tv σ2 H4 fun z H5 => ∃ kvs k, y = kV k ∧ H5 D = some (.dK kvs) ∧ kvs.length < sizeLine ∧ Nx (L2.upd H5 D (.dK (putK kvs k z))) else Nx H3) := by
  refine ⟨fun i m H => m = n - i ∧ i ≤ n ∧ Pv i H, ⟨n, by simp, Nat.zero_le _, h0⟩, ?_⟩
  rintro i m H ⟨rfl, hi, p⟩
  have q := hG i H hi p
  by_cases hlt : i < n
  · refine .inr ⟨w.goes i H hlt q, Pv (i + 1), fun H' p' => ⟨n - (i + 1), by omega, rfl, hlt, p'⟩, fun x H' y => hs i x H H' hlt p (w.yields i H x H' hlt q y)⟩
  · have e : i = n := by omega
    subst e
    exact .inl ⟨w.stops H q, hd H p⟩
def rankF : List Str → Nat → List (Key × V)
  | [], _ => []
  | z :: r, i => (.inr z, iV i) :: rankF r (i + 1)
def lotF (lots : List Str) : List (Key × V) := lots.map fun z => (.inr z, .bl true)
theorem rank_val (z : Str) : ∀ (row : List Str) (i : Nat), valV (rankF row i) (.inr z) = if z ∈ row then some (iV (i + row.idxOf z)) else none
  | [], i => by simp [rankF, valV_nil]
  | y :: row, i => by
    by_cases h : y = z
    · subst h
      rw [rankF, valV_pos rfl]
      simp
    · have hn : ¬ (Sum.inr y : Key) = .inr z := fun e => h (by injection e)
      rw [rankF, valV_neg hn, rank_val z row (i + 1)]
      have h' : ¬ z = y := fun e => h e.symm
      have : (y :: row).idxOf z = row.idxOf z + 1 := by
        have e : (y == z) = false := by simpa using h
        simp [List.idxOf_cons, e]
      rw [this]
      simp only [List.mem_cons, h', false_or]
      rw [show i + 1 + row.idxOf z = i + (row.idxOf z + 1) by omega]
theorem rank_app (z : Str) : ∀ (row : List Str) (i : Nat), rankF (row ++ [z]) i = rankF row i ++ [(.inr z, iV (i + row.length))]
  | [], i => rfl
  | y :: row, i => by
    show (_, _) :: rankF (row ++ [z]) (i + 1) = (_, _) :: (rankF row (i + 1) ++ _)
    rw [rank_app z row (i + 1), List.length_cons, show i + 1 + row.length = i + (row.length + 1) by omega]
theorem rank_len : ∀ (row : List Str) (i : Nat), (rankF row i).length = row.length
  | [], _ => rfl
  | y :: row, i => by rw [rankF, List.length_cons, List.length_cons, rank_len row (i + 1)]
theorem lot_val (z : Str) : ∀ lots : List Str, valV (lotF lots) (.inr z) = if z ∈ lots then some (.bl true) else none
  | [] => by simp [lotF, valV_nil]
  | y :: lots => by
    by_cases h : y = z
    · subst h
      rw [show lotF (y :: lots) = (.inr y, .bl true) :: lotF lots from rfl, valV_pos rfl]
      simp
    · have hn : ¬ (Sum.inr y : Key) = .inr z := fun e => h (by injection e)
      have h' : ¬ z = y := fun e => h e.symm
      rw [show lotF (y :: lots) = (.inr y, .bl true) :: lotF lots from rfl, valV_neg hn, lot_val z lots]
      simp [h']
/-- a pair of terms, made -/
structure PrAt (K : PySem.W.Frag) (CN CP : Addr) (U : Str → Bool) (H : Hp) (p st lt lh lp dk : Addr) (T : Tab) (ns nt : Nat) : Prop where
  i : ∃ dp dr dl, H p = some (.ins CP dp [("store", .ref st), ("s", iV ns), ("t", iV nt), ("_rank", .ref dr), ("_with_lots", .ref dl)]) ∧ H dr = some (.dK (rankF T.row 0)) ∧ H dl = some (.dK (lotF T.lots))
  n : NumAt K CN U H st lt lh lp dk T.Ts T.Ns
theorem PrAt.same {K : PySem.W.Frag} {CN CP : Addr} {U : Str → Bool} {H H' : Hp} {p st lt lh lp dk : Addr} {T : Tab} {ns nt : Nat} (h : PrAt K CN CP U H p st lt lh lp dk T ns nt) (s : Same H H') : PrAt K CN CP U H' p st lt lh lp dk T ns nt := by
  obtain ⟨dp, dr, dl, a, b, c⟩ := h.i
  exact ⟨⟨dp, dr, dl, s _ _ a, s _ _ b, s _ _ c⟩, h.n.same s⟩
structure PCl (K : PySem.W.Frag) (CP : Addr) : Prop where
  cl : Cls K CP
  n1 : NoAttr K CP "store"
  n2 : NoAttr K CP "s"
  n3 : NoAttr K CP "t"
  n4 : NoAttr K CP "_rank"
  n5 : NoAttr K CP "_with_lots"
theorem headV_O (d : PyData) : headV d = (match headO d with | some f => .str f | none => .non) := by
  cases d with
  | tuple ds => cases ds with
    | nil => rfl
    | cons e r => cases e <;> rfl
  | _ => rfl
def spCase (K : PySem.W.Frag) (CN CP : Addr) (U : Str → Bool) : Sp := fun vs H Q _ => ∃ p st lt lh lp dk T ns nt, ∃ u v : Nat, vs = [.ref p, iV u, iV v] ∧ PrAt K CN CP U H p st lt lh lp dk T ns nt ∧ u < T.Ts.length ∧ v < T.Ts.length ∧ (∀ f, headO (T.tm u) = some f → f ∈ T.row) ∧ (∀ f, headO (T.tm v) = some f → f ∈ T.row) ∧ Q (.str (T.cas u v).word) H
section
variable {P : Program} {w : World} {K : PySem.W.Frag} {mg : Str → Option Value} {base : Heap} {CN CP : Addr} {U : Str → Bool}
theorem scCa : FnScope ["self", "u", "v", "f", "g"] ["self", "u", "v"] (defScope sCase) := ⟨rfl, rfl, rfl, by decide +kernel, rfl, by decide +kernel, by decide +kernel⟩
theorem rd_hd {H : Hp} {st lt lh lp dk : Addr} {T : Tab} (hN : NumAt K CN U H st lt lh lp dk T.Ts T.Ns) (S : NCl K CN) {to ti : TE} {σ : L2.St} {u : Nat} {Q : VK} (ho : ∀ Q' : VK, Q' (.ref st) H → to σ H Q') (hi : ∀ Q' : VK, Q' (iV u) H → ti σ H Q') (hu : u < T.Ts.length)
    (q : Q (headV (T.tm u)) H) : tOp (rIxL K) (tFld K to "heads") ti σ H Q := by
  obtain ⟨dx, hx⟩ := hN.i
  refine ho _ ⟨st, CN, dx, _, .ref lh, rfl, hx, S.cl, S.n2, rfl, ?_⟩
  refine hi _ ⟨lh, _, (u : Int), headV (T.tm u), rfl, rfl, SqL.of hN.h, atI_nat ?_, q⟩
  rw [List.getElem?_map, (Tab.at_ hN.wf hu).1]
  rfl
theorem ok_case {f : Addr} {fd : FuncData} (F : Fun K "case_of" "Pair.case_of" sCase f fd) (S : NCl K CN) (SP : PCl K CP) : FnOk P w K mg base CX0 1 f fd ["self", "u", "v"] (spCase K CN CP U) := by
  refine F.ok scCa (fun vs H Q E h => ?_) (fun cdv A outer s H vs Q E hr h => ?_)
  · obtain ⟨p, st, lt, lh, lp, dk, T, ns, nt, u, v, rfl, _⟩ := h
    rfl
  · obtain ⟨p, st, lt, lh, lp, dk, T, ns, nt, u, v, rfl, hP, hu, hv, ru, rv, q⟩ := h
    have nd := scCa.nd
    have hu' := hu_of hr
    refine ⟨_, pss_cons (ps_par (i := 3) (j := 4) (by rfl) nd rfl rfl (by decide) rfl rfl (pa_cons (pe_ix ix_list (pe_fld (pe_fld (pv 0) rfl) rfl) (pv 1) fun _ _ => rfl) (pa_cons (pe_ix ix_list (pe_fld (pe_fld (pv 0) rfl) rfl) (pv 2) fun _ _ => rfl) pa_nil)) (by rfl))
      (pss_cons (ps_if (PW.pt (pw_or (pt_cmpR op_isN (pv 3) pe_non (nomark _)) (pw_or (pt_cmpR op_isN (pv 4) pe_non (nomark _)) (pw_or1 (pt_cmpR op_eq (pv 1) (pv 2) (nomark _)))))) (pss_one (ps_ret pe_str)) pss_nil)
      (pss_cons (ps_if (pt_cmpR op_eq (pv 3) (pv 4) (nomark _)) (pss_one (ps_ret (pe_ifExp (pt_cmp (pc_din hu' (pv 3) (pe_fld (pv 0) rfl))) pe_str pe_str))) pss_nil)
      (pss_one (ps_ret (pe_ifExp (pt_cmpR op_lt (pe_dget hu' (pe_fld (pv 0) rfl) (pv 3) fun _ _ => rfl) (pe_dget hu' (pe_fld (pv 0) rfl) (pv 4) fun _ _ => rfl) (nomark _)) pe_str pe_str))))), ?_⟩
    obtain ⟨dp, dr, dl, h1, h2, h3⟩ := hP.i
    have rdS : ∀ (σ : L2.St) (Q' : VK), σ[0]? = some (some (.ref p)) → Q' (.ref st) H → tFld K (tVar 0) "store" σ H Q' := fun σ Q' e q' => ⟨_, e, p, CP, dp, _, .ref st, rfl, h1, SP.cl, SP.n1, rfl, q'⟩
    refine rd_hd hP.n S (fun Q' q' => rdS _ Q' rfl q') (fun Q' q' => rd_var rfl q') hu ?_
    refine rd_hd hP.n S (fun Q' q' => rdS _ Q' rfl q') (fun Q' q' => rd_var rfl q') hv ?_
    rw [headV_O, headV_O]
    refine ⟨_, _, rfl, ?_⟩
    have ec : T.cas u v = caseC T.row T.lots (headO (T.tm u)) (headO (T.tm v)) (u == v) := rfl
    rw [ec] at q
    cases eu : headO (T.tm u) with
    | none =>
      rw [eu] at q
      refine ⟨_, rfl, rfl, _, rfl, ?_⟩
      exact iteT (iteT q)
    | some f =>
      refine ⟨_, rfl, rfl, _, rfl, ?_⟩
      refine iteF ?_
      cases ev : headO (T.tm v) with
      | none =>
        rw [eu, ev] at q
        refine ⟨_, rfl, rfl, _, rfl, ?_⟩
        exact iteT (iteT q)
      | some g =>
        rw [eu, ev] at q
        refine ⟨_, rfl, rfl, _, rfl, ?_⟩
        refine iteF ?_
        refine ⟨_, rfl, _, rfl, rfl, _, rfl, ?_⟩
        rw [iV_eq]
        have q2 : Q (.str (if (u == v) = true then Cas.no else if f = g then (if f ∈ T.lots then Cas.lots else Cas.left) else if T.row.idxOf f < T.row.idxOf g then Cas.sign else Cas.no).word) H := q
        by_cases huv : (u == v) = true
        · rw [if_pos huv] at q2
          rw [huv]
          exact iteT q2
        · rw [if_neg huv] at q2
          have huv : (u == v) = false := by simpa using huv
          rw [huv]
          refine iteF ?_
          refine ⟨_, rfl, _, rfl, rfl, _, rfl, ?_⟩
          by_cases hfg : f = g
          · rw [if_pos hfg] at q2
            subst hfg
            rw [show decide (V.str f = V.str f) = true by simp]
            refine iteT ?_
            refine ⟨_, rfl, _, rfl, p, CP, dp, _, .ref dl, rfl, h1, SP.cl, SP.n5, rfl, dl, _, rfl, DGet.k (k := .inr f) h3, _, rfl, ?_⟩
            rw [lot_val]
            by_cases hl : f ∈ T.lots
            · rw [if_pos hl] at q2
              rw [if_pos hl]
              exact iteT q2
            · rw [if_neg hl] at q2
              rw [if_neg hl]
              exact iteF q2
          · rw [if_neg hfg] at q2
            rw [show decide (V.str f = V.str g) = false by simpa using hfg]
            refine iteF ?_
            refine ⟨_, rfl, p, CP, dp, _, .ref dr, rfl, h1, SP.cl, SP.n4, rfl, _, rfl, dr, iV (T.row.idxOf f), rfl, ?_, ?_⟩
            · have := DGet.k (k := .inr f) h2
              rw [rank_val, if_pos (ru f eu), Nat.zero_add] at this
              exact this
            refine ⟨_, rfl, p, CP, dp, _, .ref dr, rfl, h1, SP.cl, SP.n4, rfl, _, rfl, dr, iV (T.row.idxOf g), rfl, ?_, ?_⟩
            · have := DGet.k (k := .inr g) h2
              rw [rank_val, if_pos (rv g ev), Nat.zero_add] at this
              exact this
            refine ⟨_, _, rfl, rfl, _, rfl, ?_⟩
            by_cases hl : T.row.idxOf f < T.row.idxOf g
            · rw [if_pos hl] at q2
              rw [decide_eq_true (show ((T.row.idxOf f : Nat) : Int) < ((T.row.idxOf g : Nat) : Int) by omega)]
              exact iteT q2
            · rw [if_neg hl] at q2
              rw [decide_eq_false (show ¬ ((T.row.idxOf f : Nat) : Int) < ((T.row.idxOf g : Nat) : Int) by omega)]
              exact iteF q2
end
end Sg

set_option maxRecDepth 100000
set_option maxHeartbeats 8000000
namespace Sg
open PySem PySem.Spec PyProof.Rows L2 Dr Gd Er Cm LD CM XT RT EnT RZ
theorem rank_take {row : List Str} (nd : row.Nodup) {i : Nat} {z : Str} (h : row[i]? = some z) : putK (rankF (row.take i) 0) (.inr z) (iV i) = rankF (row.take (i + 1)) 0 := by
  have hi : i < row.length := (List.getElem?_eq_some_iff.mp h).1
  have hno : z ∉ row.take i := fun hm => by
    obtain ⟨j, hj, e⟩ := List.getElem_of_mem hm
    have hj' := hj
    rw [List.length_take] at hj'
    rw [List.getElem_take] at e
    have : row[j]? = some z := by rw [List.getElem?_eq_getElem (by omega), e]
    have := nodup_at nd this h
    omega
  rw [putK_new _ (by rw [rank_val, if_neg hno]), List.take_add_one, h]
  show _ = rankF (row.take i ++ [z]) 0
  rw [rank_app, Nat.zero_add, List.length_take, Nat.min_eq_left (Nat.le_of_lt hi)]
theorem lot_take {lots : List Str} (nd : lots.Nodup) {i : Nat} {z : Str} (h : lots[i]? = some z) : putK (lotF (lots.take i)) (.inr z) (.bl true) = lotF (lots.take (i + 1)) := by
  have hi : i < lots.length := (List.getElem?_eq_some_iff.mp h).1
  have hno : z ∉ lots.take i := fun hm => by
    obtain ⟨j, hj, e⟩ := List.getElem_of_mem hm
    have hj' := hj
    rw [List.length_take] at hj'
    rw [List.getElem_take] at e
    have : lots[j]? = some z := by rw [List.getElem?_eq_getElem (by omega), e]
    have := nodup_at nd this h
    omega
  rw [putK_new _ (by rw [lot_val, if_neg hno]), List.take_add_one, h]
  show _ = lotF (lots.take i ++ [z])
  unfold lotF
  rw [List.map_append]
  rfl
def spPInit (K : PySem.W.Frag) (CN CP C CO : Addr) (U : Str → Bool) : Sp := fun vs H Q _ => ∃ p o x ps row lots v1 d1 v2 d2 dp, vs = [.ref p, .ref o, v1, v2] ∧ H p = some (.ins CP dp []) ∧ OrAt K C CO (L2.del H p) o x ps row lots ∧ row.Nodup ∧ lots.Nodup ∧ row.length ≤ 100 ∧ lots.length ≤ 100 ∧
  Dp K (L2.del H p) v1 d1 ∧ okN U d1 = true ∧ fsz d1 ≤ 2000 ∧ Dp K (L2.del H p) v2 d2 ∧ okN U d2 = true ∧ fsz d2 ≤ 2000 ∧
  ∀ Ts Ns ns nt st lt lh lp dk H', SameX p H H' → (∀ b ∈ [st, lt, lh, lp, dk], H b = none) → PrAt K CN CP U H' p st lt lh lp dk ⟨Ts, Ns, row, lots, []⟩ ns nt → Ts[ns]? = some d1 → Ts[nt]? = some d2 → (∀ t ∈ Ts, t ∈ preD d1 ∨ t ∈ preD d2) → Q .non H'
structure OrM (P : Program) (w : World) (K : PySem.W.Frag) (mg : Str → Option Value) (base : Heap) (C CO pn gn pl gl : Addr) (dn dl : FuncData) : Prop where
  cl : OCl K CO
  np : PropOf K CO "names" pn gn
  no : FnOk P w K mg base CX0 1 gn dn ["self"] (spONames K C CO)
  nb : Binds K dn ["self"] []
  lp : PropOf K CO "lots" pl gl
  lo : FnOk P w K mg base CX0 1 gl dl ["self"] (spOLots K C CO)
  lb : Binds K dl ["self"] []
structure NM (P : Program) (w : World) (K : PySem.W.Frag) (mg : Str → Option Value) (base : Heap) (CN : Addr) (U : Str → Bool) (fI fT : Addr) (dI dT : FuncData) : Prop where
  c : NCl K CN
  km : Mk K CN fI
  g : mg "Numbered" = some (.ref CN)
  io : FnOk P w K mg base CX0 1 fI dI ["self"] (spNInit K CN U)
  ib : Binds K dI ["self"] []
  tm : Meth K CN "take" fT
  to : FnOk P w K mg base CX0 3 fT dT ["self", "term"] (spTakeN K CN U)
  tb : Binds K dT ["self", "term"] []
section
variable {P : Program} {w : World} {K : PySem.W.Frag} {mg : Str → Option Value} {base : Heap} {CN CP C CO : Addr} {U : Str → Bool} {fI fT pn gn pl gl : Addr} {dI dT dn dl : FuncData}
theorem scPI : FnScope ["self", "order", "s", "t", "place", "name"] ["self", "order", "s", "t"] (defScope sPInit) := ⟨rfl, rfl, rfl, by decide +kernel, rfl, by decide +kernel, by decide +kernel⟩
theorem ok_pinit {f : Addr} {fd : FuncData} (F : Fun K "__init__" "Pair.__init__" sPInit f fd) (N : NM P w K mg base CN U fI fT dI dT) (SP : PCl K CP) (M : OrM P w K mg base C CO pn gn pl gl dn dl) (he : mg "enumerate" = none) : FnOk P w K mg base CX0 4 f fd ["self", "order", "s", "t"] (spPInit K CN CP C CO U) := by
  refine F.ok scPI (fun vs H Q E h => ?_) (fun cdv A outer s H vs Q E hr h => ?_)
  · obtain ⟨p, o, x, ps, row, lots, v1, d1, v2, d2, dp, rfl, _⟩ := h
    rfl
  · obtain ⟨p, o, x, ps, row, lots, v1, d1, v2, d2, dp, rfl, hp, hO, ndr, ndl, lr, ll, hv1, ok1, sz1, hv2, ok2, sz2, q⟩ := h
    have nd := scPI.nd
    refine ⟨_, pss_cons (ps_fld (pv 0) (pe_make0 N.km N.io (hr.mono (by decide)) rfl N.g N.ib .nil pass0) rfl)
      (pss_cons (ps_fld (pv 0) (pe_meth (pe_fld (pv 0) rfl) N.c.cl N.tm N.to (hr.mono (by decide)) N.tb .nil pass0 (pa_cons (pv 2) pa_nil)) rfl)
      (pss_cons (ps_fld (pv 0) (pe_meth (pe_fld (pv 0) rfl) N.c.cl N.tm N.to (hr.mono (by decide)) N.tb .nil pass0 (pa_cons (pv 3) pa_nil)) rfl)
      (pss_cons (ps_fld (pv 0) (pe_dc (own := [("place", 4), ("name", 5)]) (g := gTup K 2 (gCons (gName 4) (gCons (gName 5) gNil))) (tt := tYes) (tk := tVar 5) (tv := tVar 4) (by rfl) nd
          (pi_enum (by rfl) he (pa_cons (pe_prop (pv 1) M.cl.cl M.np M.no (hr.mono (by decide)) M.nb .nil pass0 rfl) pa_nil)) (blkOk_by (N := ["self", "order", "s", "t", "place", "name"]) (sc := defScope sPInit) (by decide +kernel))
          (fun _ _ _ _ _ => pg_tup rfl (pgs_cons (pg_name (i := 4) nd rfl (Or.inl rfl)) (pgs_cons (pg_name (i := 5) nd rfl (Or.inl rfl)) pgs_nil))) (fun _ _ _ _ _ => pts_nil) (fun _ _ _ _ _ => pv 5) (fun _ _ _ _ _ => pv 4)) rfl)
      (pss_one (ps_fld (pv 0) (pe_dc (own := [("name", 5)]) (g := gName 5) (tt := tYes) (tk := tVar 5) (tv := tC (.bl true)) (by rfl) nd
          (pi_list (pe_prop (pv 1) M.cl.cl M.lp M.lo (hr.mono (by decide)) M.lb .nil pass0 rfl)) (blkOk_by (N := ["self", "order", "s", "t", "place", "name"]) (sc := defScope sPInit) (by decide +kernel))
          (fun _ _ _ _ _ => pg_name (i := 5) nd rfl (Or.inl rfl)) (fun _ _ _ _ _ => pts_nil) (fun _ _ _ _ _ => pv 5) (fun _ _ _ _ _ => pe_bl)) rfl))))), ?_⟩
    intro st dst hst hds hne
    refine ⟨st, dst, rfl, upd_same, fun lt lh lp dk H1 sx fr n1 n2 n3 hN => ⟨rfl, ?_⟩⟩
    have sm1 : Same H H1 := fun b o e => by
      have n := ne_of_none e hst
      exact sx b o (by rw [upd_ne n, upd_ne (ne_of_none e hds)]; exact e) n
    have stp : st ≠ p := fun z => by rw [z, hp] at hst; cases hst
    have fr0 : ∀ b ∈ [lt, lh, lp, dk], H b = none := fun b hb => by
      have e := fr b hb
      by_cases h1 : b = st
      · rw [h1]; exact hst
      · rw [upd_ne h1] at e
        by_cases h2 : b = dst
        · rw [h2]; exact hds
        · rw [upd_ne h2] at e
          exact e
    have frS : ∀ {b : Addr} {o : HO}, H b = some o → b ∉ [lt, lh, lp, dk] := fun e hm => by rw [fr0 _ hm] at e; cases e
    have pL := frS hp
    have p1 := sm1 _ _ hp
    refine ⟨_, rfl, p, CP, dp, [], rfl, p1, SP.cl, SP.n1, by decide, ?_⟩
    have R2 : SameX p H (L2.upd H1 p (.ins CP dp (putF "store" (.ref st) []))) := (Same.x sm1).upd
    have hN2 : NumAt K CN U (L2.upd H1 p (.ins CP dp (putF "store" (.ref st) []))) st lt lh lp dk [] [] := hN.x p1 stp (SameX.refl _ _).upd
    have p2 : (L2.upd H1 p (.ins CP dp (putF "store" (.ref st) []))) p = some (.ins CP dp [("store", .ref st)]) := upd_same
    generalize (L2.upd H1 p (.ins CP dp (putF "store" (.ref st) []))) = H2 at R2 hN2 p2 ⊢
    have toS : ∀ {H' : Hp}, SameX p H H' → Same (L2.del H p) (delS [lt, lh, lp, dk] H') := fun R b o e => by
      have bp : b ≠ p := fun z => by rw [z, del_same] at e; cases e
      rw [del_ne bp] at e
      rw [delS_of (frS e)]
      exact R _ _ e bp
    obtain ⟨dx2, hx2⟩ := hN2.i
    refine ⟨_, rfl, p, CP, dp, _, .ref st, rfl, p2, SP.cl, SP.n1, rfl, st, dx2, _, rfl, hx2, rfl, _, rfl, ?_⟩
    refine ⟨st, v1, lt, lh, lp, dk, [], [], d1, rfl, hN2, n1, n2, n3, dp_same (toS R2) _ _ hv1, ok1, by omega, (by show 0 + fsz d1 < 10000; omega), fun m1 Ts1 Ns1 H3 s3 hN3 pre1 mem1 at1 => ?_⟩
    have R3 : SameX p H H3 := fun b o e bp => (delS_inv (s3 b o (by rw [delS_of (frS e)]; exact R2 _ _ e bp))).2
    have p3 : H3 p = some (.ins CP dp [("store", .ref st)]) := (delS_inv (s3 _ _ (by rw [delS_of pL]; exact p2))).2
    refine ⟨_, rfl, p, CP, dp, _, rfl, p3, SP.cl, SP.n2, (by simp), ?_⟩
    have R4 : SameX p H (L2.upd H3 p (.ins CP dp (putF "s" (iV m1) [("store", .ref st)]))) := R3.upd
    have hN4 : NumAt K CN U (L2.upd H3 p (.ins CP dp (putF "s" (iV m1) [("store", .ref st)]))) st lt lh lp dk Ts1 Ns1 := hN3.x p3 stp (SameX.refl _ _).upd
    have p4 : (L2.upd H3 p (.ins CP dp (putF "s" (iV m1) [("store", .ref st)]))) p = some (.ins CP dp [("store", .ref st), ("s", iV m1)]) := upd_same
    generalize (L2.upd H3 p (.ins CP dp (putF "s" (iV m1) [("store", .ref st)]))) = H4 at R4 hN4 p4 ⊢
    have lT1 : Ts1.length ≤ fsz d1 := by
      have := nodup_leD (m := preD d1) hN4.wf.nd fun y hy => (mem1 y hy).elim (fun h => by cases h) id
      rw [preD_len] at this
      exact this
    obtain ⟨dx4, hx4⟩ := hN4.i
    refine ⟨_, rfl, p, CP, dp, _, .ref st, rfl, p4, SP.cl, SP.n1, rfl, st, dx4, _, rfl, hx4, rfl, _, rfl, ?_⟩
    refine ⟨st, v2, lt, lh, lp, dk, Ts1, Ns1, d2, rfl, hN4, n1, n2, n3, dp_same (toS R4) _ _ hv2, ok2, by omega, by omega, fun m2 Ts Ns H5 s5 hN5 pre2 mem2 at2 => ?_⟩
    have R5 : SameX p H H5 := fun b o e bp => (delS_inv (s5 b o (by rw [delS_of (frS e)]; exact R4 _ _ e bp))).2
    have p5 : H5 p = some (.ins CP dp [("store", .ref st), ("s", iV m1)]) := (delS_inv (s5 _ _ (by rw [delS_of pL]; exact p4))).2
    refine ⟨_, rfl, p, CP, dp, _, rfl, p5, SP.cl, SP.n3, (by simp), ?_⟩
    have R6 : SameX p H (L2.upd H5 p (.ins CP dp (putF "t" (iV m2) [("store", .ref st), ("s", iV m1)]))) := R5.upd
    have hN6 : NumAt K CN U (L2.upd H5 p (.ins CP dp (putF "t" (iV m2) [("store", .ref st), ("s", iV m1)]))) st lt lh lp dk Ts Ns := hN5.x p5 stp (SameX.refl _ _).upd
    have p6 : (L2.upd H5 p (.ins CP dp (putF "t" (iV m2) [("store", .ref st), ("s", iV m1)]))) p = some (.ins CP dp [("store", .ref st), ("s", iV m1), ("t", iV m2)]) := upd_same
    generalize (L2.upd H5 p (.ins CP dp (putF "t" (iV m2) [("store", .ref st), ("s", iV m1)]))) = H6 at R6 hN6 p6 ⊢
    have hO6 : OrAt K C CO H6 o x ps row lots := hO.same (Same.trans R6.del del_sub)
    obtain ⟨dxo, _, _, _, _, _, ho6, _⟩ := id hO6
    refine ⟨_, rfl, o, dxo, _, rfl, ho6, o, x, ps, row, lots, rfl, hO6, fun q1 hq1 => ?_⟩
    have sq := same_upd (o := .lst (row.map V.str)) hq1
    have eq1 : (L2.upd H6 q1 (.lst (row.map V.str))) q1 = some (.lst (row.map V.str)) := upd_same
    have R6q : SameX p H (L2.upd H6 q1 (.lst (row.map V.str))) := R6.trans (Same.x sq)
    have hN6q := hN6.same sq
    have p6q := sq _ _ p6
    generalize (L2.upd H6 q1 (.lst (row.map V.str))) = H6 at sq eq1 R6q hN6q p6q ⊢
    have bigL : ∀ {n : Nat}, n ≤ 100 → n < sizeLine := fun h => Nat.lt_of_le_of_lt h (by decide)
    refine ⟨q1, _, rfl, SqL.of eq1, fun D hD => ?_⟩
    refine dc_it (walk_enum (xs := row.map V.str)) (fun i H' => Same H6 H' ∧ H' D = some (.dK (rankF (row.take i) 0))) ⟨same_upd hD, upd_same⟩ (fun i H' hi hp => Same.seq hp.1 (SqL.of eq1)) (fun i y H7 H8 hi hp hy => ?_) (fun H7 hp => ?_)
    · obtain ⟨sm, hDl⟩ := hp
      obtain ⟨t, n1, z1, rfl, hT, rfl, e1, e2⟩ := hy
      cases e1
      obtain ⟨z, ez, rfl⟩ := strs_at e2
      have sT := same_upd (o := .tup [V.int (i : Nat), V.str z]) hT
      refine ⟨t, _, rfl, SqT.of upd_same, rfl, ?_⟩
      refine ⟨_, _, rfl, _, _, rfl, rfl, ?_⟩
      refine ⟨rfl, lcYes ?_⟩
      have D1 := sT _ _ hDl
      refine ⟨_, rfl, _, rfl, _, .inr z, rfl, D1, ?_, ?_, ?_⟩
      · rw [rank_len]
        exact bigL (Nat.le_trans (List.length_take_le' _ _) lr)
      · exact fun c o e => by
          rw [upd_ne (ne_of_none e hD)]
          exact sT _ _ (sm c o e)
      · rw [upd_same, ← rank_take ndr ez]
        rfl
    obtain ⟨sm7, hD7⟩ := hp
    rw [List.length_map, List.take_length] at hD7
    have p7 := sm7 _ _ p6q
    have hN7 := hN6q.same sm7
    have R7 := R6q.trans (Same.x sm7)
    refine ⟨_, rfl, p, CP, dp, _, rfl, p7, SP.cl, SP.n4, (by simp), ?_⟩
    have Dp : D ≠ p := fun z => by rw [z, p6q] at hD; cases hD
    have R8 : SameX p H (L2.upd H7 p (.ins CP dp (putF "_rank" (.ref D) [("store", .ref st), ("s", iV m1), ("t", iV m2)]))) := R7.upd
    have hN8 : NumAt K CN U (L2.upd H7 p (.ins CP dp (putF "_rank" (.ref D) [("store", .ref st), ("s", iV m1), ("t", iV m2)]))) st lt lh lp dk Ts Ns := hN7.x p7 stp (SameX.refl _ _).upd
    have p8 : (L2.upd H7 p (.ins CP dp (putF "_rank" (.ref D) [("store", .ref st), ("s", iV m1), ("t", iV m2)]))) p = some (.ins CP dp [("store", .ref st), ("s", iV m1), ("t", iV m2), ("_rank", .ref D)]) := upd_same
    have hD8 : (L2.upd H7 p (.ins CP dp (putF "_rank" (.ref D) [("store", .ref st), ("s", iV m1), ("t", iV m2)]))) D = some (.dK (rankF row 0)) := by rw [upd_ne Dp]; exact hD7
    generalize (L2.upd H7 p (.ins CP dp (putF "_rank" (.ref D) [("store", .ref st), ("s", iV m1), ("t", iV m2)]))) = H8 at R8 hN8 p8 hD8 ⊢
    have hO8 : OrAt K C CO H8 o x ps row lots := hO.same (Same.trans R8.del del_sub)
    obtain ⟨dxo8, _, _, _, _, _, ho8, _⟩ := id hO8
    refine ⟨_, rfl, o, dxo8, _, rfl, ho8, o, x, ps, row, lots, rfl, hO8, fun q2 hq2 => ?_⟩
    have sq2 := same_upd (o := .lst (lots.map V.str)) hq2
    have eq2 : (L2.upd H8 q2 (.lst (lots.map V.str))) q2 = some (.lst (lots.map V.str)) := upd_same
    have R9 : SameX p H (L2.upd H8 q2 (.lst (lots.map V.str))) := R8.trans (Same.x sq2)
    have hN9 := hN8.same sq2
    have p9 := sq2 _ _ p8
    have hD9 := sq2 _ _ hD8
    generalize (L2.upd H8 q2 (.lst (lots.map V.str))) = H9 at sq2 eq2 R9 hN9 p9 hD9 ⊢
    refine ⟨q2, rfl, ⟨_, SqL.of eq2⟩, fun D2 hD2 => ?_⟩
    refine dc_it (walk_list (xs := lots.map V.str)) (fun i H' => Same H9 H' ∧ H' D2 = some (.dK (lotF (lots.take i)))) ⟨same_upd hD2, upd_same⟩ (fun i H' hi hp => Same.seq hp.1 (SqL.of eq2)) (fun i y H10 H11 hi hp hy => ?_) (fun H10 hp => ?_)
    · obtain ⟨sm, hDl⟩ := hp
      obtain ⟨rfl, ey⟩ := hy
      obtain ⟨z, ez, rfl⟩ := strs_at ey
      refine ⟨rfl, lcYes ?_⟩
      refine ⟨_, rfl, _, .inr z, rfl, hDl, ?_, ?_, ?_⟩
      · unfold lotF
        rw [List.length_map]
        exact bigL (Nat.le_trans (List.length_take_le' _ _) ll)
      · exact fun c o e => by
          rw [upd_ne (ne_of_none e hD2)]
          exact sm c o e
      · rw [upd_same, ← lot_take ndl ez]
    obtain ⟨sm10, hD10⟩ := hp
    rw [List.length_map, List.take_length] at hD10
    have p10 := sm10 _ _ p9
    have hN10 := hN9.same sm10
    have R10 := R9.trans (Same.x sm10)
    have hDr := sm10 _ _ hD9
    have D2p : D2 ≠ p := fun z => by rw [z, p9] at hD2; cases hD2
    refine ⟨_, rfl, p, CP, dp, _, rfl, p10, SP.cl, SP.n5, (by simp), ?_⟩
    refine q Ts Ns m1 m2 st lt lh lp dk _ R10.upd (fun b hb => ?_) ⟨⟨dp, D, D2, upd_same, by rw [upd_ne Dp]; exact hDr, by rw [upd_ne D2p]; exact hD10⟩, hN10.x p10 stp (SameX.refl _ _).upd⟩ ?_ at2 (fun t ht => ?_)
    · rcases List.mem_cons.mp hb with rfl | hb
      · exact hst
      · exact fr0 b hb
    · obtain ⟨r, rfl⟩ := pre2
      rw [List.getElem?_append_left (List.getElem?_eq_some_iff.mp at1).1]
      exact at1
    · rcases mem2 t ht with h | h
      · exact .inl ((mem1 t h).elim (fun h => by cases h) id)
      · exact .inr h
end
end Sg

set_option maxRecDepth 100000
set_option maxHeartbeats 8000000
namespace Sg
open PySem PySem.Spec PyProof.Rows L2 Dr Gd Er Cm LD CM XT RT EnT RZ
abbrev cAbove : Stmt := top 7
abbrev sAInit : Stmt := inClass cAbove 0
abbrev sHolds : Stmt := inClass cAbove 1
abbrev sFill : Stmt := inClass cAbove 2
abbrev sByCase : Stmt := inClass cAbove 3
abbrev sRows : Stmt := inClass cAbove 4
abbrev sWay : Stmt := inClass cAbove 5
abbrev sNeeded : Stmt := inClass cAbove 6
abbrev sMade_ : Stmt := inClass cAbove 7
abbrev sASteps : Stmt := inClass cAbove 8
abbrev sBits : Stmt := top 8
def wantF (T : Tab) : List (Key × V) := T.cols.map fun v => (nK v, iV (T.wt v))
theorem want_val (T : Tab) (cols : List Nat) (v : Nat) : valV (cols.map fun v => ((nK v : Key), iV (T.wt v))) (nK v) = if v ∈ cols then some (iV (T.wt v)) else none := by
  induction cols with
  | nil => rfl
  | cons c cols ih =>
    by_cases h : c = v
    · subst h
      rw [List.map_cons, valV_pos rfl]
      simp
    · have hn : ¬ (nK c : Key) = nK v := fun e => by
        have e : (Sum.inl (c : Int) : Key) = .inl (v : Int) := e
        injection e with e
        exact h (by omega)
      have h' : ¬ v = c := fun e => h e.symm
      rw [List.map_cons, valV_neg hn, ih]
      simp [h']
theorem NumAt.xl {K : PySem.W.Frag} {CN : Addr} {U : Str → Bool} {H H' : Hp} {x lt lh lp dk c : Addr} {ys : List V} {Ts : List PyData} {Ns : List (List Nat)} (h : NumAt K CN U H x lt lh lp dk Ts Ns) (hc : c ∉ [lt, lh, lp, dk]) (hl : H c = some (.lst ys)) (s0 : SameX c H H') : NumAt K CN U H' x lt lh lp dk Ts Ns := by
  obtain ⟨dx, a⟩ := h.i
  obtain ⟨tv, b, d⟩ := h.t
  obtain ⟨pv, e, f⟩ := h.p
  have s : ∀ b o, delS [lt, lh, lp, dk] H b = some o → (∀ ys, o ≠ .lst ys) → delS [lt, lh, lp, dk] H' b = some o := fun b o e n => by
    obtain ⟨e1, e2⟩ := delS_inv e
    have bc : b ≠ c := fun z => by
      rw [z, hl] at e2
      exact n ys (Option.some.inj e2).symm
    rw [delS_of e1]
    exact s0 _ _ e2 bc
  simp only [List.mem_cons, List.not_mem_nil, or_false, not_or] at hc
  obtain ⟨c1, c2, c3, c4⟩ := hc
  have xc : x ≠ c := fun z => by rw [z, hl] at a; cases a
  exact ⟨⟨dx, s0 _ _ a xc⟩, ⟨tv, s0 _ _ b (fun z => c1 z.symm), dps_off s _ _ (okNs_all h.wf.ok) d⟩, s0 _ _ h.h (fun z => c2 z.symm), ⟨pv, s0 _ _ e (fun z => c3 z.symm), f.off s⟩, s0 _ _ h.k (fun z => c4 z.symm), h.wf⟩
theorem PrAt.xl {K : PySem.W.Frag} {CN CP : Addr} {U : Str → Bool} {H H' : Hp} {p st lt lh lp dk c : Addr} {T : Tab} {ns nt : Nat} {ys : List V} (h : PrAt K CN CP U H p st lt lh lp dk T ns nt) (hc : c ∉ [lt, lh, lp, dk]) (hl : H c = some (.lst ys)) (s0 : SameX c H H') : PrAt K CN CP U H' p st lt lh lp dk T ns nt := by
  obtain ⟨dp, dr, dl, a, b, d⟩ := h.i
  have ne : ∀ {b : Addr} {o : HO}, H b = some o → (∀ ys, o ≠ .lst ys) → b ≠ c := fun e n z => by
    rw [z, hl] at e
    exact n _ (Option.some.inj e).symm
  exact ⟨⟨dp, dr, dl, s0 _ _ a (ne a (fun _ z => by cases z)), s0 _ _ b (ne b (fun _ z => by cases z)), s0 _ _ d (ne d (fun _ z => by cases z))⟩, h.n.xl hc hl s0⟩
theorem PrAt.x {K : PySem.W.Frag} {CN CP : Addr} {U : Str → Bool} {H H' : Hp} {p st lt lh lp dk a C d : Addr} {fs : List (Str × V)} {T : Tab} {ns nt : Nat} (h : PrAt K CN CP U H p st lt lh lp dk T ns nt) (ha : H a = some (.ins C d fs)) (sa : st ≠ a) (pa : p ≠ a) (s : SameX a H H') : PrAt K CN CP U H' p st lt lh lp dk T ns nt := by
  obtain ⟨dp, dr, dl, x, y, z⟩ := h.i
  have ne : ∀ {b : Addr} {kv : List (Key × V)}, H b = some (.dK kv) → b ≠ a := fun e z => by
    rw [z, ha] at e
    cases e
  exact ⟨⟨dp, dr, dl, s _ _ x pa, s _ _ y (ne y), s _ _ z (ne z)⟩, h.n.x ha sa s⟩
/-- a table, made -/
structure AbAt (K : PySem.W.Frag) (CN CP CA : Addr) (U : Str → Bool) (H : Hp) (a p st lt lh lp dk lo : Addr) (T : Tab) (ns nt : Nat) (os : List Nat) : Prop where
  i : ∃ da lc dw, H a = some (.ins CA da [("pair", .ref p), ("store", .ref st), ("_columns", .ref lc), ("_wanted", .ref dw), ("over", .ref lo)]) ∧ H lc = some (.lst (T.cols.map iV)) ∧ lc ≠ lo ∧ H dw = some (.dK (wantF T))
  o : H lo = some (.lst (os.map iV))
  n : lo ∉ [lt, lh, lp, dk]
  p : PrAt K CN CP U H p st lt lh lp dk T ns nt
section
variable {K : PySem.W.Frag} {CN CP CA : Addr} {U : Str → Bool} {H H' : Hp} {a p st lt lh lp dk lo : Addr} {T : Tab} {ns nt : Nat} {os os' : List Nat}
theorem AbAt.same (h : AbAt K CN CP CA U H a p st lt lh lp dk lo T ns nt os) (s : Same H H') : AbAt K CN CP CA U H' a p st lt lh lp dk lo T ns nt os := by
  obtain ⟨da, lc, dw, x, y, z, w⟩ := h.i
  exact ⟨⟨da, lc, dw, s _ _ x, s _ _ y, z, s _ _ w⟩, s _ _ h.o, h.n, h.p.same s⟩
theorem AbAt.put (h : AbAt K CN CP CA U H a p st lt lh lp dk lo T ns nt os) (s : SameX lo H H') (e : H' lo = some (.lst (os'.map iV))) : AbAt K CN CP CA U H' a p st lt lh lp dk lo T ns nt os' := by
  obtain ⟨da, lc, dw, x, y, z, w⟩ := h.i
  have ho := h.o
  exact ⟨⟨da, lc, dw, s _ _ x (fun z => by rw [z, ho] at x; cases x), s _ _ y z, z, s _ _ w (fun z => by rw [z, ho] at w; cases w)⟩, e, h.n, h.p.xl h.n ho s⟩
end
structure ACl (K : PySem.W.Frag) (CA : Addr) : Prop where
  cl : Cls K CA
  n1 : NoAttr K CA "pair"
  n2 : NoAttr K CA "store"
  n3 : NoAttr K CA "_columns"
  n4 : NoAttr K CA "_wanted"
  n5 : NoAttr K CA "over"
theorem bit_val (r v : Nat) : (decide (V.int (Builtin.bitAnd ((r : Int) / 2 ^ ((v : Int)).toNat) 1) = V.int 1)) = r.testBit v := by
  rw [PyProof.Rows.bitAnd_m1, Int.toNat_natCast, Nat.testBit_eq_decide_div_mod_eq]
  have e : ((r : Int) / 2 ^ v) % 2 = ((r / 2 ^ v % 2 : Nat) : Int) := by
    rw [Int.natCast_emod, Int.natCast_ediv, Int.natCast_pow]
    rfl
  rw [e, decide_eq_decide]
  constructor
  · intro h
    injection h with h
    omega
  · intro h
    rw [h]
    rfl
def spHolds (K : PySem.W.Frag) (CN CP CA : Addr) (U : Str → Bool) : Sp := fun vs H Q _ => ∃ a p st lt lh lp dk lo T ns nt os, ∃ u v : Nat, vs = [.ref a, iV u, iV v] ∧ AbAt K CN CP CA U H a p st lt lh lp dk lo T ns nt os ∧ u < os.length ∧ Q (.bl (Tab.hb os u v)) H
section
variable {P : Program} {w : World} {K : PySem.W.Frag} {mg : Str → Option Value} {base : Heap} {CN CP CA : Addr} {U : Str → Bool}
theorem scHo : FnScope ["self", "u", "v"] ["self", "u", "v"] (defScope sHolds) := ⟨rfl, rfl, rfl, by decide +kernel, rfl, by decide +kernel, by decide +kernel⟩
theorem os_at {os : List Nat} {u : Nat} (h : u < os.length) : (os.map iV)[u]? = some (iV (os.getD u 0)) := by
  rw [List.getElem?_map, List.getD_eq_getElem?_getD, List.getElem?_eq_getElem h]
  rfl
theorem ok_holds {f : Addr} {fd : FuncData} (F : Fun K "holds" "Above.holds" sHolds f fd) (S : ACl K CA) : FnOk P w K mg base CX0 1 f fd ["self", "u", "v"] (spHolds K CN CP CA U) := by
  refine F.ok scHo (fun vs H Q E h => ?_) (fun cdv A outer s H vs Q E hr h => ?_)
  · obtain ⟨a, p, st, lt, lh, lp, dk, lo, T, ns, nt, os, u, v, rfl, _⟩ := h
    rfl
  · obtain ⟨a, p, st, lt, lh, lp, dk, lo, T, ns, nt, os, u, v, rfl, hA, hu, q⟩ := h
    refine ⟨_, pss_one (ps_ret (pe_cmpR op_eq (pe_op op_and (pe_op op_shr (pe_ix ix_list (pe_fld (pv 0) rfl) (pv 1) fun _ _ => rfl) (pv 2)) pe_int) pe_int (nomark _))), ?_⟩
    obtain ⟨da, lc, dw, x, y, z, w⟩ := hA.i
    refine ⟨_, rfl, a, CA, da, _, .ref lo, rfl, x, S.cl, S.n5, rfl, _, rfl, lo, _, (u : Int), iV (os.getD u 0), rfl, rfl, SqL.of hA.o, atI_nat (os_at hu), ?_⟩
    refine ⟨_, rfl, _, _, rfl, rfl, by omega, ?_⟩
    refine ⟨_, _, rfl, rfl, ?_⟩
    refine ⟨rfl, ?_⟩
    rw [bit_val]
    exact q
def spBits (K : PySem.W.Frag) : Sp := fun vs H Q _ => ∃ t ns, vs = [.ref t] ∧ SqT K H t (ns.map iV) ∧ (∀ n ∈ ns, n ≤ 1000000) ∧ Q (iV (bitsG 0 ns)) H
theorem scBi : FnScope ["numbers", "told", "number"] ["numbers"] (defScope sBits) := ⟨rfl, rfl, rfl, by decide +kernel, rfl, by decide +kernel, by decide +kernel⟩
theorem or_nat (a b : Nat) : Builtin.bitOr (a : Int) (b : Int) = ((a ||| b : Nat) : Int) := by
  rw [bitOr_nn (by omega) (by omega), Int.toNat_natCast, Int.toNat_natCast]
theorem shl_nat (n : Nat) : (1 : Int) * 2 ^ ((n : Int)).toNat = ((2 ^ n : Nat) : Int) := by
  rw [Int.one_mul, Int.toNat_natCast, Int.natCast_pow]
  rfl
theorem bits_take {ns : List Nat} {i n : Nat} (h : ns[i]? = some n) (r : Nat) : bitsG r (ns.take (i + 1)) = bitsG r (ns.take i) ||| 2 ^ n := by
  rw [List.take_add_one, h]
  unfold bitsG
  rw [List.foldl_append]
  rfl
theorem ok_bits {f : Addr} {fd : FuncData} (F : Fun K "_bits" "_bits" sBits f fd) : FnOk P w K mg base CX0 1 f fd ["numbers"] (spBits K) := by
  refine F.ok scBi (fun vs H Q E h => ?_) (fun cdv A outer s H vs Q E hr h => ?_)
  · obtain ⟨t, ns, rfl, _⟩ := h
    rfl
  · obtain ⟨t, ns, rfl, ht, hn, q⟩ := h
    have nd := scBi.nd
    refine ⟨_, pss_cons (ps_set (i := 1) nd rfl (Or.inl rfl) pe_int)
      (pss_cons (ps_for PassesOwn.never rfl (pi_tup (pv 0)) (pg_name (i := 2) nd rfl (Or.inl rfl))
        (pss_one (ps_set (i := 1) nd rfl (Or.inl rfl) (pe_op op_or (pv 1) (pe_op op_shl pe_int (pv 2))))))
      (pss_one (ps_ret (pv 1)))), ?_⟩
    refine ⟨_, rfl, t, rfl, ⟨_, ht⟩, ?_⟩
    refine for_it (walk_tup (xs := ns.map iV)) (fun i σ H' => H' = H ∧ ∃ c2, σ = [some (.ref t), some (iV (bitsG 0 (ns.take i))), c2]) ⟨rfl, _, rfl⟩ (fun i σ H' hi hp => by rw [hp.1]; exact ht) (fun i y σ H1 H2 hi hp hy => ?_) (fun σ H' hp => ?_)
    · obtain ⟨rfl, c2, rfl⟩ := hp
      obtain ⟨rfl, ey⟩ := hy
      obtain ⟨n, en, rfl⟩ := iV_at ey
      have ln := hn n (List.mem_of_getElem? en)
      refine ⟨_, rfl, _, rfl, _, _, rfl, rfl, ⟨by omega, by omega, by decide⟩, ?_⟩
      refine ⟨_, _, rfl, rfl, ?_⟩
      show gName 1 (V.int (Builtin.bitOr ((bitsG 0 (ns.take i) : Nat) : Int) ((1 : Int) * 2 ^ ((n : Nat) : Int).toNat))) _ _ _
      rw [shl_nat, or_nat, ← bits_take en]
      exact ⟨rfl, _, rfl⟩
    · obtain ⟨rfl, c2, rfl⟩ := hp
      rw [List.length_map, List.take_length]
      exact ⟨_, rfl, q⟩
end
end Sg

set_option maxRecDepth 100000
set_option maxHeartbeats 8000000
namespace Sg
open PySem PySem.Spec PyProof.Rows L2 Dr Gd Er Cm LD CM XT RT EnT RZ TF
theorem lov_mem {α : Type} {eq : α → α → Bool} {us : List α} : ∀ (bs : List α) (j : Nat) (kept over : List Nat), (∀ k ∈ kept, k < us.length) → (∀ k ∈ over, k < j) → (∀ k ∈ (lov eq us bs j kept over).1, k < us.length) ∧ ∀ k ∈ (lov eq us bs j kept over).2, k < j + bs.length
  | [], j, kept, over, h1, h2 => ⟨h1, by simpa [lov] using h2⟩
  | b :: bs, j, kept, over, h1, h2 => by
    rw [lov]
    split
    · obtain ⟨a, c⟩ := lov_mem (eq := eq) (us := us) bs (j + 1) kept (over ++ [j]) h1 (fun k hk => by
        rcases List.mem_append.mp hk with hk | hk
        · have := h2 k hk; omega
        · have := List.mem_singleton.mp hk; omega)
      exact ⟨a, fun k hk => by have := c k hk; rw [List.length_cons]; omega⟩
    · rename_i i _ _
      obtain ⟨a, c⟩ := lov_mem (eq := eq) (us := us) bs (j + 1) (kept.erase i) over (fun k hk => h1 k (List.mem_of_mem_erase hk)) (fun k hk => by have := h2 k hk; omega)
      exact ⟨a, fun k hk => by have := c k hk; rw [List.length_cons]; omega⟩
theorem leftO_mem {α : Type} (eq : α → α → Bool) (us ws : List α) : (∀ k ∈ (leftO eq us ws).1, k < us.length) ∧ ∀ k ∈ (leftO eq us ws).2, k < ws.length := by
  obtain ⟨a, c⟩ := lov_mem (eq := eq) (us := us) ws 0 (List.range us.length) [] (fun k hk => List.mem_range.mp hk) (by simp)
  exact ⟨a, fun k hk => by have := c k hk; omega⟩
theorem leftO_len {α : Type} (eq : α → α → Bool) (us ws : List α) : (leftO eq us ws).1.length ≤ us.length ∧ (leftO eq us ws).2.length ≤ ws.length := by
  obtain ⟨a, c⟩ := lov_len (eq := eq) (us := us) ws 0 (List.range us.length) []
  rw [List.length_range] at a
  exact ⟨a, by simpa [leftO] using c⟩
/-- pairs (j, i), each a tuple -/
def RwR (Z : Hp) : List V → List (Nat × Nat) → Prop
  | [], [] => True
  | v :: vs, r :: rs => (∃ t, v = .ref t ∧ Z t = some (.tup [iV r.1, iV r.2])) ∧ RwR Z vs rs
  | _, _ => False
theorem RwR.mono {Z Z' : Hp} (s : Same Z Z') : ∀ {vs : List V} {rs : List (Nat × Nat)}, RwR Z vs rs → RwR Z' vs rs
  | [], [], _ => trivial
  | [], _ :: _, h => h.elim
  | _ :: _, [], h => h.elim
  | v :: vs, r :: rs, ⟨⟨a, e, h⟩, x⟩ => ⟨⟨a, e, s _ _ h⟩, x.mono s⟩
theorem RwR.len {Z : Hp} : ∀ {vs : List V} {rs : List (Nat × Nat)}, RwR Z vs rs → vs.length = rs.length
  | [], [], _ => rfl
  | [], _ :: _, h => h.elim
  | _ :: _, [], h => h.elim
  | v :: vs, r :: rs, ⟨_, x⟩ => by rw [List.length_cons, List.length_cons, x.len]
theorem RwR.snoc {Z : Hp} {a : Addr} {j i : Nat} (h : Z a = some (.tup [iV j, iV i])) : ∀ {vs : List V} {rs : List (Nat × Nat)}, RwR Z vs rs → RwR Z (vs ++ [.ref a]) (rs ++ [(j, i)])
  | [], [], _ => ⟨⟨a, rfl, h⟩, trivial⟩
  | [], _ :: _, h => h.elim
  | _ :: _, [], h => h.elim
  | v :: vs, r :: rs, ⟨x, y⟩ => ⟨x, y.snoc h⟩
def spRows (K : PySem.W.Frag) (CN CP CA : Addr) (U : Str → Bool) : Sp := fun vs H Q _ => ∃ a p st lt lh lp dk lo T ns nt os, ∃ u v : Nat, vs = [.ref a, iV u, iV v] ∧ AbAt K CN CP CA U H a p st lt lh lp dk lo T ns nt os ∧ u < T.Ts.length ∧ v < T.Ts.length ∧ (∀ x ∈ T.pl u, x < os.length) ∧ (T.pl u).length ≤ 5000 ∧ (T.pl v).length ≤ 5000 ∧
  ∀ l rs H', Same H H' → H l = none → H' l = some (.lst rs) → RwR (L2.del H' l) rs (rowsC (· == ·) (Tab.hb os) (T.pl u) (T.pl v)) → Q (.ref l) H'
structure NX (P : Program) (w : World) (K : PySem.W.Frag) (mg : Str → Option Value) (base : Heap) (CN : Addr) (U : Str → Bool) (fU fL fA : Addr) (dU dL dA : FuncData) : Prop where
  um : Meth K CN "first_unlike" fU
  uo : FnOk P w K mg base CX0 1 fU dU ["self", "u", "v"] (spFU K CN U)
  ub : Binds K dU ["self", "u", "v"] []
  lm : Meth K CN "left_over" fL
  lo : FnOk P w K mg base CX0 1 fL dL ["self", "u", "v"] (spLO K CN U)
  lb : Binds K dL ["self", "u", "v"] []
  am : Meth K CN "at" fA
  ao : FnOk P w K mg base CX0 1 fA dA ["self", "u", "i", "v", "j"] (spNAt K CN U)
  ab : Binds K dA ["self", "u", "i", "v", "j"] []
structure HM (P : Program) (w : World) (K : PySem.W.Frag) (mg : Str → Option Value) (base : Heap) (CN CP CA : Addr) (U : Str → Bool) (fH : Addr) (dH : FuncData) : Prop where
  m : Meth K CA "holds" fH
  o : FnOk P w K mg base CX0 1 fH dH ["self", "u", "v"] (spHolds K CN CP CA U)
  b : Binds K dH ["self", "u", "v"] []
section
variable {P : Program} {w : World} {K : PySem.W.Frag} {mg : Str → Option Value} {base : Heap} {CN CP CA : Addr} {U : Str → Bool} {fU fL fA fH : Addr} {dU dL dA dH : FuncData}
theorem rd_st {H : Hp} {a p st lt lh lp dk lo : Addr} {T : Tab} {ns nt : Nat} {os : List Nat} (hA : AbAt K CN CP CA U H a p st lt lh lp dk lo T ns nt os) (S : ACl K CA) {σ : L2.St} {Q' : VK} (e : σ[0]? = some (some (.ref a))) (q' : Q' (.ref st) H) : tFld K (tVar 0) "store" σ H Q' := by
  obtain ⟨da, lc, dw, x, y, z, w⟩ := hA.i
  exact ⟨_, e, a, CA, da, _, .ref st, rfl, x, S.cl, S.n2, rfl, q'⟩
theorem scRo : FnScope ["self", "u", "v", "kept", "over", "rows", "j", "b", "fit", "i"] ["self", "u", "v"] (defScope sRows) := ⟨rfl, rfl, rfl, by decide +kernel, rfl, by decide +kernel, by decide +kernel⟩
theorem ok_rows {f : Addr} {fd : FuncData} (F : Fun K "_rows" "Above._rows" sRows f fd) (SN : NCl K CN) (S : ACl K CA) (X : NX P w K mg base CN U fU fL fA dU dL dA) (HM : HM P w K mg base CN CP CA U fH dH) : FnOk P w K mg base CX0 2 f fd ["self", "u", "v"] (spRows K CN CP CA U) := by
  refine F.ok scRo (fun vs H Q E h => ?_) (fun cdv A outer s H vs Q E hr h => ?_)
  · obtain ⟨a, p, st, lt, lh, lp, dk, lo, T, ns, nt, os, u, v, rfl, _⟩ := h
    rfl
  · obtain ⟨a, p, st, lt, lh, lp, dk, lo, T, ns, nt, os, u, v, rfl, hA, hu, hv, hos, u5, v5, q⟩ := h
    have nd := scRo.nd
    have r1 : Room 1 (A.deeper (envOfC "Above._rows" (defScope sRows) s.heap.objs.size f cdv)) := hr.mono (by decide)
    refine ⟨_, pss_cons (ps_asg (pe_meth (pe_fld (pv 0) rfl) SN.cl X.lm X.lo r1 X.lb .nil pass0 (pa_cons (pv 1) (pa_cons (pv 2) pa_nil))) (pg_tup rfl (pgs_cons (pg_name (i := 3) nd rfl (Or.inl rfl)) (pgs_cons (pg_name (i := 4) nd rfl (Or.inl rfl)) pgs_nil))))
      (pss_cons (ps_set (i := 5) nd rfl (Or.inl rfl) (pe_lst pa_nil))
      (pss_cons (ps_for PassesOwn.never rfl (pi_list (pv 4)) (pg_name (i := 6) nd rfl (Or.inl rfl))
        (pss_cons (ps_set (i := 7) nd rfl (Or.inr rfl) (pe_ix ix_tup (pe_ix ix_list (pe_fld (pe_fld (pv 0) rfl) rfl) (pv 2) fun _ _ => rfl) (pv 6) fun _ _ => rfl))
        (pss_cons (ps_setLc (i := 8) (own := [("i", 9)]) (g := gName 9) (tt := tB (tMeth CA "holds" (spHolds K CN CP CA U) [] E0 (tVar 0) (tCons (tOp (rIxT K) (tOp (rIxL K) (tFld K (tFld K (tVar 0) "store") "places") (tVar 1)) (tVar 9)) (tCons (tVar 7) tNil)))) (te := tVar 9) (by rfl) nd rfl rfl (sw_true rfl rfl rfl (by decide +kernel))
            (pi_list (pv 3)) (blkOk_by (N := ["self", "u", "v", "kept", "over", "rows", "j", "b", "fit", "i"]) (sc := defScope sRows) (by decide +kernel)) (fun _ _ _ _ _ => pg_name (i := 9) nd rfl (Or.inl rfl))
            (fun _ _ _ _ _ => pts_one (pt_val (pe_meth (pv 0) S.cl HM.m HM.o r1 HM.b .nil pass0 (pa_cons (pe_ix ix_tup (pe_ix ix_list (pe_fld (pe_fld (pv 0) rfl) rfl) (pv 1) fun _ _ => rfl) (pv 9) fun _ _ => rfl) (pa_cons (pv 7) pa_nil))))) (fun _ _ _ _ _ => pv 9))
        (pss_cons (ps_if (pt_not (pt_truth (pv 8) (by intro _; rfl))) (pss_one (ps_ret (pe_lst pa_nil))) pss_nil)
        (pss_one (ps_expr (pe_bm PySem.F.plainAttrs_list PySem.F.slot_list_append PySem.F.type_list_append mt_append (pv 5) (pa_cons (pe_tup (pa_cons (pv 6) (pa_cons (pe_ix ix_list (pv 8) pe_int fun _ _ => rfl) pa_nil))) pa_nil))))))))
      (pss_one (ps_ret (pv 5))))), ?_⟩
    have big : (20000 : Nat) ≤ sizeLine := by decide
    have hN := hA.p.n
    obtain ⟨u1, u2, u3, u4, u6⟩ := Tab.at_ hN.wf hu
    obtain ⟨v1, v2, v3, v4, v6⟩ := Tab.at_ hN.wf hv
    obtain ⟨dx, hx⟩ := hN.i
    obtain ⟨da, lc, dw, x1, x2, x3, x4⟩ := hA.i
    refine ⟨_, rfl, a, CA, da, _, .ref st, rfl, x1, S.cl, S.n2, rfl, st, dx, _, rfl, hx, rfl, _, rfl, _, rfl, ?_⟩
    refine ⟨st, lt, lh, lp, dk, T.Ts, T.Ns, T.pl u, T.pl v, u, v, rfl, hN, u2, v2, u5, v5, fun t ka oa kept over H1 s1 ht hka hoa kao et ek eo elo => ?_⟩
    refine ⟨t, _, rfl, SqT.of et, rfl, ?_⟩
    refine ⟨_, _, rfl, _, _, rfl, rfl, ?_⟩
    refine ⟨Nat.zero_le _, fun l hl => ?_⟩
    have s2 := same_upd (o := .lst []) hl
    have e2 : (L2.upd H1 l (.lst [])) l = some (.lst []) := upd_same
    have ek2 := s2 _ _ ek
    have eo2 := s2 _ _ eo
    have hl0 : H l = none := Same.free s1 hl
    have kl : ka ≠ l := ne_of_none ek hl
    have ol : oa ≠ l := ne_of_none eo hl
    have sm0 := Same.trans s1 s2
    have eR : rowsC (· == ·) (Tab.hb os) (T.pl u) (T.pl v) = rowsG (Tab.hb os) (T.pl u) (T.pl v) kept over [] := by
      unfold rowsC
      rw [elo]
    obtain ⟨m1, m2⟩ := leftO_mem (· == ·) (T.pl u) (T.pl v)
    obtain ⟨n1, n2⟩ := leftO_len (· == ·) (T.pl u) (T.pl v)
    rw [elo] at m1 m2 n1 n2
    have m1 : ∀ k ∈ kept, k < (T.pl u).length := m1
    have m2 : ∀ k ∈ over, k < (T.pl v).length := m2
    have n1 : kept.length ≤ (T.pl u).length := n1
    have n2 : over.length ≤ (T.pl v).length := n2
    generalize (L2.upd H1 l (.lst [])) = H2 at s2 e2 ek2 eo2 sm0 ⊢
    refine ⟨_, rfl, oa, rfl, ⟨_, SqL.of eo2⟩, ?_⟩
    refine for_it (walk_list (xs := over.map iV)) (fun i σ H' => ∃ rs acc c6 c7 c8, σ = [some (.ref a), some (iV u), some (iV v), some (.ref ka), some (.ref oa), some (.ref l), c6, c7, c8, none] ∧ Same H H' ∧ H' ka = some (.lst (kept.map iV)) ∧ H' oa = some (.lst (over.map iV)) ∧ H' l = some (.lst rs) ∧ RwR (L2.del H' l) rs acc ∧ acc.length ≤ i ∧ rowsC (· == ·) (Tab.hb os) (T.pl u) (T.pl v) = rowsG (Tab.hb os) (T.pl u) (T.pl v) kept (over.drop i) acc)
      ⟨[], [], none, none, none, rfl, sm0, ek2, eo2, e2, trivial, Nat.le_refl _, by rw [List.drop_zero]; exact eR⟩ (fun i σ H' hi hp => by obtain ⟨_, _, _, _, _, _, _, _, e, _⟩ := hp; exact SqL.of e) (fun i y σ Hq H3 hi hp hy => ?_) (fun σ H' hp => ?_)
    · obtain ⟨rs, acc, c6, c7, c8, rfl, sm, hk, ho, hL, hR, la, hE⟩ := hp
      obtain ⟨rfl, ey⟩ := hy
      obtain ⟨j, ej, rfl⟩ := iV_at ey
      have jr := m2 j (List.mem_of_getElem? ej)
      obtain ⟨b, eb⟩ : ∃ b, (T.pl v)[j]? = some b := ⟨_, List.getElem?_eq_getElem jr⟩
      have hA3 := hA.same sm
      refine rd_pl hA3.p.n SN (fun Q' q' => rd_st hA3 S (by rfl) q') (fun Q' q' => rd_var rfl q') v2 fun tb htb => ?_
      refine ⟨_, rfl, tb, _, (j : Int), iV b, rfl, rfl, htb.sq, atI_nat (map_at eb), ?_⟩
      refine ⟨_, rfl, ka, rfl, ⟨_, SqL.of hk⟩, fun D hD => ?_⟩
      refine lc_it (walk_list (xs := kept.map iV)) (fun m H' => Same H3 H' ∧ H' D = some (.lst (((kept.take m).filter (fun i => at2 (Tab.hb os) (T.pl u) (T.pl v) i j)).map iV))) ⟨same_upd hD, upd_same⟩ (fun m H' hm hp => Same.seq hp.1 (SqL.of hk)) (fun m y Hq H' hm hp hy => ?_) (fun H' hp => ?_)
      · obtain ⟨sd, hDl⟩ := hp
        obtain ⟨rfl, ey⟩ := hy
        obtain ⟨k, ek', rfl⟩ := iV_at ey
        refine ⟨rfl, ?_⟩
        have hA4 := hA3.same sd
        obtain ⟨da4, lc4, dw4, y1, y2, y3, y4⟩ := hA4.i
        have kr := m1 k (List.mem_of_getElem? ek')
        obtain ⟨c, ec⟩ : ∃ c, (T.pl u)[k]? = some c := ⟨_, List.getElem?_eq_getElem kr⟩
        refine ⟨_, rfl, a, da4, _, rfl, y1, rfl, ?_⟩
        refine rd_pl hA4.p.n SN (fun Q' q' => rd_st hA4 S (by rfl) q') (fun Q' q' => rd_var rfl q') u2 fun tc htc => ?_
        refine ⟨_, rfl, tc, _, (k : Int), iV c, rfl, rfl, htc.sq, atI_nat (map_at ec), ?_⟩
        refine ⟨_, rfl, ?_⟩
        refine ⟨a, p, st, lt, lh, lp, dk, lo, T, ns, nt, os, c, b, rfl, hA4, hos c (List.mem_of_getElem? ec), ?_⟩
        refine ⟨_, rfl, ?_⟩
        have ef := filter_take (fun i => at2 (Tab.hb os) (T.pl u) (T.pl v) i j) ek'
        have ea1 : at2 (Tab.hb os) (T.pl u) (T.pl v) k j = Tab.hb os c b := by
          unfold at2
          rw [ec, eb]
        rw [ea1] at ef
        refine ite2 (fun c' => ?_) (fun c' => ?_)
        · refine ⟨_, rfl, _, hDl, ?_, ?_, ?_⟩
          · rw [List.length_map]
            have := List.length_filter_le (fun i => at2 (Tab.hb os) (T.pl u) (T.pl v) i j) (kept.take m)
            rw [List.length_take] at this
            exact Nat.lt_of_lt_of_le (show _ < 20000 by omega) big
          · exact fun c o e => by
              rw [upd_ne (ne_of_none e hD)]
              exact sd c o e
          · rw [upd_same, ef, c', List.map_append]
            rfl
        · refine ⟨sd, ?_⟩
          have c' : Tab.hb os c b = false := by simpa using c'
          rw [ef, c']
          simpa using hDl
      · obtain ⟨sd, hDl⟩ := hp
        rw [List.length_map, List.take_length] at hDl
        have sm2 := Same.trans sm sd
        have hk2 := sd _ _ hk
        have ho2 := sd _ _ ho
        have hL2 := sd _ _ hL
        have hR2 := hR.mono (SameX.del (Same.x (x := l) sd))
        have edr : over.drop i = j :: over.drop (i + 1) := by
          obtain ⟨h, e⟩ := List.getElem?_eq_some_iff.mp ej
          rw [List.drop_eq_getElem_cons h, e]
        rw [edr, rowsG] at hE
        refine ⟨_, rfl, !((kept.filter (fun i => at2 (Tab.hb os) (T.pl u) (T.pl v) i j)).map iV).isEmpty, .inl ⟨_, SqL.of hDl, rfl⟩, ?_⟩
        cases ef : kept.filter (fun i => at2 (Tab.hb os) (T.pl u) (T.pl v) i j) with
        | nil =>
          rw [ef] at hE
          refine iteT ?_
          refine ⟨Nat.zero_le _, fun l2 hl2 => ?_⟩
          refine q l2 [] _ (Same.trans sm2 (same_upd hl2)) (Same.free sm2 hl2) upd_same ?_
          have hE : rowsC (· == ·) (Tab.hb os) (T.pl u) (T.pl v) = [] := hE
          rw [hE]
          trivial
        | cons k r =>
          rw [ef] at hE hDl
          refine iteF ?_
          refine ⟨_, rfl, .inl ⟨rfl, _, SqL.of hL2⟩, _, rfl, _, rfl, D, _, 0, iV k, rfl, rfl, SqL.of hDl, atI_zero _ _, (by show 2 ≤ sizeLine; decide), fun t2 ht2 => ?_⟩
          have st2 := same_upd (o := .tup [iV j, iV k]) ht2
          have et2 : (L2.upd H' t2 (.tup [iV j, iV k])) t2 = some (.tup [iV j, iV k]) := upd_same
          have tl : t2 ≠ l := fun z => by rw [z, hL2] at ht2; cases ht2
          have hk3 := st2 _ _ hk2
          have ho3 := st2 _ _ ho2
          have hL3 := st2 _ _ hL2
          have hR3 := hR2.mono (SameX.del (Same.x (x := l) st2))
          have sm3 := Same.trans sm2 st2
          generalize (L2.upd H' t2 (.tup [iV j, iV k])) = H5 at st2 et2 hk3 ho3 hL3 hR3 sm3 ⊢
          have lr := hR.len
          rw [List.length_map] at hi
          refine ⟨l, rs, _, rfl, rfl, hL3, Nat.lt_of_lt_of_le (show rs.length < 20000 by omega) big, ?_⟩
          refine ⟨rs ++ [.ref t2], acc ++ [(j, k)], _, _, _, rfl, fun c o e => ?_, ?_, ?_, upd_same, ?_, ?_, hE⟩
          · rw [upd_ne (ne_of_none e hl0)]
            exact sm3 c o e
          · rw [upd_ne kl]; exact hk3
          · rw [upd_ne ol]; exact ho3
          · rw [del_upd]
            exact hR3.snoc (by rw [del_ne tl]; exact et2)
          · rw [List.length_append]
            exact Nat.succ_le_succ la
    · obtain ⟨rs, acc, c6, c7, c8, rfl, sm, hk, ho, hL, hR, la, hE⟩ := hp
      rw [List.length_map, List.drop_length] at hE
      have hE : rowsC (· == ·) (Tab.hb os) (T.pl u) (T.pl v) = acc := hE
      exact ⟨_, rfl, q l rs H' sm hl0 hL (by rw [hE]; exact hR)⟩
end
end Sg

set_option maxRecDepth 100000
set_option maxHeartbeats 8000000
namespace Sg
open PySem PySem.Spec PyProof.Rows L2 Dr Gd Er Cm LD CM XT RT EnT RZ
theorem fuI_at {us ws : List Nat} (h : false ∈ sameL (· == ·) us ws) : ∃ x y, us[fuI (· == ·) us ws]? = some x ∧ ws[fuI (· == ·) us ws]? = some y := by
  obtain ⟨a, _⟩ := idx_false _ h
  have a : (sameL (· == ·) us ws)[fuI (· == ·) us ws]? = some false := a
  unfold sameL at a
  rw [List.getElem?_zipWith] at a
  generalize fuI (· == ·) us ws = i at a ⊢
  cases e1 : us[i]? with
  | none => rw [e1] at a; cases e2 : ws[i]? <;> rw [e2] at a <;> cases a
  | some x => cases e2 : ws[i]? with
    | none => rw [e1, e2] at a; cases a
    | some y => exact ⟨x, y, rfl, rfl⟩
structure UV (T : Tab) (os : List Nat) (u v : Nat) : Prop where
  hu : u < T.Ts.length
  hv : v < T.Ts.length
  lo : ∀ x ∈ T.pl u, x < os.length
  lu : (T.pl u).length ≤ 5000
  lv : (T.pl v).length ≤ 5000
  ru : ∀ f, headO (T.tm u) = some f → f ∈ T.row
  rv : ∀ f, headO (T.tm v) = some f → f ∈ T.row
  ar : T.cas u v = .left → false ∈ sameL (· == ·) (T.pl u) (T.pl v)
def spByCase (K : PySem.W.Frag) (CN CP CA : Addr) (U : Str → Bool) : Sp := fun vs H Q _ => ∃ a p st lt lh lp dk lo T ns nt os, ∃ u v : Nat, vs = [.ref a, iV u, iV v] ∧ AbAt K CN CP CA U H a p st lt lh lp dk lo T ns nt os ∧ UV T os u v ∧
  ∀ H', Same H H' → Q (.bl (T.byU os u v)) H'
structure PX (P : Program) (w : World) (K : PySem.W.Frag) (mg : Str → Option Value) (base : Heap) (CN CP : Addr) (U : Str → Bool) (fC : Addr) (dC : FuncData) : Prop where
  c : PCl K CP
  m : Meth K CP "case_of" fC
  o : FnOk P w K mg base CX0 1 fC dC ["self", "u", "v"] (spCase K CN CP U)
  b : Binds K dC ["self", "u", "v"] []
structure RM (P : Program) (w : World) (K : PySem.W.Frag) (mg : Str → Option Value) (base : Heap) (CN CP CA : Addr) (U : Str → Bool) (fR : Addr) (dR : FuncData) : Prop where
  m : Meth K CA "_rows" fR
  o : FnOk P w K mg base CX0 2 fR dR ["self", "u", "v"] (spRows K CN CP CA U)
  b : Binds K dR ["self", "u", "v"] []
section
variable {P : Program} {w : World} {K : PySem.W.Frag} {mg : Str → Option Value} {base : Heap} {CN CP CA : Addr} {U : Str → Bool} {fU fL fA fH fC fR : Addr} {dU dL dA dH dC dR : FuncData}
theorem scBC : FnScope ["self", "u", "v", "case", "i", "a", "b"] ["self", "u", "v"] (defScope sByCase) := ⟨rfl, rfl, rfl, by decide +kernel, rfl, by decide +kernel, by decide +kernel⟩
theorem ok_byCase {f : Addr} {fd : FuncData} (F : Fun K "_by_case" "Above._by_case" sByCase f fd) (SN : NCl K CN) (S : ACl K CA) (X : NX P w K mg base CN U fU fL fA dU dL dA) (HM : HM P w K mg base CN CP CA U fH dH) (Y : PX P w K mg base CN CP U fC dC) (R : RM P w K mg base CN CP CA U fR dR) (hn : mg "len" = none) :
    FnOk P w K mg base CX0 3 f fd ["self", "u", "v"] (spByCase K CN CP CA U) := by
  refine F.ok scBC (fun vs H Q E h => ?_) (fun cdv A outer s H vs Q E hr h => ?_)
  · obtain ⟨a, p, st, lt, lh, lp, dk, lo, T, ns, nt, os, u, v, rfl, _⟩ := h
    rfl
  · obtain ⟨a, p, st, lt, lh, lp, dk, lo, T, ns, nt, os, u, v, rfl, hA, G, q⟩ := h
    have nd := scBC.nd
    have r1 : Room 1 (A.deeper (envOfC "Above._by_case" (defScope sByCase) s.heap.objs.size f cdv)) := hr.mono (by decide)
    have r2 : Room 2 (A.deeper (envOfC "Above._by_case" (defScope sByCase) s.heap.objs.size f cdv)) := hr.mono (by decide)
    refine ⟨_, pss_cons (ps_set (i := 3) nd rfl (Or.inl rfl) (pe_meth (pe_fld (pv 0) rfl) Y.c.cl Y.m Y.o r1 Y.b .nil pass0 (pa_cons (pv 1) (pa_cons (pv 2) pa_nil))))
      (pss_cons (ps_if (pt_cmpR op_eq (pv 3) pe_str (nomark _))
        (pss_cons (ps_set (i := 4) nd rfl (Or.inl rfl) (pe_meth (pe_fld (pv 0) rfl) SN.cl X.um X.uo r1 X.ub .nil pass0 (pa_cons (pv 1) (pa_cons (pv 2) pa_nil))))
        (pss_cons (ps_asg (pe_meth (pe_fld (pv 0) rfl) SN.cl X.am X.ao r1 X.ab .nil pass0 (pa_cons (pv 1) (pa_cons (pv 4) (pa_cons (pv 2) (pa_cons (pv 4) pa_nil))))) (pg_tup rfl (pgs_cons (pg_name (i := 5) nd rfl (Or.inl rfl)) (pgs_cons (pg_name (i := 6) nd rfl (Or.inl rfl)) pgs_nil))))
        (pss_one (ps_ret (pe_meth (pv 0) S.cl HM.m HM.o r1 HM.b .nil pass0 (pa_cons (pv 5) (pa_cons (pv 6) pa_nil))))))) pss_nil)
      (pss_cons (ps_if (pt_cmpR op_eq (pv 3) pe_str (nomark _))
        (pss_one (ps_ret (pe_cmpR op_gt (pe_callB call_len_seq (by rfl) hn PySem.boot_len (pa_cons (pe_meth (pv 0) S.cl R.m R.o r2 R.b .nil pass0 (pa_cons (pv 1) (pa_cons (pv 2) pa_nil))) pa_nil)) pe_int (nomark _)))) pss_nil)
      (pss_one (ps_ret (pe_cmpR op_eq (pv 3) pe_str (nomark _)))))), ?_⟩
    obtain ⟨da, lc, dw, x1, x2, x3, x4⟩ := hA.i
    obtain ⟨dp, dr, dl, h1, h2, h3⟩ := hA.p.i
    have hN := hA.p.n
    obtain ⟨dx, hx⟩ := hN.i
    obtain ⟨u1, u2, u3, u4, u6⟩ := Tab.at_ hN.wf G.hu
    obtain ⟨v1, v2, v3, v4, v6⟩ := Tab.at_ hN.wf G.hv
    refine ⟨_, rfl, a, CA, da, _, .ref p, rfl, x1, S.cl, S.n1, rfl, p, dp, _, rfl, h1, rfl, _, rfl, _, rfl, ?_⟩
    refine ⟨p, st, lt, lh, lp, dk, T, ns, nt, u, v, rfl, hA.p, G.hu, G.hv, G.ru, G.rv, ?_⟩
    refine ⟨_, rfl, rfl, _, rfl, ?_⟩
    have q : ∀ H', Same H H' → Q (.bl (byC (· == ·) (Tab.hb os) (T.pl u) (T.pl v) (T.cas u v))) H' := q
    have ga := G.ar
    cases ec : T.cas u v with
    | left =>
      rw [ec] at q ga
      have ga := ga rfl
      obtain ⟨x, y, ex, ey⟩ := fuI_at ga
      refine iteT ?_
      refine ⟨_, rfl, a, CA, da, _, .ref st, rfl, x1, S.cl, S.n2, rfl, st, dx, _, rfl, hx, rfl, _, rfl, _, rfl, ?_⟩
      refine ⟨st, lt, lh, lp, dk, T.Ts, T.Ns, T.pl u, T.pl v, u, v, rfl, hN, u2, v2, G.lu, ga, fun H1 s1 => ?_⟩
      have hA1 := hA.same s1
      have hN1 := hA1.p.n
      obtain ⟨da1, lc1, dw1, y1, y2, y3, y4⟩ := hA1.i
      obtain ⟨dx1, hx1⟩ := hN1.i
      refine ⟨_, rfl, a, CA, da1, _, .ref st, rfl, y1, S.cl, S.n2, rfl, st, dx1, _, rfl, hx1, rfl, _, rfl, _, rfl, _, rfl, _, rfl, ?_⟩
      refine ⟨st, lt, lh, lp, dk, T.Ts, T.Ns, T.pl u, T.pl v, u, v, _, _, x, y, rfl, hN1, u2, v2, ex, ey, fun t H2 s2 ht et => ?_⟩
      refine ⟨t, _, rfl, SqT.of et, rfl, ?_⟩
      refine ⟨_, _, rfl, _, _, rfl, rfl, ?_⟩
      have hA2 := hA1.same s2
      obtain ⟨da2, lc2, dw2, z1, z2, z3, z4⟩ := hA2.i
      refine ⟨_, rfl, a, da2, _, rfl, z1, rfl, _, rfl, _, rfl, ?_⟩
      refine ⟨a, p, st, lt, lh, lp, dk, lo, T, ns, nt, os, x, y, rfl, hA2, G.lo x (List.mem_of_getElem? ex), ?_⟩
      have q := q H2 (Same.trans s1 s2)
      have e : byC (· == ·) (Tab.hb os) (T.pl u) (T.pl v) .left = Tab.hb os x y := by
        show at2 _ _ _ _ _ = _
        unfold at2
        rw [ex, ey]
      rw [e] at q
      exact q
    | lots =>
      rw [ec] at q
      refine iteF ?_
      refine ⟨_, rfl, rfl, _, rfl, ?_⟩
      refine iteT ?_
      refine ⟨_, rfl, a, da, _, rfl, x1, rfl, _, rfl, _, rfl, ?_⟩
      refine ⟨a, p, st, lt, lh, lp, dk, lo, T, ns, nt, os, u, v, rfl, hA, G.hu, G.hv, G.lo, G.lu, G.lv, fun l rs H1 s1 hl el hR => ?_⟩
      refine ⟨l, _, rfl, .inl (SqL.of el), _, _, rfl, rfl, ?_⟩
      have q := q H1 s1
      have e : byC (· == ·) (Tab.hb os) (T.pl u) (T.pl v) .lots = decide (((rs.length : Nat) : Int) > 0) := by
        show (!(rowsC _ _ _ _).isEmpty) = _
        have lr := hR.len
        cases er : rowsC (· == ·) (Tab.hb os) (T.pl u) (T.pl v) with
        | nil =>
          rw [er] at lr
          have : rs.length = 0 := lr
          rw [this]
          rfl
        | cons r k =>
          rw [er, List.length_cons] at lr
          rw [decide_eq_true (by omega)]
          rfl
      rw [e] at q
      exact q
    | sign =>
      rw [ec] at q
      refine iteF ?_
      refine ⟨_, rfl, rfl, _, rfl, ?_⟩
      refine iteF ?_
      exact ⟨_, rfl, rfl, q H (Same.refl _)⟩
    | no =>
      rw [ec] at q
      refine iteF ?_
      refine ⟨_, rfl, rfl, _, rfl, ?_⟩
      refine iteF ?_
      exact ⟨_, rfl, rfl, q H (Same.refl _)⟩
end
end Sg

set_option maxRecDepth 100000
set_option maxHeartbeats 8000000
namespace Sg
open PySem PySem.Spec PyProof.Rows L2 Dr Gd Er Cm LD CM XT RT EnT RZ TF
theorem set_last (os : List Nat) (r r' : Nat) : ((os ++ [r]).map iV).set os.length (iV r') = (os ++ [r']).map iV := by
  rw [List.map_append, List.map_append, List.set_append_right _ _ (by rw [List.length_map]; exact Nat.le_refl _)]
  rw [List.length_map, Nat.sub_self]
  rfl
theorem getD_app {os : List Nat} {r a : Nat} (h : a < os.length) : (os ++ [r]).getD a 0 = os.getD a 0 := by
  rw [List.getD_eq_getElem?_getD, List.getElem?_append_left h, ← List.getD_eq_getElem?_getD]
theorem getD_end {os : List Nat} {r : Nat} : (os ++ [r]).getD os.length 0 = r := by
  rw [List.getD_eq_getElem?_getD, List.getElem?_append_right (Nat.le_refl _), Nat.sub_self]
  rfl
theorem ixN_natX {n j : Nat} (hj : j < n) : ixN n (j : Int) = some j := by
  unfold ixN
  rw [if_pos (by omega), if_pos (by omega)]
  rw [Int.toNat_natCast]
theorem orO_take {os ns : List Nat} {i n : Nat} (h : ns[i]? = some n) (r : Nat) : orO os r (ns.take (i + 1)) = orO os r (ns.take i) ||| os.getD n 0 := by
  rw [List.take_add_one, h]
  unfold orO
  rw [List.foldl_append]
  rfl
theorem col_take {cs : List Nat} {i v : Nat} (h : cs[i]? = some v) (g : Nat → Nat → Nat) (r : Nat) : (cs.take (i + 1)).foldl g r = g ((cs.take i).foldl g r) v := by
  rw [List.take_add_one, h, List.foldl_append]
  rfl
theorem byU_app {T : Tab} {os : List Nat} {r u v : Nat} (h : ∀ x ∈ T.pl u, x < os.length) : T.byU (os ++ [r]) u v = T.byU os u v := by
  unfold Tab.byU
  have R : Ren (· == ·) (Tab.hb (os ++ [r])) (· == ·) (Tab.hb os) id (T.pl u) (T.pl v) := ⟨fun _ _ _ _ => rfl, fun a ha b _ => by
    unfold Tab.hb
    rw [getD_app (h a ha)]
    rfl⟩
  have e := R.by (T.cas u v)
  rw [List.map_id, List.map_id] at e
  exact e
theorem and_nat (a b : Nat) : Builtin.bitAnd (a : Int) (b : Int) = ((a &&& b : Nat) : Int) := by
  rw [PyProof.Rows.bitAnd_pp (by omega) (by omega), Int.toNat_natCast, Int.toNat_natCast]
theorem int_dec (a b : Nat) : decide (V.int (a : Int) = V.int (b : Int)) = decide (a = b) := by
  rw [decide_eq_decide]
  constructor
  · intro h
    injection h with h
    omega
  · intro h
    rw [h]
def spFill (K : PySem.W.Frag) (CN CP CA : Addr) (U : Str → Bool) : Sp := fun vs H Q _ => ∃ a p st lt lh lp dk lo T ns nt os, vs = [.ref a, iV os.length] ∧ AbAt K CN CP CA U H a p st lt lh lp dk lo T ns nt (os ++ [0]) ∧ os.length < T.Ts.length ∧ T.Ts.length ≤ 10000 ∧ (∀ v ∈ T.cols, v ≤ 10000 ∧ ∀ r, UV T (os ++ [r]) os.length v) ∧
  ∀ H', SameX lo H H' → H' lo = some (.lst ((os ++ [T.fill os os.length]).map iV)) → Q .non H'
structure BM (P : Program) (w : World) (K : PySem.W.Frag) (mg : Str → Option Value) (base : Heap) (CN CP CA : Addr) (U : Str → Bool) (fB : Addr) (dB : FuncData) : Prop where
  m : Meth K CA "_by_case" fB
  o : FnOk P w K mg base CX0 3 fB dB ["self", "u", "v"] (spByCase K CN CP CA U)
  b : Binds K dB ["self", "u", "v"] []
section
variable {P : Program} {w : World} {K : PySem.W.Frag} {mg : Str → Option Value} {base : Heap} {CN CP CA : Addr} {U : Str → Bool} {fB fb : Addr} {dB db : FuncData}
theorem scFi : FnScope ["self", "u", "row", "a", "v", "wanted"] ["self", "u"] (defScope sFill) := ⟨rfl, rfl, rfl, by decide +kernel, rfl, by decide +kernel, by decide +kernel⟩
theorem ok_fill {f : Addr} {fd : FuncData} (F : Fun K "_fill" "Above._fill" sFill f fd) (SN : NCl K CN) (S : ACl K CA) (B : BM P w K mg base CN CP CA U fB dB) (GB : Cal P w K mg base CX0 1 "_bits" fb db ["numbers"] (spBits K)) :
    FnOk P w K mg base CX0 4 f fd ["self", "u"] (spFill K CN CP CA U) := by
  refine F.ok scFi (fun vs H Q E h => ?_) (fun cdv A outer s H vs Q E hr h => ?_)
  · obtain ⟨a, p, st, lt, lh, lp, dk, lo, T, ns, nt, os, rfl, _⟩ := h
    rfl
  · obtain ⟨a, p, st, lt, lh, lp, dk, lo, T, ns, nt, os, rfl, hA, hu, hT, hc, q⟩ := h
    have nd := scFi.nd
    have hu' := hu_of hr
    have r1 : Room 1 (A.deeper (envOfC "Above._fill" (defScope sFill) s.heap.objs.size f cdv)) := hr.mono (by decide)
    have r3 : Room 3 (A.deeper (envOfC "Above._fill" (defScope sFill) s.heap.objs.size f cdv)) := hr.mono (by decide)
    refine ⟨_, pss_cons (ps_set (i := 2) nd rfl (Or.inl rfl) (pe_call GB.ok r1 rfl GB.g GB.kp GB.b .nil pass0 (pa_cons (pe_ix ix_list (pe_fld (pe_fld (pv 0) rfl) rfl) (pv 1) fun _ _ => rfl) pa_nil)))
      (pss_cons (ps_for PassesOwn.never rfl (pi_tup (pe_ix ix_list (pe_fld (pe_fld (pv 0) rfl) rfl) (pv 1) fun _ _ => rfl)) (pg_name (i := 3) nd rfl (Or.inl rfl))
        (pss_one (ps_set (i := 2) nd rfl (Or.inl rfl) (pe_op op_or (pv 2) (pe_ix ix_list (pe_fld (pv 0) rfl) (pv 3) fun _ _ => rfl)))))
      (pss_cons (ps_asg (pv 2) (pg_sub (pe_fld (pv 0) rfl) (pv 1) set_list))
      (pss_one (ps_for PassesOwn.never rfl (pi_list (pe_fld (pv 0) rfl)) (pg_name (i := 4) nd rfl (Or.inl rfl))
        (pss_cons (ps_set (i := 5) nd rfl (Or.inl rfl) (pe_dget hu' (pe_fld (pv 0) rfl) (pv 4) fun _ _ => rfl))
        (pss_one (ps_if (PW.pt (pw_and (pt_cmpR op_eq (pe_op op_and (pe_ix ix_list (pe_fld (pv 0) rfl) (pv 1) fun _ _ => rfl) (pv 5)) (pv 5) (nomark _)) (pw_and1 (pt_val (pe_meth (pv 0) S.cl B.m B.o r3 B.b .nil pass0 (pa_cons (pv 1) (pa_cons (pv 4) pa_nil)))))))
          (pss_one (ps_asg (pe_op op_or (pe_ix ix_list (pe_fld (pv 0) rfl) (pv 1) fun _ _ => rfl) (pe_op op_shl pe_int (pv 4))) (pg_sub (pe_fld (pv 0) rfl) (pv 1) set_list))) pss_nil))))))), ?_⟩
    have hN := hA.p.n
    obtain ⟨u1, u2, u3, u4, u6⟩ := Tab.at_ hN.wf hu
    refine rd_pl hN SN (fun Q' q' => rd_st hA S (by rfl) q') (fun Q' q' => rd_var rfl q') u2 fun ta hta => ?_
    refine ⟨ta, T.pl os.length, rfl, hta.sq, (fun n hn => by have := u4 n hn; omega), ?_⟩
    refine rd_pl hN SN (fun Q' q' => rd_st hA S (by rfl) q') (fun Q' q' => rd_var rfl q') u2 fun tb htb => ?_
    refine ⟨tb, rfl, ⟨_, htb.sq⟩, ?_⟩
    obtain ⟨da, lc, dw, x1, x2, x3, x4⟩ := hA.i
    have ho := hA.o
    refine for_it (walk_tup (xs := (T.pl os.length).map iV)) (fun i σ H' => H' = H ∧ ∃ c3, σ = [some (.ref a), some (iV os.length), some (iV (orO os (bitsG 0 (T.pl os.length)) ((T.pl os.length).take i))), c3, none, none]) ⟨rfl, _, rfl⟩ (fun i σ H' hi hp => by rw [hp.1]; exact htb.sq) (fun i y σ H1 H2 hi hp hy => ?_) (fun σ H' hp => ?_)
    · obtain ⟨rfl, c3, rfl⟩ := hp
      obtain ⟨rfl, ey⟩ := hy
      obtain ⟨n, en, rfl⟩ := iV_at ey
      have ln := u4 n (List.mem_of_getElem? en)
      refine ⟨_, rfl, _, rfl, a, CA, da, _, .ref lo, rfl, x1, S.cl, S.n5, rfl, _, rfl, lo, _, (n : Int), iV ((os ++ [0]).getD n 0), rfl, rfl, SqL.of ho, atI_nat (os_at (by rw [List.length_append]; omega)), ?_⟩
      refine ⟨_, _, rfl, rfl, ?_⟩
      show gName 2 (V.int (Builtin.bitOr ((orO os (bitsG 0 (T.pl os.length)) ((T.pl os.length).take i) : Nat) : Int) (((os ++ [0]).getD n 0 : Nat) : Int))) _ _ _
      rw [or_nat, getD_app ln, ← orO_take en]
      exact ⟨rfl, _, rfl⟩
    · obtain ⟨rfl, c3, rfl⟩ := hp
      rw [List.length_map, List.take_length]
      have er : orO os (bitsG 0 (T.pl os.length)) (T.pl os.length) = T.row0 os os.length := rfl
      rw [er]
      refine ⟨_, rfl, _, rfl, a, CA, da, _, .ref lo, rfl, x1, S.cl, S.n5, rfl, _, rfl, lo, _, _, os.length, rfl, rfl, ho, ixN_natX (by rw [List.length_map, List.length_append]; exact Nat.lt_succ_self _), ?_⟩
      rw [set_last]
      have sx := (SameX.refl lo H').upd (o := .lst ((os ++ [T.row0 os os.length]).map iV))
      have eo : (L2.upd H' lo (.lst ((os ++ [T.row0 os os.length]).map iV))) lo = some (.lst ((os ++ [T.row0 os os.length]).map iV)) := upd_same
      generalize (L2.upd H' lo (.lst ((os ++ [T.row0 os os.length]).map iV))) = H2 at sx eo ⊢
      have y1 := sx _ _ x1 (fun z => by rw [z, ho] at x1; cases x1)
      have y2 := sx _ _ x2 x3
      refine ⟨_, rfl, a, CA, da, _, .ref lc, rfl, y1, S.cl, S.n3, rfl, lc, rfl, ⟨_, SqL.of y2⟩, ?_⟩
      refine for_it (walk_list (xs := T.cols.map iV)) (fun i σ H' => ∃ c2 c3 c4 c5, σ = [some (.ref a), some (iV os.length), c2, c3, c4, c5] ∧ SameX lo H2 H' ∧ H' lo = some (.lst ((os ++ [(T.cols.take i).foldl (colF T.wt (T.byU os os.length)) (T.row0 os os.length)]).map iV))) ⟨_, _, _, _, rfl, SameX.refl _ _, eo⟩ (fun i σ H' hi hp => by obtain ⟨_, _, _, _, _, s, _⟩ := hp; exact SqL.of (s _ _ y2 x3)) (fun i y σ Hq H3 hi hp hy => ?_) (fun σ H3 hp => ?_)
      · obtain ⟨c2, c3, c4, c5, rfl, s3, e3⟩ := hp
        obtain ⟨rfl, ey⟩ := hy
        obtain ⟨v, ev, rfl⟩ := iV_at ey
        have hv := List.mem_of_getElem? ev
        obtain ⟨lv, G⟩ := hc v hv
        have hA3 := hA.put (sx.trans s3) e3
        rw [col_take ev]
        generalize (T.cols.take i).foldl (colF T.wt (T.byU os os.length)) (T.row0 os os.length) = r at hA3 e3 ⊢
        obtain ⟨da3, lc3, dw3, z1, z2, z3, z4⟩ := hA3.i
        refine ⟨_, rfl, a, CA, da3, _, .ref dw3, rfl, z1, S.cl, S.n4, rfl, _, rfl, dw3, iV (T.wt v), rfl, ?_, ?_⟩
        · have := DGet.k (k := nK v) z4
          unfold wantF at this
          rw [want_val, if_pos hv] at this
          exact this
        refine ⟨_, rfl, a, CA, da3, _, .ref lo, rfl, z1, S.cl, S.n5, rfl, _, rfl, lo, _, _, iV ((os ++ [r]).getD os.length 0), rfl, rfl, SqL.of e3, atI_nat (os_at (by rw [List.length_append]; exact Nat.lt_succ_self _)), ?_⟩
        rw [getD_end]
        refine ⟨_, rfl, _, _, rfl, rfl, ?_⟩
        refine ⟨_, rfl, rfl, decide (r &&& T.wt v = T.wt v), congrArg V.bl (by show decide (V.int (Builtin.bitAnd ((r : Nat) : Int) ((T.wt v : Nat) : Int)) = V.int ((T.wt v : Nat) : Int)) = _; rw [and_nat, int_dec]), ?_⟩
        have hos : ∀ x ∈ T.pl os.length, x < os.length := u4
        by_cases hw : r &&& T.wt v = T.wt v
        · rw [decide_eq_true hw]
          refine iteT ?_
          refine ⟨_, rfl, a, da3, _, rfl, z1, rfl, _, rfl, _, rfl, ?_⟩
          refine ⟨a, p, st, lt, lh, lp, dk, lo, T, ns, nt, os ++ [r], os.length, v, rfl, hA3, G r, fun H4 s4 => ⟨_, rfl, ?_⟩⟩
          rw [byU_app hos]
          have hA4 := hA3.same s4
          have e4 := s4 _ _ e3
          have s4' := s3.trans (Same.x (x := lo) s4)
          cases hb : T.byU os os.length v with
          | false =>
            refine iteF ?_
            refine ⟨_, _, _, _, rfl, s4', ?_⟩
            rw [show colF T.wt (T.byU os os.length) r v = r by
              unfold colF
              rw [if_neg]
              rw [hb]
              simp]
            exact e4
          | true =>
            refine iteT ?_
            obtain ⟨da4, lc4, dw4, t1, t2, t3, t4⟩ := hA4.i
            refine ⟨_, rfl, a, CA, da4, _, .ref lo, rfl, t1, S.cl, S.n5, rfl, _, rfl, lo, _, _, iV ((os ++ [r]).getD os.length 0), rfl, rfl, SqL.of e4, atI_nat (os_at (by rw [List.length_append]; exact Nat.lt_succ_self _)), ?_⟩
            rw [getD_end]
            refine ⟨_, rfl, _, _, rfl, rfl, ⟨by omega, by omega, by decide⟩, ?_⟩
            refine ⟨_, _, rfl, rfl, ?_⟩
            refine ⟨_, rfl, a, CA, da4, _, .ref lo, rfl, t1, S.cl, S.n5, rfl, _, rfl, lo, _, _, os.length, rfl, rfl, e4, ixN_natX (by rw [List.length_map, List.length_append]; exact Nat.lt_succ_self _), ?_⟩
            refine ⟨_, _, _, _, rfl, s4'.upd, ?_⟩
            rw [upd_same]
            refine congrArg some (congrArg HO.lst ?_)
            show ((os ++ [r]).map iV).set os.length (V.int (Builtin.bitOr ((r : Nat) : Int) ((1 : Int) * 2 ^ ((v : Nat) : Int).toNat))) = _
            rw [shl_nat, or_nat]
            rw [show colF T.wt (T.byU os os.length) r v = r ||| 2 ^ v by
              unfold colF
              rw [if_pos ⟨hw, hb⟩]]
            exact set_last os r _
        · rw [decide_eq_false hw]
          refine iteF ?_
          refine iteF ?_
          refine ⟨_, _, _, _, rfl, s3, ?_⟩
          rw [show colF T.wt (T.byU os os.length) r v = r by
            unfold colF
            rw [if_neg]
            exact fun z => hw z.1]
          exact e3
      · obtain ⟨c2, c3, c4, c5, rfl, s3, e3⟩ := hp
        rw [List.length_map, List.take_length] at e3
        exact q H3 (sx.trans s3) e3
end
end Sg

set_option maxRecDepth 100000
set_option maxHeartbeats 8000000
namespace Sg
open PySem PySem.Spec PyProof.Rows L2 Dr Gd Er Cm LD CM XT RT EnT RZ
theorem addAll_ndA : ∀ {ds M : List PyData}, M.Nodup → (addAll M ds).Nodup
  | [], M, h => h
  | d :: ds, M, h => by
    show (addAll (addD M d) ds).Nodup
    refine addAll_ndA ?_
    by_cases hd : d ∈ M
    · rw [addD_in hd]; exact h
    · rw [addD_no hd, List.nodup_append]
      refine ⟨h, by simp, fun a ha b hb e => ?_⟩
      rw [List.mem_singleton.mp hb] at e
      exact hd (e ▸ ha)
theorem addD_mem {M : List PyData} {d x : PyData} : x ∈ addD M d ↔ x ∈ M ∨ x = d := by
  by_cases h : d ∈ M
  · rw [addD_in h]
    exact ⟨.inl, fun k => k.elim id fun e => by rw [e]; exact h⟩
  · rw [addD_no h, List.mem_append, List.mem_singleton]
theorem addAll_iff : ∀ {l M : List PyData} {x : PyData}, x ∈ addAll M l ↔ x ∈ M ∨ x ∈ l
  | [], M, x => by
    show x ∈ M ↔ _
    simp
  | d :: l, M, x => by
    show x ∈ addAll (addD M d) l ↔ _
    rw [addAll_iff, addD_mem, List.mem_cons, or_assoc]
theorem num_nodup {Ts : List PyData} : ∀ {ks : List Nat} {ds : List PyData}, NumL Ts ks ds → ds.Nodup → ks.Nodup
  | [], ds, _, _ => List.nodup_nil
  | k :: ks, ds, h, nd => by cases ds with
    | nil => cases h
    | cons d ds =>
      have h : Ts[k]? :: ks.map (fun n => Ts[n]?) = some d :: ds.map some := h
      injection h with h1 h2
      rw [List.nodup_cons] at nd ⊢
      refine ⟨fun hm => ?_, num_nodup (ds := ds) h2 nd.2⟩
      have : some d ∈ ds.map some := by
        rw [← h2, ← h1]
        exact List.mem_map.mpr ⟨k, hm, rfl⟩
      obtain ⟨e, he, ee⟩ := List.mem_map.mp this
      cases ee
      exact nd.1 he
structure TabG (T : Tab) : Prop where
  pl : ∀ u, u < T.Ts.length → (T.pl u).length ≤ 5000
  hd : ∀ u, u < T.Ts.length → ∀ f, headO (T.tm u) = some f → f ∈ T.row
  ar : ∀ u v, u < T.Ts.length → v < T.Ts.length → T.cas u v = .left → false ∈ sameL (· == ·) (T.pl u) (T.pl v)
theorem cols_ok {U : Str → Bool} {Ts : List PyData} {Ns : List (List Nat)} (row lots : List Str) (W : WfN U Ts Ns) {nt : Nat} {d : PyData} (ht : Ts[nt]? = some d) {ks cols : List Nat} (hk : NumL Ts ks (addAll [] (preD d)))
    (pm : cols.Perm (ks.filter fun v => (headO (Ts.getD v .none)).isSome)) (asc : cols.Pairwise (· ≤ ·)) : Tab.Ok U ⟨Ts, Ns, row, lots, cols⟩ (fun v => v ∈ ks) ∧ nt ∈ ks := by
  have lt := hk.lt
  have nd := num_nodup hk (addAll_ndA List.nodup_nil)
  have ndc : cols.Nodup := pm.nodup_iff.mpr (nd.filter _)
  have mem : ∀ {p : Nat} {e : PyData}, Ts[p]? = some e → (p ∈ ks ↔ e ∈ preD d) := fun hp => by
    rw [num_mem W.nd hp hk, addAll_iff]
    simp
  refine ⟨⟨W, lt, fun v hv b hb => ?_, ?_, fun v => ?_⟩, (mem ht).mpr (pre_self d)⟩
  · obtain ⟨e1, e2, e3, e4, e5⟩ := Tab.at_ (T := ⟨Ts, Ns, row, lots, cols⟩) W (lt v hv)
    have lb := e4 b hb
    have lv := lt v hv
    have lb : b < Ts.length := by
      have lv : v < Ts.length := lv
      omega
    obtain ⟨b1, _⟩ := Tab.at_ (T := ⟨Ts, Ns, row, lots, cols⟩) W lb
    refine (mem b1).mpr ?_
    have hp := (mem e1).mp hv
    refine pre_trans (fsz d) d _ _ (Nat.le_refl _) hp ?_
    rw [Tab.args_map (T := ⟨Ts, Ns, row, lots, cols⟩) W (lt v hv)]
    exact List.mem_map.mpr ⟨b, hb, rfl⟩
  · have : cols.Pairwise fun a b => a ≤ b ∧ a ≠ b := asc.and ndc
    exact this.imp fun ⟨h1, h2⟩ => by omega
  · show v ∈ cols ↔ _
    rw [pm.mem_iff, List.mem_filter, Option.isSome_iff_ne_none]
    exact Iff.rfl
theorem int_sort {ns' : List Int} {ks : List Nat} (pm : ns'.Perm (ks.map fun k => ((k : Nat) : Int))) (asc : ns'.Pairwise (· ≤ ·)) : ∃ cs : List Nat, ns' = cs.map (fun k => ((k : Nat) : Int)) ∧ cs.Perm ks ∧ cs.Pairwise (· ≤ ·) := by
  have e : ns' = (ns'.map Int.toNat).map fun k => ((k : Nat) : Int) := by
    rw [List.map_map]
    refine (List.map_id ns').symm.trans (List.map_congr_left fun x hx => ?_)
    obtain ⟨k, _, rfl⟩ := List.mem_map.mp (pm.mem_iff.mp hx)
    rfl
  refine ⟨ns'.map Int.toNat, e, ?_, ?_⟩
  · have := pm.map Int.toNat
    rw [List.map_map] at this
    have h : (ks.map (Int.toNat ∘ fun k => ((k : Nat) : Int))) = ks := by
      refine (List.map_congr_left fun x _ => ?_).trans (List.map_id ks)
      rfl
    rw [h] at this
    exact this
  · refine List.Pairwise.map Int.toNat (fun a b h => ?_) asc
    omega
end Sg

set_option maxRecDepth 100000
set_option maxHeartbeats 8000000
namespace Sg
open PySem PySem.Spec PyProof.Rows L2 Dr Gd Er Cm LD CM XT RT EnT RZ TF
def spAInit (K : PySem.W.Frag) (CN CP CA : Addr) (U : Str → Bool) : Sp := fun vs H Q _ => ∃ a p st lt lh lp dk Ts Ns row lots ns nt d da, vs = [.ref a, .ref p] ∧ H a = some (.ins CA da []) ∧ PrAt K CN CP U H p st lt lh lp dk ⟨Ts, Ns, row, lots, []⟩ ns nt ∧ TabG ⟨Ts, Ns, row, lots, []⟩ ∧ ns < Ts.length ∧ Ts[nt]? = some d ∧ Ts.length < 10000 ∧ fsz d ≤ 5000 ∧
  ∀ cols lo Cl H', SameX a H H' → H lo = none → AbAt K CN CP CA U H' a p st lt lh lp dk lo ⟨Ts, Ns, row, lots, cols⟩ ns nt ((⟨Ts, Ns, row, lots, cols⟩ : Tab).tab (ns + 1)) → Tab.Ok U ⟨Ts, Ns, row, lots, cols⟩ Cl → Cl nt → Q .non H'
structure FM (P : Program) (w : World) (K : PySem.W.Frag) (mg : Str → Option Value) (base : Heap) (CN CP CA : Addr) (U : Str → Bool) (fF fP : Addr) (dF dP : FuncData) : Prop where
  m : Meth K CA "_fill" fF
  o : FnOk P w K mg base CX0 4 fF dF ["self", "u"] (spFill K CN CP CA U)
  b : Binds K dF ["self", "u"] []
  pm : Meth K CN "parts_of" fP
  po : FnOk P w K mg base CX0 1 fP dP ["self", "number"] (spPartsOf K CN U)
  pb : Binds K dP ["self", "number"] []
section
variable {P : Program} {w : World} {K : PySem.W.Frag} {mg : Str → Option Value} {base : Heap} {CN CP CA : Addr} {U : Str → Bool} {fF fP fb : Addr} {dF dP db : FuncData}
theorem scAI : FnScope ["self", "pair", "u", "v"] ["self", "pair"] (defScope sAInit) := ⟨rfl, rfl, rfl, by decide +kernel, rfl, by decide +kernel, by decide +kernel⟩
theorem want_take {T : Tab} {cols : List Nat} (nd : cols.Nodup) {i v : Nat} (h : cols[i]? = some v) : putK ((cols.take i).map fun v => ((nK v : Key), iV (T.wt v))) (nK v) (iV (T.wt v)) = (cols.take (i + 1)).map fun v => (nK v, iV (T.wt v)) := by
  have hi : i < cols.length := (List.getElem?_eq_some_iff.mp h).1
  have hno : v ∉ cols.take i := fun hm => by
    obtain ⟨j, hj, e⟩ := List.getElem_of_mem hm
    have hj' := hj
    rw [List.length_take] at hj'
    rw [List.getElem_take] at e
    have : cols[j]? = some v := by rw [List.getElem?_eq_getElem (by omega), e]
    have := nodup_at nd this h
    omega
  rw [putK_new _ (by rw [want_val, if_neg hno]), List.take_add_one, h, List.map_append]
  rfl
theorem ok_ainit {f : Addr} {fd : FuncData} (F : Fun K "__init__" "Above.__init__" sAInit f fd) (SN : NCl K CN) (SP : PCl K CP) (S : ACl K CA) (M : FM P w K mg base CN CP CA U fF fP dF dP) (GB : Cal P w K mg base CX0 1 "_bits" fb db ["numbers"] (spBits K)) (srt : mg "sorted" = none) (rng : mg "range" = none) :
    FnOk P w K mg base CX0 5 f fd ["self", "pair"] (spAInit K CN CP CA U) := by
  refine F.ok scAI (fun vs H Q E h => ?_) (fun cdv A outer s H vs Q E hr h => ?_)
  · obtain ⟨a, p, st, lt, lh, lp, dk, Ts, Ns, row, lots, ns, nt, d, da, rfl, _⟩ := h
    rfl
  · obtain ⟨a, p, st, lt, lh, lp, dk, Ts, Ns, row, lots, ns, nt, d, da, rfl, ha, hP, hG, hns, hnt, hT, hsz, q⟩ := h
    have nd := scAI.nd
    have r1 : Room 1 (A.deeper (envOfC "Above.__init__" (defScope sAInit) s.heap.objs.size f cdv)) := hr.mono (by decide)
    have r4 : Room 4 (A.deeper (envOfC "Above.__init__" (defScope sAInit) s.heap.objs.size f cdv)) := hr.mono (by decide)
    refine ⟨_, pss_cons (ps_fld (pv 0) (pv 1) rfl)
      (pss_cons (ps_fld (pv 0) (pe_fld (pv 1) rfl) rfl)
      (pss_cons (ps_fld (pv 0) (pe_callB cr_sortedI (by rfl) srt (by decide +kernel) (pa_cons
        (pe_lc (own := [("v", 3)]) (g := gName 3) (tt := tTest (tOp (fun x y H Q => y = .non ∧ Q (.bl (!decide (x = .non))) H) (tOp (rIxL K) (tFld K (tFld K (tVar 0) "store") "heads") (tVar 3)) (tC .non))) (te := tVar 3) rfl nd
          (pi_list (pe_meth (pe_fld (pv 0) rfl) SN.cl M.pm M.po r1 M.pb .nil pass0 (pa_cons (pe_fld (pv 1) rfl) pa_nil))) (blkOk_by (N := ["self", "pair", "u", "v"]) (sc := defScope sAInit) (by decide +kernel))
          (fun _ _ _ _ _ => pg_name (i := 3) nd rfl (Or.inl rfl)) (fun _ _ _ _ _ => pts_one (pt_cmpR op_notN (pe_ix ix_list (pe_fld (pe_fld (pv 0) rfl) rfl) (pv 3) fun _ _ => rfl) pe_non (nomark _))) (fun _ _ _ _ _ => pv 3)) pa_nil)) rfl)
      (pss_cons (ps_fld (pv 0) (pe_dc (own := [("v", 3)]) (g := gName 3) (tt := tYes) (tk := tVar 3) (tv := tCall (spBits K) [] E0 (tCons (tOp (rIxL K) (tFld K (tFld K (tVar 0) "store") "places") (tVar 3)) tNil)) (by rfl) nd
          (pi_list (pe_fld (pv 0) rfl)) (blkOk_by (N := ["self", "pair", "u", "v"]) (sc := defScope sAInit) (by decide +kernel))
          (fun _ _ _ _ _ => pg_name (i := 3) nd rfl (Or.inl rfl)) (fun _ _ _ _ _ => pts_nil) (fun _ _ _ _ _ => pv 3)
          (fun _ _ _ _ _ => pe_call GB.ok r1 rfl GB.g GB.kp GB.b .nil pass0 (pa_cons (pe_ix ix_list (pe_fld (pe_fld (pv 0) rfl) rfl) (pv 3) fun _ _ => rfl) pa_nil))) rfl)
      (pss_cons (ps_fld (pv 0) (pe_lst pa_nil) rfl)
      (pss_one (ps_for PassesOwn.never rfl (pi_range1 (by rfl) rng (pa_cons (pe_op op_add (pe_fld (pv 1) rfl) pe_int) pa_nil)) (pg_name (i := 2) nd rfl (Or.inl rfl))
        (pss_cons (ps_expr (pe_bm PySem.F.plainAttrs_list PySem.F.slot_list_append PySem.F.type_list_append mt_append (pe_fld (pv 0) rfl) (pa_cons pe_int pa_nil)))
        (pss_one (ps_expr (pe_meth (pv 0) S.cl M.m M.o r4 M.b .nil pass0 (pa_cons (pv 2) pa_nil))))))))))), ?_⟩
    have big : (20000 : Nat) ≤ sizeLine := by decide
    have pa : p ≠ a := fun z => by
      obtain ⟨dp, dr, dl, e, _⟩ := hP.i
      rw [z, ha] at e
      have e := Option.some.inj e
      injection e with _ _ e
      cases e
    have sa : st ≠ a := fun z => by
      obtain ⟨dx, e⟩ := hP.n.i
      rw [z, ha] at e
      have e := Option.some.inj e
      injection e with _ _ e
      cases e
    -- pair
    refine ⟨_, rfl, _, rfl, a, CA, da, [], rfl, ha, S.cl, S.n1, by decide, ?_⟩
    have R1 : SameX a H (L2.upd H a (.ins CA da (putF "pair" (.ref p) []))) := (SameX.refl _ _).upd
    have hP1 := hP.x ha sa pa R1
    have a1 : (L2.upd H a (.ins CA da (putF "pair" (.ref p) []))) a = some (.ins CA da [("pair", .ref p)]) := upd_same
    generalize (L2.upd H a (.ins CA da (putF "pair" (.ref p) []))) = H1 at R1 hP1 a1 ⊢
    -- store
    obtain ⟨dp1, dr1, dl1, p1, _⟩ := hP1.i
    refine ⟨_, rfl, p, CP, dp1, _, .ref st, rfl, p1, SP.cl, SP.n1, rfl, _, rfl, a, CA, da, _, rfl, a1, S.cl, S.n2, (by simp), ?_⟩
    have R2 : SameX a H (L2.upd H1 a (.ins CA da (putF "store" (.ref st) [("pair", .ref p)]))) := R1.upd
    have hP2 := hP1.x (H' := L2.upd H1 a (.ins CA da (putF "store" (.ref st) [("pair", .ref p)]))) a1 sa pa (SameX.refl _ _).upd
    have a2 : (L2.upd H1 a (.ins CA da (putF "store" (.ref st) [("pair", .ref p)]))) a = some (.ins CA da [("pair", .ref p), ("store", .ref st)]) := upd_same
    generalize (L2.upd H1 a (.ins CA da (putF "store" (.ref st) [("pair", .ref p)]))) = H2 at R2 hP2 a2 ⊢
    -- columns
    obtain ⟨dp2, dr2, dl2, p2, _⟩ := hP2.i
    obtain ⟨dx2, hx2⟩ := hP2.n.i
    refine ⟨_, rfl, a, CA, da, _, .ref st, rfl, a2, S.cl, S.n2, rfl, st, dx2, _, rfl, hx2, rfl, _, rfl, p, CP, dp2, _, iV nt, rfl, p2, SP.cl, SP.n3, rfl, ?_⟩
    refine ⟨st, lt, lh, lp, dk, Ts, Ns, d, nt, rfl, hP2.n, hnt, hsz, hT, fun lk ks H3 s3 hk ek nk => ?_⟩
    have W := hP2.n.wf
    refine ⟨lk, rfl, ⟨_, SqL.of ek⟩, fun D hD => ?_⟩
    have lks : ks.length ≤ Ts.length := by
      rw [num_len nk]
      exact nodup_leD (addAll_ndA List.nodup_nil) (num_in nk)
    refine lc_it (walk_list (xs := ks.map iV)) (fun i H' => Same H3 H' ∧ H' D = some (.lst (((ks.take i).filter fun v => (headO (Ts.getD v .none)).isSome).map iV))) ⟨same_upd hD, upd_same⟩ (fun i H' hi hp => Same.seq hp.1 (SqL.of ek)) (fun i y Hq H' hi hp hy => ?_) (fun H4 hp => ?_)
    · obtain ⟨sd, hDl⟩ := hp
      obtain ⟨rfl, ey⟩ := hy
      obtain ⟨k, ek', rfl⟩ := iV_at ey
      refine ⟨rfl, ?_⟩
      have hP4 := hP2.same (Same.trans s3 sd)
      have a4 := Same.trans s3 sd _ _ a2
      have lk' := nk.lt k (List.mem_of_getElem? ek')
      refine rd_hd (T := ⟨Ts, Ns, row, lots, []⟩) hP4.n SN (fun Q' q' => ⟨_, rfl, a, CA, da, _, .ref st, rfl, a4, S.cl, S.n2, rfl, q'⟩) (fun Q' q' => rd_var rfl q') lk' ?_
      rw [headV_O]
      refine ⟨rfl, _, rfl, ?_⟩
      have ef := filter_take (fun v => (headO (Ts.getD v .none)).isSome) ek'
      have eh : headO ((⟨Ts, Ns, row, lots, []⟩ : Tab).tm k) = headO (Ts.getD k .none) := rfl
      rw [eh]
      cases e : headO (Ts.getD k .none) with
      | none =>
        rw [e] at ef
        refine iteF ⟨sd, ?_⟩
        rw [ef]
        simpa using hDl
      | some f =>
        rw [e] at ef
        refine iteT ⟨_, rfl, _, hDl, ?_, ?_, ?_⟩
        · rw [List.length_map]
          have := List.length_filter_le (fun v => (headO (Ts.getD v .none)).isSome) (ks.take i)
          rw [List.length_take] at this
          exact Nat.lt_of_lt_of_le (show _ < 20000 by omega) big
        · exact fun c o e => by
            rw [upd_ne (ne_of_none e hD)]
            exact sd c o e
        · rw [upd_same, ef, List.map_append]
          rfl
    obtain ⟨sd4, hD4⟩ := hp
    rw [List.length_map, List.take_length] at hD4
    refine ⟨D, (ks.filter fun v => (headO (Ts.getD v .none)).isSome).map (fun k => ((k : Nat) : Int)), rfl, by rw [int_map]; exact SqL.of hD4, fun ns' lc pm asc hlc => ?_⟩
    obtain ⟨cols, rfl, pc, ac⟩ := int_sort pm asc
    rw [int_map]
    obtain ⟨hOk, hCl⟩ := cols_ok row lots W hnt nk pc ac
    have s24 := Same.trans s3 sd4
    have slc := same_upd (o := .lst (cols.map iV)) hlc
    have elc : (L2.upd H4 lc (.lst (cols.map iV))) lc = some (.lst (cols.map iV)) := upd_same
    have s25 := Same.trans s24 slc
    generalize (L2.upd H4 lc (.lst (cols.map iV))) = H5 at slc elc s25 ⊢
    have a5 := s25 _ _ a2
    have hP5 := hP2.same s25
    have R5 := R2.trans (Same.x s25)
    have lca : lc ≠ a := fun z => by rw [z, s24 _ _ a2] at hlc; cases hlc
    refine ⟨_, rfl, a, CA, da, _, rfl, a5, S.cl, S.n3, (by simp), ?_⟩
    have R6 : SameX a H (L2.upd H5 a (.ins CA da (putF "_columns" (.ref lc) [("pair", .ref p), ("store", .ref st)]))) := R5.upd
    have hP6 := hP5.x (H' := L2.upd H5 a (.ins CA da (putF "_columns" (.ref lc) [("pair", .ref p), ("store", .ref st)]))) a5 sa pa (SameX.refl _ _).upd
    have a6 : (L2.upd H5 a (.ins CA da (putF "_columns" (.ref lc) [("pair", .ref p), ("store", .ref st)]))) a = some (.ins CA da [("pair", .ref p), ("store", .ref st), ("_columns", .ref lc)]) := upd_same
    have lc6 : (L2.upd H5 a (.ins CA da (putF "_columns" (.ref lc) [("pair", .ref p), ("store", .ref st)]))) lc = some (.lst (cols.map iV)) := by rw [upd_ne lca]; exact elc
    generalize (L2.upd H5 a (.ins CA da (putF "_columns" (.ref lc) [("pair", .ref p), ("store", .ref st)]))) = H6 at R6 hP6 a6 lc6 ⊢
    -- wanted
    have ndc : cols.Nodup := hOk.asc.imp fun h => by omega
    have lcol : ∀ v ∈ cols, v < Ts.length := fun v hv => hOk.lt v ((hOk.col v).mp hv).1
    have lcl : cols.length ≤ Ts.length := by
      have := pc.length_eq
      have h2 := List.length_filter_le (fun v => (headO (Ts.getD v .none)).isSome) ks
      omega
    refine ⟨_, rfl, a, CA, da, _, .ref lc, rfl, a6, S.cl, S.n3, rfl, lc, rfl, ⟨_, SqL.of lc6⟩, fun D2 hD2 => ?_⟩
    refine dc_it (walk_list (xs := cols.map iV)) (fun i H' => Same H6 H' ∧ H' D2 = some (.dK ((cols.take i).map fun v => (nK v, iV ((⟨Ts, Ns, row, lots, cols⟩ : Tab).wt v))))) ⟨same_upd hD2, upd_same⟩ (fun i H' hi hp => Same.seq hp.1 (SqL.of lc6)) (fun i y H7 H8 hi hp hy => ?_) (fun H7 hp => ?_)
    · obtain ⟨sm, hDl⟩ := hp
      obtain ⟨rfl, ey⟩ := hy
      obtain ⟨v, ev, rfl⟩ := iV_at ey
      refine ⟨rfl, lcYes ?_⟩
      have lv := lcol v (List.mem_of_getElem? ev)
      have a8 := sm _ _ a6
      have hP8 := hP6.same sm
      obtain ⟨v1, v2, v3, v4, v5⟩ := Tab.at_ (T := ⟨Ts, Ns, row, lots, cols⟩) W lv
      refine ⟨_, rfl, ?_⟩
      refine rd_pl hP8.n SN (fun Q' q' => ⟨_, rfl, a, CA, da, _, .ref st, rfl, a8, S.cl, S.n2, rfl, q'⟩) (fun Q' q' => rd_var rfl q') v2 fun ta hta => ?_
      refine ⟨ta, _, rfl, hta.sq, (fun n hn => by have := v4 n hn; omega), ?_⟩
      refine ⟨_, nK v, rfl, hDl, ?_, ?_, ?_⟩
      · rw [List.length_map]
        have := List.length_take_le' i cols
        exact Nat.lt_of_lt_of_le (show _ < 20000 by omega) big
      · exact fun c o e => by
          rw [upd_ne (ne_of_none e hD2)]
          exact sm c o e
      · rw [upd_same, ← want_take (T := ⟨Ts, Ns, row, lots, cols⟩) ndc ev]
        rfl
    obtain ⟨sm7, hD7⟩ := hp
    rw [List.length_map, List.take_length] at hD7
    have a7 := sm7 _ _ a6
    have hP7 := hP6.same sm7
    have R7 := R6.trans (Same.x sm7)
    have lc7 := sm7 _ _ lc6
    have D2a : D2 ≠ a := fun z => by rw [z, a6] at hD2; cases hD2
    refine ⟨_, rfl, a, CA, da, _, rfl, a7, S.cl, S.n4, (by simp), ?_⟩
    have R8 : SameX a H (L2.upd H7 a (.ins CA da (putF "_wanted" (.ref D2) [("pair", .ref p), ("store", .ref st), ("_columns", .ref lc)]))) := R7.upd
    have hP8 := hP7.x (H' := L2.upd H7 a (.ins CA da (putF "_wanted" (.ref D2) [("pair", .ref p), ("store", .ref st), ("_columns", .ref lc)]))) a7 sa pa (SameX.refl _ _).upd
    have a8 : (L2.upd H7 a (.ins CA da (putF "_wanted" (.ref D2) [("pair", .ref p), ("store", .ref st), ("_columns", .ref lc)]))) a = some (.ins CA da [("pair", .ref p), ("store", .ref st), ("_columns", .ref lc), ("_wanted", .ref D2)]) := upd_same
    have lc8 : (L2.upd H7 a (.ins CA da (putF "_wanted" (.ref D2) [("pair", .ref p), ("store", .ref st), ("_columns", .ref lc)]))) lc = some (.lst (cols.map iV)) := by rw [upd_ne lca]; exact lc7
    have D8 : (L2.upd H7 a (.ins CA da (putF "_wanted" (.ref D2) [("pair", .ref p), ("store", .ref st), ("_columns", .ref lc)]))) D2 = some (.dK (wantF ⟨Ts, Ns, row, lots, cols⟩)) := by rw [upd_ne D2a]; exact hD7
    generalize (L2.upd H7 a (.ins CA da (putF "_wanted" (.ref D2) [("pair", .ref p), ("store", .ref st), ("_columns", .ref lc)]))) = H8 at R8 hP8 a8 lc8 D8 ⊢
    -- over
    refine ⟨Nat.zero_le _, fun lo hlo => ?_⟩
    have slo := same_upd (o := .lst []) hlo
    have elo : (L2.upd H8 lo (.lst [])) lo = some (.lst []) := upd_same
    have a9 := slo _ _ a8
    have lc9 := slo _ _ lc8
    have D9 := slo _ _ D8
    have hP9 := hP8.same slo
    have R9 := R8.trans (Same.x slo)
    have loa : lo ≠ a := fun z => by rw [z, a8] at hlo; cases hlo
    have lcl' : lc ≠ lo := ne_of_none lc8 hlo
    have lo0 : H lo = none := by
      cases e : H lo with
      | none => rfl
      | some o => have := R8 _ _ e loa; rw [hlo] at this; cases this
    have loN : lo ∉ [lt, lh, lp, dk] := fun hm => by
      obtain ⟨o, e⟩ := hP8.n.trk lo hm
      rw [hlo] at e
      cases e
    generalize (L2.upd H8 lo (.lst [])) = H9 at slo elo a9 lc9 D9 hP9 R9 ⊢
    refine ⟨_, rfl, a, CA, da, _, rfl, a9, S.cl, S.n5, (by simp), ?_⟩
    have R10 : SameX a H (L2.upd H9 a (.ins CA da (putF "over" (.ref lo) [("pair", .ref p), ("store", .ref st), ("_columns", .ref lc), ("_wanted", .ref D2)]))) := R9.upd
    have hP10 := hP9.x (H' := L2.upd H9 a (.ins CA da (putF "over" (.ref lo) [("pair", .ref p), ("store", .ref st), ("_columns", .ref lc), ("_wanted", .ref D2)]))) a9 sa pa (SameX.refl _ _).upd
    have hA10 : AbAt K CN CP CA U (L2.upd H9 a (.ins CA da (putF "over" (.ref lo) [("pair", .ref p), ("store", .ref st), ("_columns", .ref lc), ("_wanted", .ref D2)]))) a p st lt lh lp dk lo ⟨Ts, Ns, row, lots, cols⟩ ns nt [] :=
      ⟨⟨da, lc, D2, upd_same, by rw [upd_ne lca]; exact lc9, lcl', by rw [upd_ne D2a]; exact D9⟩, by rw [upd_ne loa]; exact elo, loN, ⟨hP10.i, hP10.n⟩⟩
    generalize (L2.upd H9 a (.ins CA da (putF "over" (.ref lo) [("pair", .ref p), ("store", .ref st), ("_columns", .ref lc), ("_wanted", .ref D2)]))) = H10 at R10 hP10 hA10 ⊢
    obtain ⟨dp10, dr10, dl10, p10, _⟩ := hP10.i
    refine ⟨_, rfl, p, CP, dp10, _, iV ns, rfl, p10, SP.cl, SP.n2, rfl, _, _, rfl, rfl, _, rfl, by omega, by omega, ?_⟩
    rw [show (((ns : Nat) : Int) + 1).toNat = ns + 1 by omega]
    refine for_range (fun i σ H' => (∃ c2, σ = [some (.ref a), some (.ref p), c2, none]) ∧ SameX lo H10 H' ∧ H' lo = some (.lst (((⟨Ts, Ns, row, lots, cols⟩ : Tab).tab i).map iV))) ⟨⟨_, rfl⟩, SameX.refl _ _, hA10.o⟩ (fun i σ H' hi hp => ?_) (fun σ H' hp => ?_)
    · obtain ⟨⟨c2, rfl⟩, sx, eo⟩ := hp
      have hA' := hA10.put sx eo
      obtain ⟨da', lc', dw', b1, b2, b3, b4⟩ := hA'.i
      have lt := Tab.tab_len ⟨Ts, Ns, row, lots, cols⟩ i
      have ei : (0 : Int) + ((i : Nat) : Int) = ((i : Nat) : Int) := Int.zero_add _
      rw [ei]
      refine ⟨_, rfl, a, CA, da', _, .ref lo, rfl, b1, S.cl, S.n5, rfl, .inl ⟨rfl, _, SqL.of eo⟩, lo, _, .int 0, rfl, rfl, eo, Nat.lt_of_lt_of_le (show _ < 20000 by rw [List.length_map, lt]; omega) big, ?_⟩
      have sx1 := sx.trans ((SameX.refl lo H').upd (o := .lst (((⟨Ts, Ns, row, lots, cols⟩ : Tab).tab i).map iV ++ [.int 0])))
      have eo1 : (L2.upd H' lo (.lst (((⟨Ts, Ns, row, lots, cols⟩ : Tab).tab i).map iV ++ [.int 0]))) lo = some (.lst (((⟨Ts, Ns, row, lots, cols⟩ : Tab).tab i ++ [0]).map iV)) := by
        rw [upd_same, List.map_append]
        rfl
      generalize (L2.upd H' lo (.lst (((⟨Ts, Ns, row, lots, cols⟩ : Tab).tab i).map iV ++ [.int 0]))) = H11 at sx1 eo1 ⊢
      have hA1 := hA10.put sx1 eo1
      obtain ⟨da1, lc1, dw1, c1, _⟩ := hA1.i
      refine ⟨_, rfl, a, da1, _, rfl, c1, rfl, _, rfl, ?_⟩
      refine ⟨a, p, st, _, lh, lp, dk, lo, ⟨Ts, Ns, row, lots, cols⟩, ns, nt, (⟨Ts, Ns, row, lots, cols⟩ : Tab).tab i, by rw [lt]; rfl, hA1, by rw [lt]; show i < Ts.length; omega, (show Ts.length ≤ 10000 by omega), fun v hv => ⟨by have := lcol v hv; omega, fun r => ?_⟩, fun H12 s12 e12 => ?_⟩
      · have li : i < Ts.length := by omega
        have lv := lcol v hv
        obtain ⟨g1, g2, g3⟩ := hG
        rw [lt]
        refine ⟨li, lv, fun x hx => ?_, g1 i li, g1 v lv, g2 i li, g2 v lv, g3 i v li lv⟩
        rw [List.length_append, lt]
        have := (Tab.at_ (T := ⟨Ts, Ns, row, lots, cols⟩) W li).2.2.2.1 x hx
        omega
      · refine ⟨⟨_, rfl⟩, sx1.trans s12, ?_⟩
        rw [e12, lt]
        rfl
    · obtain ⟨⟨c2, rfl⟩, sx, eo⟩ := hp
      refine q cols lo (fun v => v ∈ ks) H' (fun b o e n => ?_) lo0 (hA10.put sx eo) hOk hCl
      exact sx _ _ (R10 _ _ e n) (fun z => by rw [z, lo0] at e; cases e)
end
end Sg

set_option maxRecDepth 100000
set_option maxHeartbeats 8000000
namespace Sg
open PySem PySem.Spec PyProof.Rows L2 Dr Gd Er Cm LD CM XT RT EnT RZ
abbrev sIsAbove : Stmt := top 37
theorem allTerm_memA {ps : List (Str × Int)} : ∀ {ds : List PyData}, allTerm ps ds = true → ∀ d ∈ ds, isTerm ps d = true
  | [], _, d, hd => by cases hd
  | e :: r, h, d, hd => by
    rw [allTerm, Bool.and_eq_true] at h
    rcases List.mem_cons.mp hd with rfl | hd
    · exact h.1
    · exact allTerm_memA h.2 d hd
theorem term_args {ps : List (Str × Int)} {d : PyData} (h : isTerm ps d = true) : ∀ a ∈ argsD d, isTerm ps a = true := by
  cases d with
  | tuple ds => cases ds with
    | nil => simp [isTerm] at h
    | cons e r =>
      rw [isTerm, Bool.and_eq_true] at h
      exact allTerm_memA h.2
  | _ => intro a ha; cases ha
theorem term_pre {ps : List (Str × Int)} : ∀ (n : Nat) (d t : PyData), fsz d ≤ n → isTerm ps d = true → t ∈ preD d → isTerm ps t = true
  | 0, d, t, hn, _, _ => by have := fsz_pos d; omega
  | n + 1, d, t, hn, h, ht => by
    rw [preD_eq] at ht
    rcases List.mem_cons.mp ht with rfl | ht
    · exact h
    · obtain ⟨e, he, hte⟩ := preDs_mem ht
      have h1 := fsz_args d
      have h2 := fszs_mem he
      exact term_pre n e t (by omega) (term_args h e he) hte
theorem arOf_mem {ps : List (Str × Int)} {z : Str} {m : Int} (h : arOf ps z = some m) : z ∈ nmsOf ps := by
  unfold arOf at h
  cases e : ps.find? fun p => decide (p.1 = z) with
  | none => rw [e] at h; cases h
  | some p =>
    have h1 := List.find?_some e
    have h2 := List.mem_of_find?_eq_some e
    rw [decide_eq_true_eq] at h1
    exact List.mem_map.mpr ⟨p, h2, h1⟩
theorem term_head {ps : List (Str × Int)} {d : PyData} (h : isTerm ps d = true) {f : Str} (hf : headO d = some f) : ∃ m, arOf ps f = some m ∧ ((argsD d).length : Int) = m := by
  cases d with
  | tuple ds => cases ds with
    | nil => simp [isTerm] at h
    | cons e r =>
      cases e with
      | str z =>
        have e : z = f := by simpa [headO] using hf
        subst e
        rw [isTerm, Bool.and_eq_true] at h
        have h1 := h.1
        unfold headOk at h1
        rw [show arD ps (.str z) = arOf ps z from rfl] at h1
        cases e2 : arOf ps z with
        | none => rw [e2] at h1; cases h1
        | some m =>
          rw [e2] at h1
          have h1 := of_decide_eq_true h1
          exact ⟨m, rfl, by show ((r.length : Nat) : Int) = m; omega⟩
      | _ => simp [headO] at hf
  | _ => simp [headO] at hf
theorem same_all : ∀ {us ws : List Nat}, us.length = ws.length → false ∉ sameL (· == ·) us ws → us = ws
  | [], [], _, _ => rfl
  | [], _ :: _, h, _ => by cases h
  | _ :: _, [], h, _ => by cases h
  | a :: us, b :: ws, h, n => by
    have n : false ∉ (a == b) :: sameL (· == ·) us ws := n
    rw [List.mem_cons, not_or] at n
    have e : a = b := by simpa using n.1
    rw [e, same_all (by simpa using h) n.2]
theorem head_tup {U : Str → Bool} {d : PyData} {f : Str} (ok : okN U d = true) (h : headO d = some f) : d = .tuple (.str f :: argsD d) := by
  rcases okN_case ok with ⟨z, rfl, _⟩ | ⟨z, r, rfl, _, _⟩
  · cases h
  · have e : z = f := by simpa [headO] using h
    rw [e]
    rfl
theorem tabG_of {U : Str → Bool} {ps : List (Str × Int)} {Ts : List PyData} {Ns : List (List Nat)} {row lots : List Str} (W : WfN U Ts Ns) (ht : ∀ t ∈ Ts, isTerm ps t = true ∧ fsz t ≤ 5000) (hr : ∀ f ∈ nmsOf ps, f ∈ row) : TabG ⟨Ts, Ns, row, lots, []⟩ := by
  refine ⟨fun u hu => ?_, fun u hu f hf => ?_, fun u v hu hv hc => ?_⟩
  · obtain ⟨a, b, c, d, e⟩ := Tab.at_ (T := ⟨Ts, Ns, row, lots, []⟩) W hu
    have h1 := (ht _ (List.mem_of_getElem? a)).2
    rw [num_len c]
    have h2 := fszs_len (argsD ((⟨Ts, Ns, row, lots, []⟩ : Tab).tm u))
    have h3 := fsz_args ((⟨Ts, Ns, row, lots, []⟩ : Tab).tm u)
    omega
  · obtain ⟨a, _⟩ := Tab.at_ (T := ⟨Ts, Ns, row, lots, []⟩) W hu
    obtain ⟨m, h1, _⟩ := term_head (ht _ (List.mem_of_getElem? a)).1 hf
    exact hr f (arOf_mem h1)
  · obtain ⟨a, b, c, d, e⟩ := Tab.at_ (T := ⟨Ts, Ns, row, lots, []⟩) W hu
    obtain ⟨a', b', c', d', e'⟩ := Tab.at_ (T := ⟨Ts, Ns, row, lots, []⟩) W hv
    refine Classical.byContradiction fun n => ?_
    unfold Tab.cas caseC at hc
    cases h1 : headO ((⟨Ts, Ns, row, lots, []⟩ : Tab).tm u) with
    | none => rw [h1] at hc; cases hc
    | some f => cases h2 : headO ((⟨Ts, Ns, row, lots, []⟩ : Tab).tm v) with
      | none => rw [h1, h2] at hc; cases hc
      | some g =>
        rw [h1, h2] at hc
        have hc : (if (u == v) = true then Cas.no else if f = g then (if f ∈ lots then Cas.lots else Cas.left) else if row.idxOf f < row.idxOf g then Cas.sign else Cas.no) = .left := hc
        by_cases huv : (u == v) = true
        · rw [if_pos huv] at hc; cases hc
        · rw [if_neg huv] at hc
          by_cases hfg : f = g
          · subst hfg
            obtain ⟨m, x1, x2⟩ := term_head (ht _ (List.mem_of_getElem? a)).1 h1
            obtain ⟨m', y1, y2⟩ := term_head (ht _ (List.mem_of_getElem? a')).1 h2
            rw [x1] at y1
            cases y1
            have l : ((⟨Ts, Ns, row, lots, []⟩ : Tab).pl u).length = ((⟨Ts, Ns, row, lots, []⟩ : Tab).pl v).length := by
              rw [num_len c, num_len c']
              omega
            have ep := same_all l n
            rw [ep] at c
            have ea := c.inj c'
            have et : (⟨Ts, Ns, row, lots, []⟩ : Tab).tm u = (⟨Ts, Ns, row, lots, []⟩ : Tab).tm v := by
              rw [head_tup e h1, head_tup e' h2, ea]
            rw [et] at a
            exact huv (by rw [nodup_at W.nd a a']; simp)
          · rw [if_neg hfg] at hc
            split at hc <;> cases hc
theorem passE0 {P : Program} {w : World} {X : Cx} (e1 : X.prog = P) (e2 : X.w = w) : Passes (L2.CX P w) X E0 := fun _ _ _ _ _ _ _ h => by
  obtain ⟨_, _, _, _, _, _, _, _, _, _, _, _, h⟩ := h
  exact h.elim
/-- two terms that an order may compare -/
structure Two (K : PySem.W.Frag) (C CO : Addr) (U : Str → Bool) (H : Hp) (o x : Addr) (ps : List (Str × Int)) (row lots : List Str) (v1 : V) (d1 : PyData) (v2 : V) (d2 : PyData) : Prop where
  o : OrAt K C CO H o x ps row lots
  r : row.Nodup
  l : lots.Nodup
  rl : row.length ≤ 100
  ll : lots.length ≤ 100
  rn : ∀ f ∈ nmsOf ps, f ∈ row
  h1 : Dp K H v1 d1
  k1 : okN U d1 = true
  s1 : fsz d1 ≤ 2000
  t1 : isTerm ps d1 = true
  g1 : TOk d1
  h2 : Dp K H v2 d2
  k2 : okN U d2 = true
  s2 : fsz d2 ≤ 2000
  t2 : isTerm ps d2 = true
  g2 : TOk d2
def spIsAbove (K : PySem.W.Frag) (CN CP : Addr) (U : Str → Bool) : Sp := fun vs H Q _ => ∃ p st lt lh lp dk Ts Ns row lots ns nt d1 d2, vs = [.ref p] ∧ PrAt K CN CP U H p st lt lh lp dk ⟨Ts, Ns, row, lots, []⟩ ns nt ∧ TabG ⟨Ts, Ns, row, lots, []⟩ ∧ Ts[ns]? = some d1 ∧ Ts[nt]? = some d2 ∧ Ts.length < 10000 ∧ fsz d2 ≤ 5000 ∧
  ∀ H', Same H H' → Q (.bl (abT row lots d1 d2)) H'
structure AM (P : Program) (w : World) (K : PySem.W.Frag) (mg : Str → Option Value) (base : Heap) (CN CP CA : Addr) (U : Str → Bool) (fA : Addr) (dA : FuncData) : Prop where
  km : Mk K CA fA
  g : mg "Above" = some (.ref CA)
  o : FnOk P w K mg base CX0 5 fA dA ["self", "pair"] (spAInit K CN CP CA U)
  b : Binds K dA ["self", "pair"] []
section
variable {P : Program} {w : World} {K : PySem.W.Frag} {mg : Str → Option Value} {base : Heap} {CN CP CA C CO : Addr} {U : Str → Bool} {fA fH : Addr} {dA dH : FuncData}
theorem scIA : FnScope ["pair"] ["pair"] (defScope sIsAbove) := ⟨rfl, rfl, rfl, by decide +kernel, rfl, by decide +kernel, by decide +kernel⟩
theorem same_mk {H H' : Hp} {a da : Addr} {o1 o2 : HO} (ha : H a = none) (hd : H da = none) (s : SameX a (L2.upd (L2.upd H da o1) a o2) H') : Same H H' := fun b o e => by
  have n := ne_of_none e ha
  exact s b o (by rw [upd_ne n, upd_ne (ne_of_none e hd)]; exact e) n
theorem same_up2 {H : Hp} {a da : Addr} {o1 o2 : HO} (ha : H a = none) (hd : H da = none) : Same H (L2.upd (L2.upd H da o1) a o2) := same_mk ha hd (SameX.refl _ _)
theorem tm_at {T : Tab} {u : Nat} {d : PyData} (h : T.Ts[u]? = some d) : T.tm u = d := by
  unfold Tab.tm
  rw [List.getD_eq_getElem?_getD, h]
  rfl
theorem ok_isAbove {f : Addr} {fd : FuncData} (F : Fun K "_is_above" "_is_above" sIsAbove f fd) (SP : PCl K CP) (S : ACl K CA) (M : AM P w K mg base CN CP CA U fA dA) (HM : HM P w K mg base CN CP CA U fH dH) : FnOk P w K mg base CX0 7 f fd ["pair"] (spIsAbove K CN CP U) := by
  refine F.ok scIA (fun vs H Q E h => ?_) (fun cdv A outer s H vs Q E hr h => ?_)
  · obtain ⟨p, st, lt, lh, lp, dk, Ts, Ns, row, lots, ns, nt, d1, d2, rfl, _⟩ := h
    rfl
  · obtain ⟨p, st, lt, lh, lp, dk, Ts, Ns, row, lots, ns, nt, d1, d2, rfl, hP, hG, e1, e2, hT, hsz, q⟩ := h
    have r1 : Room 1 (A.deeper (envOfC "_is_above" (defScope sIsAbove) s.heap.objs.size f cdv)) := hr.mono (by decide)
    refine ⟨_, pss_one (ps_ret (pe_meth (pe_make M.km M.o hr rfl M.g M.b .nil pass0 (pa_cons (pv 0) pa_nil)) S.cl HM.m HM.o r1 HM.b .nil pass0 (pa_cons (pe_fld (pv 0) rfl) (pa_cons (pe_fld (pv 0) rfl) pa_nil)))), ?_⟩
    refine ⟨_, rfl, fun a da ha hda hne => ?_⟩
    have s0 := same_up2 (o1 := .own a) (o2 := .ins CA da []) ha hda
    have hns := (List.getElem?_eq_some_iff.mp e1).1
    have hnt := (List.getElem?_eq_some_iff.mp e2).1
    refine ⟨a, p, st, lt, lh, lp, dk, Ts, Ns, row, lots, ns, nt, d2, da, rfl, upd_same, hP.same s0, hG, hns, e2, hT, hsz, fun cols lo Cl H1 sx hlo hA hO hCl => ⟨rfl, ?_⟩⟩
    have s1 := same_mk ha hda sx
    obtain ⟨da1, lc1, dw1, x1, _⟩ := hA.i
    obtain ⟨dp1, dr1, dl1, p1, _⟩ := hA.p.i
    refine ⟨a, da1, _, rfl, x1, rfl, _, rfl, p, CP, dp1, _, iV ns, rfl, p1, SP.cl, SP.n2, rfl, _, rfl, p, CP, dp1, _, iV nt, rfl, p1, SP.cl, SP.n3, rfl, ?_⟩
    refine ⟨a, p, st, lt, lh, lp, dk, lo, _, ns, nt, _, ns, nt, rfl, hA, by rw [Tab.tab_len]; omega, ?_⟩
    have q := q H1 s1
    have e := Tab.tab_ok hO (ns + 1) hns ns (Nat.lt_succ_self _) nt hCl
    rw [tm_at (T := ⟨Ts, Ns, row, lots, cols⟩) e1, tm_at (T := ⟨Ts, Ns, row, lots, cols⟩) e2] at e
    rw [e]
    exact q
end
end Sg

set_option maxRecDepth 100000
set_option maxHeartbeats 8000000
namespace Sg
open PySem PySem.Spec PyProof.Rows L2 Dr Gd Er Cm LD CM XT RT EnT RZ
theorem Two.same {K : PySem.W.Frag} {C CO : Addr} {U : Str → Bool} {H H' : Hp} {o x : Addr} {ps : List (Str × Int)} {row lots : List Str} {v1 v2 : V} {d1 d2 : PyData} (h : Two K C CO U H o x ps row lots v1 d1 v2 d2) (s : Same H H') : Two K C CO U H' o x ps row lots v1 d1 v2 d2 :=
  { h with o := h.o.same s, h1 := dp_same s _ _ h.h1, h2 := dp_same s _ _ h.h2 }
def spOCallG (K : PySem.W.Frag) (C CO : Addr) (U : Str → Bool) : Sp := fun vs H Q _ => ∃ o x ps row lots v1 d1 v2 d2, vs = [.ref o, v1, v2] ∧ Two K C CO U H o x ps row lots v1 d1 v2 d2 ∧ ∀ H', Same H H' → Q (.bl (abT row lots d1 d2)) H'
structure PM (P : Program) (w : World) (K : PySem.W.Frag) (mg : Str → Option Value) (base : Heap) (CN CP C CO : Addr) (U : Str → Bool) (fP : Addr) (dP : FuncData) : Prop where
  km : Mk K CP fP
  g : mg "Pair" = some (.ref CP)
  o : FnOk P w K mg base CX0 4 fP dP ["self", "order", "s", "t"] (spPInit K CN CP C CO U)
  b : Binds K dP ["self", "order", "s", "t"] []
theorem del_new {H : Hp} {p dp : Addr} {o1 o2 : HO} (hp : H p = none) (hd : H dp = none) : Same H (L2.del (L2.upd (L2.upd H dp o1) p o2) p) := fun b o e => by
  have n := ne_of_none e hp
  rw [del_ne n, upd_ne n, upd_ne (ne_of_none e hd)]
  exact e
section
variable {P : Program} {w : World} {K : PySem.W.Frag} {mg : Str → Option Value} {base : Heap} {CN CP CA C CO cT : Addr} {U : Str → Bool} {fL fI fP : Addr} {dL dI dP : FuncData}
theorem Two.parts {H : Hp} {o x : Addr} {ps : List (Str × Int)} {row lots : List Str} {v1 v2 : V} {d1 d2 : PyData} (G : Two K C CO U H o x ps row lots v1 d1 v2 d2) {Ts : List PyData} (hm : ∀ t ∈ Ts, t ∈ preD d1 ∨ t ∈ preD d2) (nd : Ts.Nodup) : (∀ t ∈ Ts, isTerm ps t = true ∧ fsz t ≤ 5000) ∧ Ts.length < 10000 := by
  have g1 := G.s1
  have g2 := G.s2
  refine ⟨fun t ht => ?_, ?_⟩
  · rcases hm t ht with h | h
    · exact ⟨term_pre (fsz d1) d1 t (Nat.le_refl _) G.t1 h, by have := pre_sz (fsz d1) d1 t (Nat.le_refl _) h; omega⟩
    · exact ⟨term_pre (fsz d2) d2 t (Nat.le_refl _) G.t2 h, by have := pre_sz (fsz d2) d2 t (Nat.le_refl _) h; omega⟩
  · have := nodup_leD (m := preD d1 ++ preD d2) nd fun y hy => List.mem_append.mpr (hm y hy)
    rw [List.length_append, preD_len, preD_len] at this
    omega
theorem Two.look {H : Hp} {o x : Addr} {ps : List (Str × Int)} {row lots : List Str} {v1 v2 : V} {d1 d2 : PyData} (G : Two K C CO U H o x ps row lots v1 d1 v2 d2) {Q : VK} {E : XK} (q : ∀ H', Same H H' → Q .non H') : spLookT K cT C [.ref x, v1, v2] H Q E := by
  obtain ⟨_, _, _, _, _, _, _, hS, _⟩ := G.o
  exact ⟨x, ps, v1, d1, v2, d2, rfl, hS, G.h1, G.g1, .inr (.inr ⟨G.t1, G.h2, G.g2, G.t2, q⟩)⟩
theorem ok_ocallG {f : Addr} {fd : FuncData} (F : Fun K "__call__" "Order.__call__" sOCall f fd) (S : OCl K CO) (GL : Cal P w K mg base (L2.CX P w) 5 "look_at_terms" fL dL ["signs", "s", "t"] (spLookT K cT C)) (MP : PM P w K mg base CN CP C CO U fP dP)
    (GI : Cal P w K mg base CX0 7 "_is_above" fI dI ["pair"] (spIsAbove K CN CP U)) : FnOk P w K mg base CX0 8 f fd ["self", "s", "t"] (spOCallG K C CO U) := by
  refine F.ok scOC (fun vs H Q E h => ?_) (fun cdv A outer s H vs Q E hr h => ?_)
  · obtain ⟨o, x, ps, row, lots, v1, d1, v2, d2, rfl, _⟩ := h
    rfl
  · obtain ⟨o, x, ps, row, lots, v1, d1, v2, d2, rfl, G, q⟩ := h
    have r5 : Room 5 (A.deeper (envOfC "Order.__call__" (defScope sOCall) s.heap.objs.size f cdv)) := hr.mono (by decide)
    refine ⟨_, pss_cons (ps_expr (pe_call GL.ok r5 rfl GL.g GL.kp GL.b .nil (passE0 rfl rfl) (pa_cons (pe_fld (pv 0) rfl) (pa_cons (pv 1) (pa_cons (pv 2) pa_nil)))))
      (pss_one (ps_ret (pe_call GI.ok hr rfl GI.g GI.kp GI.b .nil pass0 (pa_cons (pe_make MP.km MP.o r5 rfl MP.g MP.b .nil pass0 (pa_cons (pv 0) (pa_cons (pv 1) (pa_cons (pv 2) pa_nil)))) pa_nil)))), ?_⟩
    obtain ⟨dx, ln, ll, tf, fs, ws, a, _⟩ := id G.o
    refine ⟨_, rfl, o, CO, dx, _, .ref x, rfl, a, S.cl, S.n1, rfl, _, rfl, _, rfl, ?_⟩
    refine G.look fun H1 s1 => ?_
    have G1 := G.same s1
    refine ⟨_, rfl, _, rfl, _, rfl, fun p dp hp hdp hne => ?_⟩
    have sd := del_new (o1 := .own p) (o2 := .ins CP dp []) hp hdp
    have s2 := same_up2 (o1 := .own p) (o2 := .ins CP dp []) hp hdp
    have Gd := G1.same sd
    refine ⟨p, o, x, ps, row, lots, v1, d1, v2, d2, dp, rfl, upd_same, Gd.o, G.r, G.l, G.rl, G.ll, Gd.h1, G.k1, G.s1, Gd.h2, G.k2, G.s2, fun Ts Ns ns nt st lt lh lp dk H2 sx fr hP e1 e2 hm => ⟨rfl, ?_⟩⟩
    have s12 := same_mk hp hdp sx
    obtain ⟨ht, hT⟩ := G.parts hm hP.n.wf.nd
    have s2' := G.s2
    exact ⟨p, st, lt, lh, lp, dk, Ts, Ns, row, lots, ns, nt, d1, d2, rfl, hP, tabG_of hP.n.wf ht G.rn, e1, e2, hT, by omega, fun H3 s3 => q H3 (Same.trans s1 (Same.trans s12 s3))⟩
end
end Sg

set_option maxRecDepth 100000
set_option maxHeartbeats 8000000
namespace Sg
open PySem PySem.Spec PyProof.Rows L2 Dr Gd Er Cm LD CM XT RT
/-! folded over nodes of any kind: nothing that stood before is changed -/
inductive ItA (α : Type) where
  | op (a : α)
  | cl (a : α)
section
variable {α : Type}
def measA (sz : α → Nat) : List (ItA α) → Nat
  | [] => 0
  | .op d :: I => 2 * sz d + measA sz I
  | .cl _ :: I => 1 + measA sz I
theorem measA_len {sz : α → Nat} (hp : ∀ a, 1 ≤ sz a) : ∀ I : List (ItA α), I.length ≤ measA sz I
  | [] => Nat.zero_le _
  | .op d :: I => by
    have := measA_len hp I
    have := hp d
    rw [measA, List.length_cons]
    omega
  | .cl d :: I => by
    have := measA_len hp I
    rw [measA, List.length_cons]
    omega
theorem measA_ops {sz : α → Nat} (ds : List α) (I : List (ItA α)) : measA sz (ds.map .op ++ I) = 2 * (ds.map sz).sum + measA sz I := by
  induction ds with
  | nil => simp
  | cons d ds ih =>
    rw [List.map_cons, List.cons_append, measA, ih, List.map_cons, List.sum_cons]
    omega
inductive ExecA (ch : α → List α) : List (ItA α) → List α → List α → Prop where
  | nil {D : List α} : ExecA ch [] D D
  | op {d : α} {I : List (ItA α)} {D F : List α} : ExecA ch I (D ++ [d]) F → ExecA ch (.op d :: I) D F
  | cl {d : α} {I : List (ItA α)} {D F : List α} : ExecA ch I (D ++ [d]) F → ExecA ch (.cl d :: I) (D ++ ch d) F
theorem execA_ops {ch : α → List α} {J : List (ItA α)} {F : List α} : ∀ (ds D : List α), ExecA ch J (D ++ ds) F → ExecA ch (ds.map .op ++ J) D F
  | [], D, h => by simpa using h
  | d :: ds, D, h => .op (execA_ops ds (D ++ [d]) (by rw [List.append_assoc]; exact h))
inductive StkA (K : PySem.W.Frag) (nd : α → PyData) (ch : α → List α) (Pd : α → Prop) (Z : Hp) : List V → List (ItA α) → Prop where
  | nil : StkA K nd ch Pd Z [] []
  | op {t : Addr} {v : V} {d : α} {tr : List V} {I : List (ItA α)} : Z t = some (.tup [v, .non]) → Dp K Z v (nd d) → Pd d → StkA K nd ch Pd Z tr I → StkA K nd ch Pd Z (.ref t :: tr) (.op d :: I)
  | cl {t b : Addr} {v : V} {us : List V} {d : α} {tr : List V} {I : List (ItA α)} : Z t = some (.tup [v, .ref b]) → Dp K Z v (nd d) → Pd d → Z b = some (.lst us) → us.length = (ch d).length → StkA K nd ch Pd Z tr I → StkA K nd ch Pd Z (.ref t :: tr) (.cl d :: I)
theorem StkA.mono {K : PySem.W.Frag} {nd : α → PyData} {ch : α → List α} {Pd : α → Prop} {Z Z' : Hp} (s : Same Z Z') : ∀ {tr : List V} {I : List (ItA α)}, StkA K nd ch Pd Z tr I → StkA K nd ch Pd Z' tr I
  | _, _, .nil => .nil
  | _, _, .op a b c d => .op (s _ _ a) (dp_same s _ _ b) c (d.mono s)
  | _, _, .cl a b c d e f => .cl (s _ _ a) (dp_same s _ _ b) c (s _ _ d) e (f.mono s)
theorem StkA.len {K : PySem.W.Frag} {nd : α → PyData} {ch : α → List α} {Pd : α → Prop} {Z : Hp} : ∀ {tr : List V} {I : List (ItA α)}, StkA K nd ch Pd Z tr I → tr.length = I.length
  | _, _, .nil => rfl
  | _, _, .op _ _ _ d => by rw [List.length_cons, List.length_cons, d.len]
  | _, _, .cl _ _ _ _ _ f => by rw [List.length_cons, List.length_cons, f.len]
theorem StkA.app {K : PySem.W.Frag} {nd : α → PyData} {ch : α → List α} {Pd : α → Prop} {Z : Hp} : ∀ {tr tr2 : List V} {I J : List (ItA α)}, StkA K nd ch Pd Z tr I → StkA K nd ch Pd Z tr2 J → StkA K nd ch Pd Z (tr ++ tr2) (I ++ J)
  | _, _, _, _, .nil, h => h
  | _, _, _, _, .op a b c d, h => .op a b c (d.app h)
  | _, _, _, _, .cl a b c d e f, h => .cl a b c d e (f.app h)
theorem dpA_split {K : PySem.W.Frag} {Z : Hp} : ∀ {as bs : List PyData} {vs : List V}, DpAll K Z vs (as ++ bs) → DpAll K Z (vs.take as.length) as ∧ DpAll K Z (vs.drop as.length) bs
  | [], bs, vs, h => ⟨.nil, by simpa using h⟩
  | a :: as, bs, vs, h => by
    cases h with
    | cons x y =>
      obtain ⟨p, q⟩ := dpA_split y
      exact ⟨.cons x p, q⟩
structure FoldQ (K : PySem.W.Frag) (nd res : α → PyData) (ch : α → List α) (sz : α → Nat) (Pd : α → Prop) (H0 : Hp) (CC CM : List V → Hp → VK → Prop) : Prop where
  pos : ∀ a, 1 ≤ sz a
  szc : ∀ a, Pd a → 1 + ((ch a).map sz).sum ≤ sz a
  sub : ∀ a, Pd a → ∀ b ∈ ch a, Pd b
  kids : ∀ (a : α) (v : V) (T : List Addr) (H : Hp) (Q : VK), Same H0 H → Pd a → (∀ b ∈ T, ∃ xs, H b = some (.lst xs)) → Dp K (delS T H) v (nd a) → (∀ l us H', Same H H' → H l = none → H' l = some (.lst us) → DpAll K (delS T H') us ((ch a).map nd) → Q (.ref l) H') → CC [v] H Q
  made : ∀ (a : α) (v : V) (l : Addr) (us : List V) (T : List Addr) (H : Hp) (Q : VK), Same H0 H → Pd a → (∀ b ∈ T, ∃ xs, H b = some (.lst xs)) → l ∉ T → Dp K (delS T H) v (nd a) → H l = some (.lst us) → DpAll K (delS T H) us ((ch a).map res) → (∀ r H', Same H H' → Dp K (delS T H') r (res a) → Q r H') → CM [v, .ref l] H Q
def spFoldQ (K : PySem.W.Frag) (nd res : α → PyData) (ch : α → List α) (sz : α → Nat) (Pd : α → Prop) (kv mk : V) (Pk1 Pk2 : Hp → Prop) (CC CM : List V → Hp → VK → Prop) : List V → Hp → VK → Prop := fun vs H0 Q => ∃ v d, vs = [v, kv, mk] ∧ (∀ H', Same H0 H' → Pk1 H' ∧ Pk2 H') ∧ Pd d ∧ sz d ≤ 1000000 ∧ Dp K H0 v (nd d) ∧
  FoldQ K nd res ch sz Pd H0 CC CM ∧ ∀ r H', Same H0 H' → Dp K H' r (res d) → Q r H'
def tMkI (i : Nat) (mk : V) (Pk : Hp → Prop) (CM : List V → Hp → VK → Prop) (t : TA) : TE := fun σ H Q => σ[i]? = some (some mk) ∧ Pk H ∧ t σ H fun vs H1 => Pk H1 ∧ CM vs H1 Q
end
section
variable {α : Type} {nd res : α → PyData} {ch : α → List α} {sz : α → Nat} {Pd : α → Prop}
variable {P : Program} {w : World} {K : PySem.W.Frag} {mg : Str → Option Value} {base : Heap}
theorem foldQ_body {f : Addr} {cdv : Value} {A : Around} {outer : List Env} {s : Shared} {H : Hp} {vs : List V} {Q : VK} {E : XK} {kv mk : V} {Pk1 Pk2 : Hp → Prop} {CC CM : List V → Hp → VK → Prop} (hln : mg "len" = none)
    (hkid : ∀ {e1 : Expr} {t : TA} {p pos : Pos}, PA (cxOf CX0 P w K mg base ["root", "children", "made", "done", "todo", "node", "below", "first", "told", "child"] "folded" (defScope sFolded) f cdv A outer s H E).nox [e1] t →
      starEach [e1] (envOfC "folded" (defScope sFolded) s.heap.objs.size f cdv) = (false, eval e1 (envOfC "folded" (defScope sFolded) s.heap.objs.size f cdv)) :: starEach [] (envOfC "folded" (defScope sFolded) s.heap.objs.size f cdv) →
      (backTo pos (starEach [] (envOfC "folded" (defScope sFolded) s.heap.objs.size f cdv))).any (·.1) = false →
      PE (cxOf CX0 P w K mg base ["root", "children", "made", "done", "todo", "node", "below", "first", "told", "child"] "folded" (defScope sFolded) f cdv A outer s H E).nox (.Call (.Name "children" p) [e1] [] pos) (tMkI 1 kv Pk1 CC t))
    (hcall : ∀ {e1 e2 : Expr} {t : TA} {p pos : Pos}, PA (cxOf CX0 P w K mg base ["root", "children", "made", "done", "todo", "node", "below", "first", "told", "child"] "folded" (defScope sFolded) f cdv A outer s H E).nox [e1, e2] t →
      starEach [e1, e2] (envOfC "folded" (defScope sFolded) s.heap.objs.size f cdv) = (false, eval e1 (envOfC "folded" (defScope sFolded) s.heap.objs.size f cdv)) :: starEach [e2] (envOfC "folded" (defScope sFolded) s.heap.objs.size f cdv) →
      (backTo pos (starEach [e2] (envOfC "folded" (defScope sFolded) s.heap.objs.size f cdv))).any (·.1) = false →
      PE (cxOf CX0 P w K mg base ["root", "children", "made", "done", "todo", "node", "below", "first", "told", "child"] "folded" (defScope sFolded) f cdv A outer s H E).nox (.Call (.Name "made" p) [e1, e2] [] pos) (tMkI 2 mk Pk2 CM t))
    (h : spFoldQ K nd res ch sz Pd kv mk Pk1 Pk2 CC CM vs H Q) :
    ∃ t, PSs (cxOf CX0 P w K mg base ["root", "children", "made", "done", "todo", "node", "below", "first", "told", "child"] "folded" (defScope sFolded) f cdv A outer s H E).nox (defBody sFolded) t ∧ t { nx := fun _ H' => Q .non H', rt := Q } (start ["root", "children", "made", "done", "todo", "node", "below", "first", "told", "child"] vs) H := by
    obtain ⟨v, d0, rfl, pkK, hok, hsz, hd, FP, qq⟩ := h
    have ndp := scFd.nd
    refine ⟨_, pss_cons (ps_set (i := 3) ndp rfl (Or.inl rfl) (pe_lst pa_nil))
      (pss_cons (ps_set (i := 4) ndp rfl (Or.inl rfl) (pe_lst (pa_cons (pe_tup (pa_cons (pv 0) (pa_cons pe_non pa_nil))) pa_nil)))
      (pss_cons (ps_while PassesOwn.never (pt_truth (pv 4) (by intro _; rfl))
        (pss_cons (ps_asg (pe_bm0 PySem.F.plainAttrs_list PySem.F.slot_list_pop PySem.F.type_list_pop mt_pop (pv 4)) (pg_tup rfl (pgs_cons (pg_name (i := 5) ndp rfl (Or.inl rfl)) (pgs_cons (pg_name (i := 6) ndp rfl (Or.inl rfl)) pgs_nil))))
        (pss_one (ps_if (pt_cmpR op_isN (pv 6) pe_non (nomark _))
          (pss_cons (ps_set (i := 6) ndp rfl (Or.inl rfl) (hkid (pa_cons (pv 5) pa_nil) rfl rfl))
          (pss_cons (ps_expr (pe_bm PySem.F.plainAttrs_list PySem.F.slot_list_append PySem.F.type_list_append mt_append (pv 4) (pa_cons (pe_tup (pa_cons (pv 5) (pa_cons (pv 6) pa_nil))) pa_nil)))
          (pss_one (ps_expr (pe_bm PySem.F.plainAttrs_list PySem.F.slot_list_extend PySem.F.type_list_extend mt_extend (pv 4) (pa_cons (pe_lc (own := [("child", 9)]) (g := gName 9) (tt := tYes) (te := tTup (tCons (tVar 9) (tCons (tC .non) tNil))) rfl ndp (pi_list (pe_revL (pv 6)))
            (blkOk_by (N := ["root", "children", "made", "done", "todo", "node", "below", "first", "told", "child"]) (sc := defScope sFolded) (by decide +kernel)) (fun _ _ _ _ _ => pg_name (i := 9) ndp rfl (Or.inl rfl)) (fun _ _ _ _ _ => pts_nil) (fun _ _ _ _ _ => pe_tup (pa_cons (pv 9) (pa_cons pe_non pa_nil)))) pa_nil))))))
          (pss_cons (ps_set (i := 7) ndp rfl (Or.inl rfl) (pe_op op_sub (pe_callB call_len_seq (by rfl) hln PySem.boot_len (pa_cons (pv 3) pa_nil)) (pe_callB call_len_seq (by rfl) hln PySem.boot_len (pa_cons (pv 6) pa_nil))))
          (pss_cons (ps_set (i := 8) ndp rfl (Or.inl rfl) (pe_slice sl_list (pv 3) (po_some (pv 7)) po_none))
          (pss_cons (ps_delT (pv 3) (po_some (pv 7)))
          (pss_one (ps_expr (pe_bm PySem.F.plainAttrs_list PySem.F.slot_list_append PySem.F.type_list_append mt_append (pv 3) (pa_cons (hcall (pa_cons (pv 5) (pa_cons (pv 8) pa_nil)) rfl rfl) pa_nil)))))))))))
      (pss_one (ps_ret (pe_ix ix_list (pv 3) pe_int fun _ _ => rfl))))), ?_⟩
    have big : (8000000 : Nat) ≤ sizeLine := by decide
    have hpos := FP.pos
    refine ⟨Nat.zero_le _, fun ld hld => ?_⟩
    have s1 := same_upd (o := .lst []) hld
    refine ⟨_, rfl, (by show 2 ≤ sizeLine; decide), fun t0 ht0 => ⟨(by show 1 ≤ sizeLine; decide), fun lo hlo => ?_⟩⟩
    have ldt : ld ≠ t0 := fun z => by rw [← z, upd_same] at ht0; cases ht0
    have ldo : ld ≠ lo := fun z => by rw [← z, upd_ne ldt, upd_same] at hlo; cases hlo
    have t0o : t0 ≠ lo := fun z => by rw [← z, upd_same] at hlo; cases hlo
    have s2 := Same.trans s1 (same_upd (o := .tup [v, .non]) ht0)
    have s3 := Same.trans s2 (same_upd (o := .lst [.ref t0]) hlo)
    have hlo0 : H lo = none := Same.free s2 hlo
    have ht00 : H t0 = none := Same.free s1 ht0
    have inZ : ∀ {b : Addr}, b ≠ ld → b ≠ lo → b ∉ [ld, lo] := fun {b} h1 h2 h => by
      simp only [List.mem_cons, List.not_mem_nil, or_false] at h
      rcases h with h | h
      · exact h1 h
      · exact h2 h
    have out : ∀ {b : Addr} {o : HO}, H b = some o → b ∉ [ld, lo] := fun e => inZ (ne_of_none e hld) (ne_of_none e hlo0)
    have up : ∀ {H' : Hp} {c : Addr} {o : HO}, c ∈ [ld, lo] → Same H H' → Same H (L2.upd H' c o) := fun {H' c o} hc s b u e => by
      rw [upd_ne (fun z => out e (by rw [z]; exact hc))]
      exact s b u e
    have inl : ld ∈ [ld, lo] := by simp
    have inr : lo ∈ [ld, lo] := by simp
    have trk : ∀ {H' : Hp} {xs ys : List V}, H' ld = some (.lst xs) → H' lo = some (.lst ys) → ∀ b ∈ [ld, lo], ∃ xs, H' b = some (.lst xs) := fun {H' xs ys} e1 e2 b hb => by
      simp only [List.mem_cons, List.not_mem_nil, or_false] at hb
      rcases hb with rfl | rfl
      · exact ⟨_, e1⟩
      · exact ⟨_, e2⟩
    refine ⟨fun m σ H' => ∃ tr I us D c5 c6 c7 c8, m = measA sz I ∧ σ = [some v, some kv, some mk, some (.ref ld), some (.ref lo), c5, c6, c7, c8, none] ∧ Same H H' ∧ H' ld = some (.lst us) ∧ H' lo = some (.lst tr.reverse) ∧ StkA K nd ch Pd (delS [ld, lo] H') tr I ∧ DpAll K (delS [ld, lo] H') us (D.map res) ∧ ExecA ch I D [d0] ∧ D.length + measA sz I ≤ 4000000,
      ⟨_, [.ref t0], [.op d0], [], [], none, none, none, none, rfl, rfl, s3, ?_, upd_same, ?_, .nil, .op .nil, ?_⟩, ?_⟩
    · rw [upd_ne ldo, upd_ne ldt, upd_same]
    · refine .op (by rw [delS_of (inZ ldt.symm t0o), upd_ne t0o, upd_same]) (dp_same (fun b o e => ?_) _ _ hd) hok .nil
      rw [delS_of (out e)]
      exact s3 _ _ e
    · show 0 + (2 * sz d0 + 0) ≤ 4000000
      omega
    · rintro m σ H0 ⟨tr, I, us, D, c5, c6, c7, c8, rfl, rfl, W, hL, hT, hK, hG, hE, hB⟩
      have itr := hK.len
      have iml := measA_len hpos I
      have lus := dpAll_len hG
      rw [List.length_map] at lus
      refine ⟨_, rfl, !tr.reverse.isEmpty, .inl ⟨tr.reverse, SqL.of hT, rfl⟩, ?_⟩
      cases hK with
      | nil =>
        refine iteF ?_
        cases hE
        cases hG with
        | cons g1 g2 =>
          cases g2
          exact ⟨_, rfl, ld, _, 0, _, rfl, rfl, SqL.of hL, rfl, qq _ _ W (dp_same delS_sub _ _ g1)⟩
      | @op t vn d tr I k1 k2 k3 k4 =>
        rw [show (!(V.ref t :: tr).reverse.isEmpty) = true by simp]
        refine iteT ?_
        refine ⟨_, fun _ _ z => z, ?_⟩
        have hne : ((V.ref t :: tr).reverse)[(V.ref t :: tr).reverse.length - 1]? = some (.ref t) := by simp
        have hdl : (V.ref t :: tr).reverse.dropLast = tr.reverse := by simp
        obtain ⟨tS, ht⟩ := delS_inv k1
        have tlo : t ≠ lo := fun z => tS (by rw [z]; simp)
        refine ⟨_, rfl, .inl ⟨rfl, _, SqL.of hT⟩, lo, _, .ref t, rfl, rfl, hT, hne, ?_⟩
        rw [hdl]
        have W1 : Same H (L2.upd H0 lo (.lst tr.reverse)) := up inr W
        have L1 : (L2.upd H0 lo (.lst tr.reverse)) ld = some (.lst us) := by rw [upd_ne ldo]; exact hL
        have T1 : (L2.upd H0 lo (.lst tr.reverse)) lo = some (.lst tr.reverse) := upd_same
        have t1 : (L2.upd H0 lo (.lst tr.reverse)) t = H0 t := upd_ne tlo
        have Z1 : delS [ld, lo] (L2.upd H0 lo (.lst tr.reverse)) = delS [ld, lo] H0 := delS_upd inr
        generalize (L2.upd H0 lo (.lst tr.reverse)) = H1 at W1 L1 T1 t1 Z1 ⊢
        rw [ht] at t1
        rw [← Z1] at k2 k4 hG
        refine ⟨t, _, rfl, SqT.of t1, rfl, ?_⟩
        refine ⟨_, _, rfl, _, _, rfl, rfl, ?_⟩
        refine ⟨_, rfl, rfl, _, rfl, iteT ?_⟩
        rw [measA] at hB
        have fz := FP.szc d k3
        refine ⟨rfl, (pkK H1 W1).1, _, rfl, (pkK H1 W1).1, ?_⟩
        refine FP.kids d vn [ld, lo] H1 _ W1 k3 (trk L1 T1) k2 fun lb as H2 s2' hlb elb das2 => ?_
        have W2 := Same.trans W1 s2'
        have L2' := s2' _ _ L1
        have T2 := s2' _ _ T1
        have sz2 : Same (delS [ld, lo] H1) (delS [ld, lo] H2) := delS_same s2'
        have k2' := dp_same sz2 _ _ k2
        have k4' := k4.mono sz2
        have hG2 := dpAll_same sz2 _ _ hG
        have las : as.length = (ch d).length := by rw [dpAll_len das2, List.length_map]
        have lbld : lb ≠ ld := fun z => by rw [z, L1] at hlb; cases hlb
        have lblo : lb ≠ lo := fun z => by rw [z, T1] at hlb; cases hlb
        refine ⟨_, rfl, .inl ⟨rfl, _, SqL.of T2⟩, _, rfl, _, rfl, (by show 2 ≤ sizeLine; decide), fun t2 ht2 => ?_⟩
        have t2ld : t2 ≠ ld := fun z => by rw [z, L2'] at ht2; cases ht2
        have t2lo : t2 ≠ lo := fun z => by rw [z, T2] at ht2; cases ht2
        have s3' := same_upd (o := .tup [vn, .ref lb]) ht2
        have e3 : (L2.upd H2 t2 (.tup [vn, .ref lb])) t2 = some (.tup [vn, .ref lb]) := upd_same
        have W3 := Same.trans W2 s3'
        have L3 := s3' _ _ L2'
        have T3 := s3' _ _ T2
        have elb3 := s3' _ _ elb
        have sz3 : Same (delS [ld, lo] H2) (delS [ld, lo] (L2.upd H2 t2 (.tup [vn, .ref lb]))) := delS_same s3'
        generalize (L2.upd H2 t2 (.tup [vn, .ref lb])) = H3 at s3' e3 W3 L3 T3 elb3 sz3 ⊢
        have k2'' := dp_same sz3 _ _ k2'
        have k4'' := k4'.mono sz3
        have das3 := dpAll_same sz3 _ _ das2
        have hG3 := dpAll_same sz3 _ _ hG2
        refine ⟨lo, _, .ref t2, rfl, rfl, T3, Nat.lt_of_lt_of_le (show tr.reverse.length < 8000000 by rw [List.length_reverse]; have := k4.len; have := measA_len hpos I; omega) big, ?_⟩
        have W4 : Same H (L2.upd H3 lo (.lst (tr.reverse ++ [.ref t2]))) := up inr W3
        have L4 : (L2.upd H3 lo (.lst (tr.reverse ++ [.ref t2]))) ld = some (.lst us) := by rw [upd_ne ldo]; exact L3
        have T4 : (L2.upd H3 lo (.lst (tr.reverse ++ [.ref t2]))) lo = some (.lst (tr.reverse ++ [.ref t2])) := upd_same
        have e4 : (L2.upd H3 lo (.lst (tr.reverse ++ [.ref t2]))) t2 = some (.tup [vn, .ref lb]) := by rw [upd_ne t2lo]; exact e3
        have elb4 : (L2.upd H3 lo (.lst (tr.reverse ++ [.ref t2]))) lb = some (.lst as) := by rw [upd_ne lblo]; exact elb3
        have Z4 : delS [ld, lo] (L2.upd H3 lo (.lst (tr.reverse ++ [.ref t2]))) = delS [ld, lo] H3 := delS_upd inr
        generalize (L2.upd H3 lo (.lst (tr.reverse ++ [.ref t2]))) = H4 at W4 L4 T4 e4 elb4 Z4 ⊢
        rw [← Z4] at k2'' k4'' das3 hG3
        have stk4 : StkA K nd ch Pd (delS [ld, lo] H4) (.ref t2 :: tr) (.cl d :: I) := .cl (by rw [delS_of (inZ t2ld t2lo)]; exact e4) k2'' k3 (by rw [delS_of (inZ lbld lblo)]; exact elb4) las k4''
        refine ⟨_, rfl, .inl ⟨rfl, _, SqL.of T4⟩, _, rfl, lb, _, rfl, SqL.of elb4, fun p1 hp1 => ?_⟩
        have s5 := same_upd (o := .lst as.reverse) hp1
        have e5 : (L2.upd H4 p1 (.lst as.reverse)) p1 = some (.lst as.reverse) := upd_same
        have W5 := Same.trans W4 s5
        have L5 := s5 _ _ L4
        have T5 := s5 _ _ T4
        have sz5 : Same (delS [ld, lo] H4) (delS [ld, lo] (L2.upd H4 p1 (.lst as.reverse))) := delS_same s5
        generalize (L2.upd H4 p1 (.lst as.reverse)) = H5 at s5 e5 W5 L5 T5 sz5 ⊢
        have das5 := dpAll_same sz5 _ _ das3
        have hG5 := dpAll_same sz5 _ _ hG3
        have stk5 := stk4.mono sz5
        have das5r : ∀ (i : Nat) (y : V), as.reverse[i]? = some y → ∃ e, (ch d).reverse[i]? = some e ∧ Dp K (delS [ld, lo] H5) y (nd e) := fun i y e => by
          have hi : i < as.length := by
            have := (List.getElem?_eq_some_iff.mp e).1
            simpa using this
          rw [List.getElem?_reverse hi] at e
          obtain ⟨e', h1, h2⟩ := dpAll_get' das5 e
          rw [List.getElem?_map] at h1
          obtain ⟨e'', h3, rfl⟩ := Option.map_eq_some_iff.mp h1
          refine ⟨e'', ?_, h2⟩
          rw [List.getElem?_reverse (by omega), ← las]
          exact h3
        refine ⟨p1, rfl, ⟨_, SqL.of e5⟩, fun D1 hD1 => ?_⟩
        have D1ld : D1 ≠ ld := fun z => by rw [z, L5] at hD1; cases hD1
        have D1lo : D1 ≠ lo := fun z => by rw [z, T5] at hD1; cases hD1
        have lch : (ch d).length ≤ ((ch d).map sz).sum := by
          have go : ∀ l : List α, l.length ≤ (l.map sz).sum := fun l => by
            induction l with
            | nil => exact Nat.zero_le _
            | cons x r ih =>
              have := hpos x
              rw [List.map_cons, List.sum_cons, List.length_cons]
              omega
          exact go _
        refine lc_it (walk_list (xs := as.reverse)) (fun i H' => ∃ ks, Same H5 H' ∧ H' D1 = some (.lst ks) ∧ ks.length = i ∧ StkA K nd ch Pd (delS [D1, ld, lo] H') ks.reverse (((ch d).reverse.take i).reverse.map .op))
          ⟨[], same_upd hD1, upd_same, rfl, .nil⟩ (fun i H' hi hp => by obtain ⟨_, sm, _⟩ := hp; exact SqL.of (sm _ _ e5)) (fun i y H5' H' hi hp hy => ?_) (fun H6 hp => ?_)
        · obtain ⟨ks, sm, hD, hl, hst⟩ := hp
          obtain ⟨rfl, ey⟩ := hy
          obtain ⟨e, he, hye⟩ := das5r i y ey
          have hi' : i < as.length := by simpa using hi
          refine ⟨rfl, lcYes ?_⟩
          refine ⟨_, rfl, (by show 2 ≤ sizeLine; decide), fun tk htk => ?_⟩
          have tkD : tk ≠ D1 := fun z => by rw [z, hD] at htk; cases htk
          have tkld : tk ≠ ld := fun z => by rw [z, sm _ _ L5] at htk; cases htk
          have tklo : tk ≠ lo := fun z => by rw [z, sm _ _ T5] at htk; cases htk
          have sk := same_upd (o := .tup [y, .non]) htk
          refine ⟨ks, sk _ _ hD, Nat.lt_of_lt_of_le (show ks.length < 8000000 by omega) big, ks ++ [.ref tk], ?_, upd_same, by rw [List.length_append, hl]; rfl, ?_⟩
          · intro b o e'
            have := sm b o e'
            rw [upd_ne (ne_of_none e' hD1)]
            exact sk _ _ this
          · rw [List.reverse_append, List.take_succ, he]
            rw [delS_upd (by simp)]
            have kz : tk ∉ [D1, ld, lo] := fun h => by
              rcases List.mem_cons.mp h with h | h
              · exact tkD h
              · exact inZ tkld tklo h
            rw [show (List.take i (ch d).reverse ++ (some e).toList).reverse = e :: (List.take i (ch d).reverse).reverse by simp]
            refine .op (by rw [delS_of kz, upd_same]) (dp_same (fun b o e' => ?_) _ _ hye) (FP.sub d k3 e ?_) (hst.mono (delS_same sk))
            · obtain ⟨z1, z2⟩ := delS_inv e'
              have bD : b ≠ D1 := ne_of_none z2 hD1
              rw [delS_of (fun h => by
                rcases List.mem_cons.mp h with h | h
                · exact bD h
                · exact z1 h)]
              exact sk _ _ (sm _ _ z2)
            · exact List.mem_reverse.mp (List.mem_of_getElem? he)
        · obtain ⟨ks, sm, hD, hl, hst⟩ := hp
          have lk : ks.length = as.length := by simpa using hl
          have W6 := Same.trans W5 sm
          have L6 := sm _ _ L5
          have T6 := sm _ _ T5
          have hG6 := dpAll_same (delS_same (S := [ld, lo]) sm) _ _ hG5
          refine ⟨lo, D1, _, ks, rfl, rfl, T6, hD, Nat.le_trans (show (tr.reverse ++ [V.ref t2]).length + ks.length ≤ 8000000 by rw [List.length_append, List.length_reverse, List.length_singleton]; have := k4.len; have := measA_len hpos I; omega) big, ?_⟩
          have W7 : Same H (L2.upd H6 lo (.lst (tr.reverse ++ [.ref t2] ++ ks))) := up inr W6
          have er : (List.take as.reverse.length (ch d).reverse).reverse = ch d := by
            rw [List.take_of_length_le (by rw [List.length_reverse, List.length_reverse]; omega), List.reverse_reverse]
          rw [er] at hst
          refine ⟨measA sz ((ch d).map .op ++ .cl d :: I), ?_, ks.reverse ++ .ref t2 :: tr, (ch d).map .op ++ .cl d :: I, us, D, _, _, _, _, rfl, rfl, W7, (by rw [upd_ne ldo]; exact L6), (by rw [upd_same]; simp), ?_, ?_, execA_ops _ _ (.cl (by cases hE with | op h => exact h)), ?_⟩
          · rw [measA_ops, measA, measA]
            omega
          · rw [delS_upd inr]
            refine (hst.mono (delS_less fun b hb => List.mem_cons_of_mem _ hb)).app (stk5.mono (delS_same sm))
          · rw [delS_upd inr]
            exact hG6
          · rw [measA_ops, measA]
            omega
      | @cl t b vn bs d tr I k1 k2 k3 k4 k5 k6 =>
        rw [show (!(V.ref t :: tr).reverse.isEmpty) = true by simp]
        refine iteT ?_
        refine ⟨_, fun _ _ z => z, ?_⟩
        have hne : ((V.ref t :: tr).reverse)[(V.ref t :: tr).reverse.length - 1]? = some (.ref t) := by simp
        have hdl : (V.ref t :: tr).reverse.dropLast = tr.reverse := by simp
        obtain ⟨tS, ht⟩ := delS_inv k1
        have tlo : t ≠ lo := fun z => tS (by rw [z]; simp)
        refine ⟨_, rfl, .inl ⟨rfl, _, SqL.of hT⟩, lo, _, .ref t, rfl, rfl, hT, hne, ?_⟩
        rw [hdl]
        have W1 : Same H (L2.upd H0 lo (.lst tr.reverse)) := up inr W
        have L1 : (L2.upd H0 lo (.lst tr.reverse)) ld = some (.lst us) := by rw [upd_ne ldo]; exact hL
        have T1 : (L2.upd H0 lo (.lst tr.reverse)) lo = some (.lst tr.reverse) := upd_same
        have t1 : (L2.upd H0 lo (.lst tr.reverse)) t = H0 t := upd_ne tlo
        have Z1 : delS [ld, lo] (L2.upd H0 lo (.lst tr.reverse)) = delS [ld, lo] H0 := delS_upd inr
        generalize (L2.upd H0 lo (.lst tr.reverse)) = H1 at W1 L1 T1 t1 Z1 ⊢
        rw [ht] at t1
        rw [← Z1] at k2 k4 k6 hG
        obtain ⟨bS, hb⟩ := delS_inv k4
        refine ⟨t, _, rfl, SqT.of t1, rfl, ?_⟩
        refine ⟨_, _, rfl, _, _, rfl, rfl, ?_⟩
        refine ⟨_, rfl, rfl, _, rfl, iteF ?_⟩
        rw [measA] at hB
        cases hE with
        | @cl d I D F hE' =>
          rw [List.length_append] at hB lus
          rw [List.map_append] at hG
          obtain ⟨gl, gr⟩ := dpA_split hG
          rw [List.length_map] at gl gr
          refine ⟨_, rfl, ld, us, rfl, .inl (SqL.of L1), _, rfl, b, bs, rfl, .inl (SqL.of hb), _, _, rfl, rfl, ?_⟩
          have ek : (us.length : Int) - (bs.length : Int) = ((D.length : Nat) : Int) := by omega
          refine ⟨_, rfl, _, rfl, (us.length : Int) - (bs.length : Int), rfl, ld, us, rfl, SqL.of L1, fun p1 hp1 => ?_⟩
          rw [show cutV us (some ((us.length : Int) - (bs.length : Int))) none = us.drop D.length by rw [ek]; exact cut_fromV us D.length]
          have s5 := same_upd (o := .lst (us.drop D.length)) hp1
          have e5 : (L2.upd H1 p1 (.lst (us.drop D.length))) p1 = some (.lst (us.drop D.length)) := upd_same
          have p1ld : p1 ≠ ld := fun z => by rw [z, L1] at hp1; cases hp1
          have p1lo : p1 ≠ lo := fun z => by rw [z, T1] at hp1; cases hp1
          have W5 := Same.trans W1 s5
          have L5 := s5 _ _ L1
          have T5 := s5 _ _ T1
          have sz5 : Same (delS [ld, lo] H1) (delS [ld, lo] (L2.upd H1 p1 (.lst (us.drop D.length)))) := delS_same s5
          generalize (L2.upd H1 p1 (.lst (us.drop D.length))) = H5 at s5 e5 W5 L5 T5 sz5 ⊢
          have gl5 := dpAll_same sz5 _ _ gl
          have gr5 := dpAll_same sz5 _ _ gr
          refine ⟨_, rfl, _, rfl, (us.length : Int) - (bs.length : Int), rfl, ld, us, D.length, rfl, congrArg some ek, L5, by omega, ?_⟩
          have W6 : Same H (L2.upd H5 ld (.lst (us.take D.length))) := up inl W5
          have L6 : (L2.upd H5 ld (.lst (us.take D.length))) ld = some (.lst (us.take D.length)) := upd_same
          have T6 : (L2.upd H5 ld (.lst (us.take D.length))) lo = some (.lst tr.reverse) := by rw [upd_ne ldo.symm]; exact T5
          have e6 : (L2.upd H5 ld (.lst (us.take D.length))) p1 = some (.lst (us.drop D.length)) := by rw [upd_ne p1ld]; exact e5
          have Z6 : delS [ld, lo] (L2.upd H5 ld (.lst (us.take D.length))) = delS [ld, lo] H5 := delS_upd inl
          generalize (L2.upd H5 ld (.lst (us.take D.length))) = H6 at W6 L6 T6 e6 Z6 ⊢
          have k2' := dp_same sz5 _ _ k2
          have k6' := k6.mono sz5
          rw [← Z6] at k2' k6' gl5 gr5
          refine ⟨_, rfl, .inl ⟨rfl, _, SqL.of L6⟩, rfl, (pkK H6 W6).2, _, rfl, _, rfl, (pkK H6 W6).2, ?_⟩
          refine FP.made d vn p1 (us.drop D.length) [ld, lo] H6 _ W6 k3 (trk L6 T6) (inZ p1ld p1lo) k2' e6 gr5 fun r H7 s7 gd => ?_
          have L7 := s7 _ _ L6
          have T7 := s7 _ _ T6
          have W7 := Same.trans W6 s7
          refine ⟨ld, _, r, rfl, rfl, L7, Nat.lt_of_lt_of_le (show (us.take D.length).length < 8000000 by rw [List.length_take]; omega) big, ?_⟩
          have W8 : Same H (L2.upd H7 ld (.lst (us.take D.length ++ [r]))) := up inl W7
          refine ⟨measA sz I, by rw [measA]; omega, tr, I, us.take D.length ++ [r], D ++ [d], _, _, _, _, rfl, rfl, W8, upd_same, (by rw [upd_ne ldo.symm]; exact T7), ?_, ?_, hE', ?_⟩
          · rw [delS_upd inl]
            exact k6'.mono (delS_same s7)
          · rw [delS_upd inl, List.map_append]
            exact dpAll_app (dpAll_same (delS_same s7) _ _ gl5) (.cons gd .nil)
          · rw [List.length_append, List.length_singleton]
            omega
def spFold2 (K : PySem.W.Frag) (g1 g2 : Addr) (sp1 sp2 : Sp) (nd res : α → PyData) (ch : α → List α) (sz : α → Nat) (Pd : Addr → Hp → α → Prop) : Sp := fun vs H0 Q _ => ∃ v q1 q2 a d, vs = [v, .ref q1, .ref q2] ∧ H0 q1 = some (.met g1 a) ∧ H0 q2 = some (.met g2 a) ∧ Pd a H0 d ∧ sz d ≤ 1000000 ∧ Dp K H0 v (nd d) ∧
  FoldQ K nd res ch sz (Pd a H0) H0 (fun vs H Q => sp1 (.ref a :: vs) H Q E0) (fun vs H Q => sp2 (.ref a :: vs) H Q E0) ∧ ∀ r H', Same H0 H' → Dp K H' r (res d) → Q r H'
end
end Sg

set_option maxRecDepth 100000
set_option maxHeartbeats 4000000
/-! t.index(x), t a tuple of flat items -/
namespace IX
open PySem PySem.Spec PyProof.Rows L2
variable {X : Cx}
/-- y stands first at j -/
def FirstAt (items : List V) (y : V) (j : Nat) : Prop := (∃ z, items[j]? = some z ∧ eqV z y = true) ∧ ∀ m z, m < j → items[m]? = some z → eqV z y = false
def rIndexT (K : PySem.W.Frag) : V → List V → Hp → VK → Prop := fun x vs H Q => ∃ p items y j, x = .ref p ∧ vs = [y] ∧ SqT K H p items ∧ flatV y = true ∧ items.all flatV = true ∧ FirstAt items y j ∧ Q (.int ((j : Nat) : Int)) H
theorem mt_indexT : MtR X "tuple.index" (rIndexT X.K) := fun pins s σ H x vs v us Q I rx rvs => by
  rintro ⟨p, items, y, j, rfl, rfl, seq, fy, fall, ⟨⟨z, hz, ez⟩, no⟩, q⟩
  obtain ⟨w, rfl, rw_⟩ := Vals.one rvs
  cases rx
  obtain ⟨cells, rel, ⟨ob, get, cls, n, dat⟩, _⟩ := I.tuple seq
  have told : ∀ m c, items[m]? = some c → ∃ k : m < cells.toArray.size, eqU y cells.toArray[m] = eqV c y := fun m c hc => by
    obtain ⟨u, hu, ru⟩ := rel.get hc
    obtain ⟨k, e⟩ := List.getElem?_eq_some_iff.mp hu
    refine ⟨by simpa using k, ?_⟩
    rw [show cells.toArray[m]'(by simpa using k) = u by simpa using e]
    exact eqU_of ru (flat_at fall hc)
  obtain ⟨lt, at_j⟩ := told j z hz
  have len := rel.length
  obtain ⟨c0, d0, dt0, sl0⟩ := ob
  cases cls
  cases dat
  exact call_meets PySem.F.slot_tuple_index ⟨_, get, rfl⟩ PySem.F.entry_tuple_index (PySem.F.args_tuple_index_2 _ _)
    (TI.tuple_indexAt p cells.toArray n d0 sl0 w (eqU y) j lt (at_j.trans ez) fun m km lm => by
      have km' : m < items.length := by rw [len]; simpa using km
      obtain ⟨_, e⟩ := told m _ (List.getElem?_eq_getElem km')
      exact e.trans (no m _ lm (List.getElem?_eq_getElem km')))
    ⟨get, fun c hc => mem_eqAt rw_ fy rel fall c (by simpa using hc), .int ((j : Nat) : Int), H, I.tok _, ⟨_, rfl⟩, q⟩
end IX

set_option maxRecDepth 100000
set_option maxHeartbeats 8000000
namespace Sg
open PySem PySem.Spec PyProof.Rows L2 Dr Gd Er Cm LD CM XT RT EnT RZ
/-! the steps of one comparison -/
def firstP (p : Nat → Bool) : List Nat → Nat → Option (Nat × Nat)
  | [], _ => none
  | a :: r, i => if p a = true then some (i, a) else firstP p r (i + 1)
theorem firstP_some {p : Nat → Bool} : ∀ {l : List Nat} {i k a : Nat}, firstP p l i = some (k, a) → a ∈ l ∧ p a = true
  | [], i, k, a, h => by cases h
  | x :: r, i, k, a, h => by
    rw [firstP] at h
    by_cases hx : p x = true
    · rw [if_pos hx] at h
      cases h
      exact ⟨List.mem_cons_self, hx⟩
    · rw [if_neg hx] at h
      obtain ⟨h1, h2⟩ := firstP_some h
      exact ⟨List.mem_cons_of_mem _ h1, h2⟩
theorem firstP_none {p : Nat → Bool} : ∀ {l : List Nat} {i : Nat}, firstP p l i = none → ∀ a ∈ l, p a = false
  | [], i, _, a, h => by cases h
  | x :: r, i, h, a, ha => by
    rw [firstP] at h
    by_cases hx : p x = true
    · rw [if_pos hx] at h
      cases h
    · rw [if_neg hx] at h
      rcases List.mem_cons.mp ha with rfl | ha
      · simpa using hx
      · exact firstP_none h a ha
inductive Way where
  | part0 (i : Nat)
  | part1 (i a : Nat)
  | left (i x y : Nat)
  | lots (rows : List (Nat × Nat))
  | sign
  | no
namespace Tab
def way (T : Tab) (os : List Nat) (u v : Nat) : Way :=
  if v ∈ T.pl u then .part0 ((T.pl u).idxOf v) else match firstP (fun a => hb os a v) (T.pl u) 0 with
    | some (i, a) => .part1 i a
    | none => match T.cas u v with
      | .left => .left (fuI (· == ·) (T.pl u) (T.pl v)) ((T.pl u).getD (fuI (· == ·) (T.pl u) (T.pl v)) 0) ((T.pl v).getD (fuI (· == ·) (T.pl u) (T.pl v)) 0)
      | .lots => .lots (rowsC (· == ·) (hb os) (T.pl u) (T.pl v))
      | .sign => .sign
      | .no => .no
def rest (T : Tab) (u v : Nat) : List (Nat × Nat) := (T.pl v).map fun b => (u, b)
def rowN (T : Tab) (u v : Nat) (r : Nat × Nat) : Nat × Nat := ((T.pl u).getD r.2 0, (T.pl v).getD r.1 0)
def need (T : Tab) (u v : Nat) : Way → List (Nat × Nat)
  | .part0 _ => []
  | .part1 _ a => [(a, v)]
  | .left _ x y => (x, y) :: T.rest u v
  | .lots rows => rows.map (T.rowN u v) ++ T.rest u v
  | .sign => T.rest u v
  | .no => T.rest u v
/-- a table that is told of -/
structure Full (U : Str → Bool) (T : Tab) (Cl : Nat → Prop) (os : List Nat) : Prop where
  O : T.Ok U Cl
  G : TabG T
  h : ∀ u, u < os.length → ∀ w, Cl w → hb os u w = abT T.row T.lots (T.tm u) (T.tm w)
  le : os.length ≤ T.Ts.length
section
variable {U : Str → Bool} {T : Tab} {Cl : Nat → Prop} {os : List Nat}
theorem hb_eq (F : T.Full U Cl os) {u v : Nat} (hu : u < os.length) (hv : Cl v) : hb os u v = ((T.pl u).any (fun a => a == v || hb os a v) || ((T.pl v).all (fun b => hb os u b) && T.byU os u v)) := by
  have W := F.O.wf
  have lu : u < T.Ts.length := by have := F.le; omega
  have lv := F.O.lt v hv
  obtain ⟨u1, u2, u3, u4, u5⟩ := at_ W lu
  rw [F.h u hu v hv, abT_eq]
  unfold abF
  have e1 : (argsD (T.tm u)).any (fun a => PyData.eqv a (T.tm v) || abT T.row T.lots a (T.tm v)) = (T.pl u).any (fun a => a == v || hb os a v) := by
    rw [args_map W lu, List.any_map]
    refine any_congr' fun a ha => ?_
    have la := u4 a ha
    show (PyData.eqv (T.tm a) (T.tm v) || abT T.row T.lots (T.tm a) (T.tm v)) = _
    rw [← eq_tm W (by omega) lv, ← F.h a (by omega) v hv]
  have e2 : (argsD (T.tm v)).all (fun b => abT T.row T.lots (T.tm u) b) = (T.pl v).all fun b => hb os u b := by
    rw [args_map W lv, List.all_map]
    refine all_congr' fun b hb' => ?_
    show abT T.row T.lots (T.tm u) (T.tm b) = _
    rw [← F.h u hu b (F.O.dn v hv b hb')]
  have e3 : byC PyData.eqv (abT T.row T.lots) (argsD (T.tm u)) (argsD (T.tm v)) (caseC T.row T.lots (headO (T.tm u)) (headO (T.tm v)) (PyData.eqv (T.tm u) (T.tm v))) = T.byU os u v := by
    unfold byU cas
    rw [eq_tm W lu lv, (ren (r := abT T.row T.lots) W lu lv fun a ha b hb' => F.h a (by have := u4 a ha; omega) b (F.O.dn v hv b hb')).by, ← args_map W lu, ← args_map W lv]
  rw [e1, e2, e3]
theorem rowsG_all {hb : Nat → Nat → Bool} {us vs kept : List Nat} : ∀ {js : List Nat} {acc : List (Nat × Nat)}, (∀ r ∈ acc, at2 hb us vs r.2 r.1 = true) → ∀ r ∈ rowsG hb us vs kept js acc, at2 hb us vs r.2 r.1 = true
  | [], acc, h, r, hr => h r hr
  | j :: js, acc, h, r, hr => by
    rw [rowsG] at hr
    split at hr
    · cases hr
    · rename_i i rst e
      refine rowsG_all (js := js) (acc := acc ++ [(j, i)]) (fun q hq => ?_) r hr
      rcases List.mem_append.mp hq with hq | hq
      · exact h q hq
      · rw [List.mem_singleton.mp hq]
        have : i ∈ kept.filter (fun i => at2 hb us vs i j) := by rw [e]; exact List.mem_cons_self
        exact (List.mem_filter.mp this).2
theorem at2_get {hb : Nat → Nat → Bool} {us vs : List Nat} {i j : Nat} (h : at2 hb us vs i j = true) : us[i]? = some (us.getD i 0) ∧ vs[j]? = some (vs.getD j 0) ∧ hb (us.getD i 0) (vs.getD j 0) = true := by
  unfold at2 at h
  rw [List.getD_eq_getElem?_getD, List.getD_eq_getElem?_getD]
  cases e1 : us[i]? with
  | none => rw [e1] at h; cases h
  | some a => cases e2 : vs[j]? with
    | none => rw [e1, e2] at h; cases h
    | some b =>
      rw [e1, e2] at h
      exact ⟨rfl, rfl, h⟩
/-- a pair of which the table says yes -/
structure Node (T : Tab) (Cl : Nat → Prop) (os : List Nat) (n : Nat × Nat) : Prop where
  u : n.1 < os.length
  v : Cl n.2
  h : hb os n.1 n.2 = true
theorem way_cas (F : T.Full U Cl os) {u v : Nat} (N : Node T Cl os (u, v)) (h1 : v ∉ T.pl u) (h2 : firstP (fun a => hb os a v) (T.pl u) 0 = none) : (T.pl v).all (fun b => hb os u b) = true ∧ T.byU os u v = true := by
  have h := N.h
  rw [hb_eq F N.u N.v] at h
  have e : (T.pl u).any (fun a => a == v || hb os a v) = false := by
    rw [List.any_eq_false]
    intro a ha hz
    rw [Bool.or_eq_true] at hz
    rcases hz with z | z
    · exact h1 (by rw [← (show a = v by simpa using z)]; exact ha)
    · have := firstP_none h2 a ha
      rw [this] at z
      cases z
  rw [e, Bool.false_or, Bool.and_eq_true] at h
  exact h
theorem need_ok (F : T.Full U Cl os) {u v : Nat} (N : Node T Cl os (u, v)) : ∀ m ∈ T.need u v (T.way os u v), Node T Cl os m := by
  have W := F.O.wf
  have hu := N.u
  have hv := N.v
  have lu : u < T.Ts.length := by have := F.le; have hu : u < os.length := hu; omega
  obtain ⟨u1, u2, u3, u4, u5⟩ := at_ W lu
  unfold way
  by_cases h1 : v ∈ T.pl u
  · rw [if_pos h1]
    intro m hm
    cases hm
  · rw [if_neg h1]
    cases h2 : firstP (fun a => hb os a v) (T.pl u) 0 with
    | some ia =>
      obtain ⟨i, a⟩ := ia
      obtain ⟨ha, hp⟩ := firstP_some h2
      intro m hm
      rw [List.mem_singleton.mp hm]
      exact ⟨by have := u4 a ha; have hu : u < os.length := hu; show a < _; omega, hv, hp⟩
    | none =>
      obtain ⟨hall, hby⟩ := way_cas F N h1 h2
      have hr : ∀ m ∈ T.rest u v, Node T Cl os m := fun m hm => by
        obtain ⟨b, hb', rfl⟩ := List.mem_map.mp hm
        exact ⟨hu, F.O.dn v hv b hb', List.all_eq_true.mp hall b hb'⟩
      have mk : ∀ {x y i j : Nat}, (T.pl u)[i]? = some x → (T.pl v)[j]? = some y → hb os x y = true → Node T Cl os (x, y) := fun h3 h4 h5 =>
        ⟨by have := u4 _ (List.mem_of_getElem? h3); have hu : u < os.length := hu; show _ < _; omega, F.O.dn v hv _ (List.mem_of_getElem? h4), h5⟩
      unfold byU at hby
      cases hc : T.cas u v with
      | left =>
        rw [hc] at hby
        obtain ⟨g1, g2, g3⟩ := at2_get hby
        intro m hm
        rcases List.mem_cons.mp hm with rfl | hm
        · exact mk g1 g2 g3
        · exact hr m hm
      | lots =>
        intro m hm
        rcases List.mem_append.mp hm with hm | hm
        · obtain ⟨r, hr', rfl⟩ := List.mem_map.mp hm
          have := rowsG_all (fun r h => by cases h) r hr'
          obtain ⟨g1, g2, g3⟩ := at2_get this
          exact mk g1 g2 g3
        · exact hr m hm
      | sign => exact hr
      | no => exact hr
end
end Tab
end Sg

set_option maxRecDepth 100000
set_option maxHeartbeats 8000000
namespace Sg
open PySem PySem.Spec PyProof.Rows L2 Dr Gd Er Cm LD CM XT RT EnT RZ
mutual
def hgt : PyData → Nat
  | .tuple (_ :: r) => hgts r
  | .tuple [] => 0
  | .str _ => 0
  | .none => 0
  | .bool _ => 0
  | .int _ => 0
  | .list _ => 0
  | .dict _ => 0
def hgts : List PyData → Nat
  | [] => 0
  | d :: r => max (hgt d + 1) (hgts r)
end
theorem hgt_args (d : PyData) : hgt d = hgts (argsD d) := by
  cases d with
  | tuple ds => cases ds with
    | nil => simp [hgt, argsD, hgts]
    | cons e r => simp [hgt, argsD]
  | _ => simp [hgt, argsD, hgts]
theorem hgts_mem : ∀ {ds : List PyData} {a : PyData}, a ∈ ds → hgt a + 1 ≤ hgts ds
  | [], a, h => by cases h
  | d :: r, a, h => by
    rw [hgts]
    rcases List.mem_cons.mp h with rfl | h
    · omega
    · have := hgts_mem h
      omega
theorem lov_sum {us : List Nat} {g f : Nat → Nat} : ∀ (bs : List Nat) (j : Nat) (kept over : List Nat), (∀ k b, bs[k]? = some b → g (j + k) = f b) → ((lov (· == ·) us bs j kept over).2.map g).sum ≤ (over.map g).sum + (bs.map f).sum
  | [], j, kept, over, _ => by simp [lov]
  | b :: bs, j, kept, over, h => by
    have h0 : g j = f b := by simpa using h 0 b rfl
    have h' : ∀ k b, bs[k]? = some b → g (j + 1 + k) = f b := fun k c e => by
      have := h (k + 1) c (by simpa using e)
      rw [← this]
      congr 1
      omega
    rw [lov, List.map_cons, List.sum_cons]
    split
    · have := lov_sum (us := us) bs (j + 1) kept (over ++ [j]) h'
      rw [List.map_append, List.sum_append] at this
      simp only [List.map_cons, List.map_nil, List.sum_cons, List.sum_nil] at this
      omega
    · rename_i i _ _
      have := lov_sum (us := us) bs (j + 1) (kept.erase i) over h'
      omega
theorem rowsG_fst {hb : Nat → Nat → Bool} {us vs kept : List Nat} : ∀ (js : List Nat) (acc : List (Nat × Nat)), (rowsG hb us vs kept js acc).map (·.1) = acc.map (·.1) ++ js ∨ rowsG hb us vs kept js acc = []
  | [], acc => .inl (by simp [rowsG])
  | j :: js, acc => by
    rw [rowsG]
    split
    · exact .inr rfl
    · rename_i i _ _
      rcases rowsG_fst (hb := hb) (us := us) (vs := vs) (kept := kept) js (acc ++ [(j, i)]) with h | h
      · refine .inl ?_
        rw [h, List.map_append, List.append_assoc]
        rfl
      · exact .inr h
theorem rows_sum {hb : Nat → Nat → Bool} {us vs : List Nat} (f : Nat → Nat) : ((rowsC (· == ·) hb us vs).map fun r => f (vs.getD r.1 0)).sum ≤ (vs.map f).sum := by
  have e : ((rowsC (· == ·) hb us vs).map fun r => f (vs.getD r.1 0)) = ((rowsC (· == ·) hb us vs).map (·.1)).map fun j => f (vs.getD j 0) := by rw [List.map_map]; rfl
  rw [e]
  rcases rowsG_fst (hb := hb) (us := us) (vs := vs) (kept := (leftO (· == ·) us vs).1) (leftO (· == ·) us vs).2 [] with h | h
  · rw [show (rowsC (· == ·) hb us vs).map (·.1) = (leftO (· == ·) us vs).2 from h]
    have := lov_sum (us := us) (g := fun j => f (vs.getD j 0)) (f := f) vs 0 (List.range us.length) [] (fun k b e => by
      rw [Nat.zero_add, List.getD_eq_getElem?_getD, e]
      rfl)
    have this : ((leftO (· == ·) us vs).2.map fun j => f (vs.getD j 0)).sum ≤ 0 + (vs.map f).sum := this
    omega
  · rw [show rowsC (· == ·) hb us vs = [] from h]
    exact Nat.zero_le _
def szT (N h : Nat) : Nat := N * (N + 1) ^ h
theorem szT_le {N M h : Nat} (hN : N + 1 ≤ M) : szT N h ≤ N * M ^ h := Nat.mul_le_mul_left _ (Nat.pow_le_pow_left hN h)
theorem szT_lo {N M h k : Nat} (hN : N + 1 ≤ M) (hM : 1 ≤ M) (hk : h ≤ k) : szT N h ≤ N * M ^ k := Nat.le_trans (szT_le hN) (Nat.mul_le_mul_left _ (Nat.pow_le_pow_right hM hk))
theorem pow_pos' (a k : Nat) (h : 1 ≤ a) : 1 ≤ a ^ k := Nat.one_le_pow _ _ h
theorem sz_rest (S h : Nat) : 1 + S * (S + 1) ^ h ≤ szT (S + 1) h := by
  unfold szT
  have h1 : (S + 1) ^ h ≤ (S + 1 + 1) ^ h := Nat.pow_le_pow_left (by omega) h
  have h2 := pow_pos' (S + 1 + 1) h (by omega)
  have h3 : S * (S + 1) ^ h ≤ S * (S + 1 + 1) ^ h := Nat.mul_le_mul_left _ h1
  rw [Nat.add_mul, Nat.one_mul]
  omega
theorem sz_both (S k : Nat) : 1 + (S * (S + 1) ^ k + S * (S + 1) ^ (k + 1)) ≤ szT (S + 1) (k + 1) := by
  unfold szT
  have h1 : (S + 1) ^ k ≤ (S + 1 + 1) ^ k := Nat.pow_le_pow_left (by omega) k
  have h2 := pow_pos' (S + 1 + 1) k (by omega)
  generalize hP : (S + 1 + 1) ^ k = P at h1 h2
  generalize hR : (S + 1) ^ k = R at h1
  rw [Nat.pow_succ, Nat.pow_succ, hP, hR]
  have e : S * R + S * (R * (S + 1)) = S * R * (S + 2) := by
    rw [← Nat.mul_assoc, Nat.mul_add (S * R) S 2, Nat.mul_add (S * R) S 1]
    omega
  rw [e]
  have h4 : S * R * (S + 2) ≤ S * P * (S + 2) := Nat.mul_le_mul_right _ (Nat.mul_le_mul_left _ h1)
  have e2 : (S + 1) * (P * (S + 1 + 1)) = S * P * (S + 2) + P * (S + 2) := by
    rw [← Nat.mul_assoc, Nat.add_mul S 1 P, Nat.one_mul, Nat.add_mul (S * P) P (S + 1 + 1)]
  rw [e2]
  have h5 : 1 ≤ P * (S + 2) := by
    have : 1 * 1 ≤ P * (S + 2) := Nat.mul_le_mul h2 (by omega)
    omega
  omega
theorem sz_part (S h k : Nat) (hk : h + 1 ≤ k) : 1 + szT (S + 1) h ≤ szT (S + 1) k := by
  have h0 : szT (S + 1) (h + 1) ≤ szT (S + 1) k := Nat.mul_le_mul_left _ (Nat.pow_le_pow_right (by omega) hk)
  refine Nat.le_trans ?_ h0
  unfold szT
  rw [Nat.pow_succ]
  have h2 := pow_pos' (S + 1 + 1) h (by omega)
  generalize (S + 1 + 1) ^ h = P at h2
  have e : (S + 1) * (P * (S + 1 + 1)) = (S + 1) * P + (S + 1) * P * (S + 1) := by
    rw [← Nat.mul_assoc, Nat.mul_add ((S + 1) * P) (S + 1) 1]
    omega
  rw [e]
  have : 1 * 1 * 1 ≤ (S + 1) * P * (S + 1) := Nat.mul_le_mul (Nat.mul_le_mul (by omega) h2) (by omega)
  omega
theorem sum_le {α : Type} {f g : α → Nat} : ∀ {l : List α}, (∀ a ∈ l, f a ≤ g a) → (l.map f).sum ≤ (l.map g).sum
  | [], _ => Nat.le_refl _
  | a :: l, h => by
    have h1 := h a List.mem_cons_self
    have h2 := sum_le (f := f) (g := g) (l := l) fun x hx => h x (List.mem_cons_of_mem _ hx)
    rw [List.map_cons, List.map_cons, List.sum_cons, List.sum_cons]
    omega
theorem sum_mul {α : Type} (f : α → Nat) (c : Nat) : ∀ l : List α, (l.map fun a => f a * c).sum = (l.map f).sum * c
  | [] => by simp
  | a :: l => by rw [List.map_cons, List.map_cons, List.sum_cons, List.sum_cons, sum_mul f c l, Nat.add_mul]
theorem fszs_sum (g : Nat → PyData) : ∀ l : List Nat, fszs (l.map g) = (l.map fun n => fsz (g n)).sum
  | [] => by simp [fszs]
  | a :: l => by rw [List.map_cons, fszs, fszs_sum g l, List.map_cons, List.sum_cons]
theorem sum_mem {α : Type} {f : α → Nat} {l : List α} {a : α} (h : a ∈ l) : f a ≤ (l.map f).sum := by
  induction l with
  | nil => cases h
  | cons x l ih =>
    rw [List.map_cons, List.sum_cons]
    rcases List.mem_cons.mp h with rfl | h
    · omega
    · have := ih h
      omega
namespace Tab
def sz (T : Tab) (n : Nat × Nat) : Nat := szT (fsz (T.tm n.2)) (hgt (T.tm n.1))
theorem sz_pos (T : Tab) (n : Nat × Nat) : 1 ≤ T.sz n := by
  have h1 := fsz_pos (T.tm n.2)
  have h2 := pow_pos' (fsz (T.tm n.2) + 1) (hgt (T.tm n.1)) (by omega)
  have : 1 * 1 ≤ T.sz n := Nat.mul_le_mul h1 h2
  omega
section
variable {U : Str → Bool} {T : Tab} {Cl : Nat → Prop} {os : List Nat}
theorem need_sz (F : T.Full U Cl os) {u v : Nat} (N : Node T Cl os (u, v)) : 1 + ((T.need u v (T.way os u v)).map T.sz).sum ≤ T.sz (u, v) := by
  have W := F.O.wf
  have hu := N.u
  have lu : u < T.Ts.length := by have := F.le; have hu : u < os.length := hu; omega
  have lv := F.O.lt v N.v
  obtain ⟨u1, u2, u3, u4, u5⟩ := at_ W lu
  obtain ⟨S, hS⟩ : ∃ S, ((T.pl v).map fun n => fsz (T.tm n)).sum = S := ⟨_, rfl⟩
  have eN : fsz (T.tm v) = S + 1 := by rw [fsz_args, args_map W lv, fszs_sum, hS]; omega
  have hgx : ∀ x ∈ T.pl u, hgt (T.tm x) + 1 ≤ hgt (T.tm u) := fun x hx => by
    rw [hgt_args (T.tm u), args_map W lu]
    exact hgts_mem (List.mem_map.mpr ⟨x, hx, rfl⟩)
  have Nb : ∀ b ∈ T.pl v, fsz (T.tm b) + 1 ≤ S + 1 := fun b hb' => by
    have := sum_mem (f := fun n => fsz (T.tm n)) hb'
    rw [hS] at this
    omega
  have hrest : ((T.rest u v).map T.sz).sum ≤ S * (S + 1) ^ hgt (T.tm u) := by
    unfold rest
    rw [List.map_map]
    refine Nat.le_trans (sum_le (g := fun b => fsz (T.tm b) * (S + 1) ^ hgt (T.tm u)) fun b hb' => szT_le (Nb b hb')) ?_
    rw [sum_mul, hS]
    exact Nat.le_refl _
  have pair : ∀ {x y : Nat}, x ∈ T.pl u → y ∈ T.pl v → ∀ {k : Nat}, hgt (T.tm u) = k + 1 → T.sz (x, y) ≤ fsz (T.tm y) * (S + 1) ^ k := fun {x y} hx hy k hk => by
    have hx' := hgx x hx
    have hk' : hgt (T.tm x) ≤ k := by omega
    exact szT_lo (Nb y hy) (by omega) hk'
  show _ ≤ szT (fsz (T.tm v)) (hgt (T.tm u))
  rw [eN]
  have sR := sz_rest S (hgt (T.tm u))
  unfold way
  by_cases h1 : v ∈ T.pl u
  · rw [if_pos h1]
    show 1 + 0 ≤ _
    omega
  · rw [if_neg h1]
    cases h2 : firstP (fun a => hb os a v) (T.pl u) 0 with
    | some ia =>
      obtain ⟨i, a⟩ := ia
      obtain ⟨ha, hp⟩ := firstP_some h2
      show 1 + (szT (fsz (T.tm v)) (hgt (T.tm a)) + 0) ≤ _
      rw [eN, Nat.add_zero]
      exact sz_part S _ _ (hgx a ha)
    | none =>
      obtain ⟨hall, hby⟩ := way_cas F N h1 h2
      unfold byU at hby
      cases hc : T.cas u v with
      | left =>
        rw [hc] at hby
        obtain ⟨g1, g2, g3⟩ := at2_get hby
        have m1 := List.mem_of_getElem? g1
        have m2 := List.mem_of_getElem? g2
        have := hgx _ m1
        obtain ⟨k, hk⟩ : ∃ k, hgt (T.tm u) = k + 1 := ⟨hgt (T.tm u) - 1, by omega⟩
        have hp := pair m1 m2 hk
        have hs : fsz (T.tm ((T.pl v).getD (fuI (· == ·) (T.pl u) (T.pl v)) 0)) * (S + 1) ^ k ≤ S * (S + 1) ^ k := Nat.mul_le_mul_right _ (by have := Nb _ m2; omega)
        show 1 + (T.sz _ + ((T.rest u v).map T.sz).sum) ≤ _
        have hb2 := sz_both S k
        rw [hk] at hrest ⊢
        omega
      | lots =>
        show 1 + (((rowsC (· == ·) (hb os) (T.pl u) (T.pl v)).map (T.rowN u v) ++ T.rest u v).map T.sz).sum ≤ _
        rw [List.map_append, List.sum_append, List.map_map]
        cases er : rowsC (· == ·) (hb os) (T.pl u) (T.pl v) with
        | nil =>
          show 1 + (0 + ((T.rest u v).map T.sz).sum) ≤ _
          omega
        | cons r0 rr =>
          rw [← er]
          have ok : ∀ r ∈ rowsC (· == ·) (hb os) (T.pl u) (T.pl v), at2 (hb os) (T.pl u) (T.pl v) r.2 r.1 = true := fun r hr => rowsG_all (fun r h => by cases h) r hr
          obtain ⟨g1, _⟩ := at2_get (ok r0 (by rw [er]; exact List.mem_cons_self))
          have := hgx _ (List.mem_of_getElem? g1)
          obtain ⟨k, hk⟩ : ∃ k, hgt (T.tm u) = k + 1 := ⟨hgt (T.tm u) - 1, by omega⟩
          have h3 : ((rowsC (· == ·) (hb os) (T.pl u) (T.pl v)).map (T.sz ∘ T.rowN u v)).sum ≤ S * (S + 1) ^ k := by
            refine Nat.le_trans (sum_le (g := fun r => fsz (T.tm ((T.pl v).getD r.1 0)) * (S + 1) ^ k) fun r hr => ?_) ?_
            · obtain ⟨g1, g2, g3⟩ := at2_get (ok r hr)
              exact pair (List.mem_of_getElem? g1) (List.mem_of_getElem? g2) hk
            · rw [sum_mul]
              refine Nat.mul_le_mul_right _ ?_
              have := rows_sum (hb := hb os) (us := T.pl u) (vs := T.pl v) (fun n => fsz (T.tm n))
              rw [hS] at this
              exact this
          have hb2 := sz_both S k
          rw [hk] at hrest ⊢
          omega
      | sign =>
        show 1 + ((T.rest u v).map T.sz).sum ≤ _
        omega
      | no =>
        show 1 + ((T.rest u v).map T.sz).sum ≤ _
        omega
end
end Tab
end Sg

set_option maxRecDepth 100000
set_option maxHeartbeats 8000000
namespace Sg
open PySem PySem.Spec PyProof.Rows L2 Dr Gd Er Cm LD CM XT RT EnT RZ
def nI (n : Nat) : PyData := .int (n : Int)
def ndD (n : Nat × Nat) : PyData := .tuple [nI n.1, nI n.2]
def rowsD : List (Nat × Nat) → List PyData → List PyData
  | (j, i) :: r, t :: ts => .tuple [nI j, nI i, t] :: rowsD r ts
  | _, _ => []
def madeD : Way → List PyData → PyData
  | .part0 i, _ => .tuple [.str "part", nI i, .none]
  | .part1 i _, told => .tuple [.str "part", nI i, told.headD .none]
  | .left i _ _, told => .tuple [.str "left", nI i, told.headD .none, .list (told.drop 1)]
  | .lots rows, told => .tuple [.str "lots", .list (rowsD rows told), .list (told.drop rows.length)]
  | .sign, told => .tuple [.str "sign", .list told]
  | .no, told => .tuple [.str "none", .list told]
def Way.word : Way → Str
  | .part0 _ => "part"
  | .part1 _ _ => "part"
  | .left _ _ _ => "left"
  | .lots _ => "lots"
  | .sign => "sign"
  | .no => "none"
namespace Tab
def ndW (T : Tab) (os : List Nat) (n : Nat × Nat) : Way := T.way os n.1 n.2
def chN (T : Tab) (os : List Nat) (n : Nat × Nat) : List (Nat × Nat) := T.need n.1 n.2 (T.ndW os n)
def resN (T : Tab) (os : List Nat) : Nat → Nat × Nat → PyData
  | 0, _ => .none
  | k + 1, n => madeD (T.ndW os n) ((T.chN os n).map (T.resN os k))
def res (T : Tab) (os : List Nat) (n : Nat × Nat) : PyData := T.resN os (T.sz n) n
section
variable {U : Str → Bool} {T : Tab} {Cl : Nat → Prop} {os : List Nat}
theorem resN_st (F : T.Full U Cl os) : ∀ (k m : Nat) (n : Nat × Nat), Node T Cl os n → T.sz n ≤ k → T.sz n ≤ m → T.resN os k n = T.resN os m n
  | 0, m, n, _, h, _ => by have := T.sz_pos n; omega
  | k + 1, 0, n, _, _, h => by have := T.sz_pos n; omega
  | k + 1, m + 1, n, N, h1, h2 => by
    obtain ⟨u, v⟩ := n
    have hs := need_sz F N
    show madeD _ ((T.chN os (u, v)).map (T.resN os k)) = madeD _ ((T.chN os (u, v)).map (T.resN os m))
    congr 1
    refine List.map_congr_left fun c hc => ?_
    have := sum_mem (f := T.sz) hc
    have hc' : c ∈ T.need u v (T.way os u v) := hc
    have e : ((T.need u v (T.way os u v)).map T.sz).sum = ((T.chN os (u, v)).map T.sz).sum := rfl
    exact resN_st F k m c (need_ok F N c hc') (by omega) (by omega)
theorem res_eq (F : T.Full U Cl os) {n : Nat × Nat} (N : Node T Cl os n) : T.res os n = madeD (T.ndW os n) ((T.chN os n).map (T.res os)) := by
  obtain ⟨k, hk⟩ : ∃ k, T.sz n = k + 1 := ⟨T.sz n - 1, by have := T.sz_pos n; omega⟩
  unfold res
  rw [hk]
  show madeD _ ((T.chN os n).map (T.resN os k)) = _
  congr 1
  obtain ⟨u, v⟩ := n
  have hs := need_sz F N
  have e : ((T.need u v (T.way os u v)).map T.sz).sum = ((T.chN os (u, v)).map T.sz).sum := rfl
  refine List.map_congr_left fun c hc => ?_
  have := sum_mem (f := T.sz) hc
  exact resN_st F k _ c (need_ok F N c hc) (by omega) (Nat.le_refl _)
end
end Tab
/-- the values of nodes, as tuples -/
def PrR (Z : Hp) : List V → List (Nat × Nat) → Prop := RwR Z
theorem pr_dp {K : PySem.W.Frag} {Z : Hp} : ∀ {vs : List V} {ns : List (Nat × Nat)}, RwR Z vs ns → DpAll K Z vs (ns.map ndD)
  | [], [], _ => .nil
  | [], _ :: _, h => h.elim
  | _ :: _, [], h => h.elim
  | v :: vs, n :: ns, ⟨⟨t, e, h⟩, r⟩ => by
    subst e
    exact .cons (.tup (SqT.of h) (.cons (.int _) (.cons (.int _) .nil))) (pr_dp r)
theorem RwR.app {Z : Hp} : ∀ {vs us : List V} {rs ss : List (Nat × Nat)}, RwR Z vs rs → RwR Z us ss → RwR Z (vs ++ us) (rs ++ ss)
  | [], _, [], _, _, h => h
  | [], _, _ :: _, _, h, _ => h.elim
  | _ :: _, _, [], _, h, _ => h.elim
  | v :: vs, us, r :: rs, ss, ⟨x, y⟩, h => ⟨x, y.app h⟩
/-- what is a tuple is not among lists -/
theorem RwR.delS {S : List Addr} {H : Hp} (hS : ∀ b ∈ S, ∃ xs, H b = some (.lst xs)) : ∀ {vs : List V} {rs : List (Nat × Nat)}, RwR H vs rs → RwR (delS S H) vs rs
  | [], [], _ => trivial
  | [], _ :: _, h => h.elim
  | _ :: _, [], h => h.elim
  | v :: vs, r :: rs, ⟨⟨a, e, h⟩, x⟩ => by
    have n : a ∉ S := fun hm => by
      obtain ⟨xs, z⟩ := hS a hm
      rw [h] at z
      cases z
    exact ⟨⟨a, e, by rw [delS_of n]; exact h⟩, x.delS hS⟩
/-- and the list itself takes no part -/
theorem RwR.delp {p : Addr} {H : Hp} {xs : List V} (hp : H p = some (.lst xs)) : ∀ {vs : List V} {rs : List (Nat × Nat)}, RwR H vs rs → RwR (L2.del H p) vs rs
  | [], [], _ => trivial
  | [], _ :: _, h => h.elim
  | _ :: _, [], h => h.elim
  | v :: vs, r :: rs, ⟨⟨a, e, h⟩, x⟩ => ⟨⟨a, e, by rw [del_ne (fun z => by rw [z, hp] at h; cases h)]; exact h⟩, x.delp hp⟩
end Sg

set_option maxRecDepth 100000
set_option maxHeartbeats 8000000
namespace Sg
open PySem PySem.Spec PyProof.Rows L2 Dr Gd Er Cm LD CM XT RT EnT RZ IX TF
def spWArgs (K : PySem.W.Frag) (CN CP : Addr) (U : Str → Bool) : Sp := fun vs H Q _ => ∃ p st lt lh lp dk T ns nt, ∃ u v : Nat, vs = [.ref p, iV u, iV v] ∧ PrAt K CN CP U H p st lt lh lp dk T ns nt ∧ v < T.Ts.length ∧ (T.pl v).length ≤ 5000 ∧
  ∀ l us H', Same H H' → H l = none → H' l = some (.lst us) → RwR (L2.del H' l) us (T.rest u v) → Q (.ref l) H'
section
variable {P : Program} {w : World} {K : PySem.W.Frag} {mg : Str → Option Value} {base : Heap} {CN CP CA : Addr} {U : Str → Bool}
theorem scWA : FnScope ["self", "u", "v", "b"] ["self", "u", "v"] (defScope sWArgs) := ⟨rfl, rfl, rfl, by decide +kernel, rfl, by decide +kernel, by decide +kernel⟩
theorem rest_take {T : Tab} {u v i b : Nat} (h : (T.pl v)[i]? = some b) : ((T.pl v).take (i + 1)).map (fun b => (u, b)) = ((T.pl v).take i).map (fun b => (u, b)) ++ [(u, b)] := by
  rw [List.take_add_one, h, List.map_append]
  rfl
theorem ok_wargs {f : Addr} {fd : FuncData} (F : Fun K "with_arguments" "Pair.with_arguments" sWArgs f fd) (SN : NCl K CN) (SP : PCl K CP) : FnOk P w K mg base CX0 1 f fd ["self", "u", "v"] (spWArgs K CN CP U) := by
  refine F.ok scWA (fun vs H Q E h => ?_) (fun cdv A outer s H vs Q E hr h => ?_)
  · obtain ⟨p, st, lt, lh, lp, dk, T, ns, nt, u, v, rfl, _⟩ := h
    rfl
  · obtain ⟨p, st, lt, lh, lp, dk, T, ns, nt, u, v, rfl, hP, hv, v5, q⟩ := h
    have nd := scWA.nd
    refine ⟨_, pss_one (ps_ret (pe_lc (own := [("b", 3)]) (g := gName 3) (tt := tYes) (te := tTup (tCons (tVar 1) (tCons (tVar 3) tNil))) rfl nd
        (pi_tup (pe_ix ix_list (pe_fld (pe_fld (pv 0) rfl) rfl) (pv 2) fun _ _ => rfl)) (blkOk_by (N := ["self", "u", "v", "b"]) (sc := defScope sWArgs) (by decide +kernel)) (fun _ _ _ _ _ => pg_name (i := 3) nd rfl (Or.inl rfl)) (fun _ _ _ _ _ => pts_nil)
        (fun _ _ _ _ _ => pe_tup (pa_cons (pv 1) (pa_cons (pv 3) pa_nil))))), ?_⟩
    have big : (20000 : Nat) ≤ sizeLine := by decide
    obtain ⟨dp, dr, dl, h1, h2, h3⟩ := hP.i
    obtain ⟨v1, v2, v3, v4, v6⟩ := Tab.at_ hP.n.wf hv
    refine rd_pl hP.n SN (fun Q' q' => ⟨_, rfl, p, CP, dp, _, .ref st, rfl, h1, SP.cl, SP.n1, rfl, q'⟩) (fun Q' q' => rd_var rfl q') v2 fun ta hta => ?_
    refine ⟨ta, rfl, ⟨_, hta.sq⟩, fun D hD => ?_⟩
    refine lc_it (walk_tup (xs := (T.pl v).map iV)) (fun i H' => ∃ us, Same H H' ∧ H' D = some (.lst us) ∧ RwR (L2.del H' D) us (((T.pl v).take i).map fun b => (u, b))) ⟨[], same_upd hD, upd_same, trivial⟩ (fun i H' hi hp => by obtain ⟨_, sm, _⟩ := hp; exact seqT_same sm hta.sq) (fun i y Hq H' hi hp hy => ?_) (fun H' hp => ?_)
    · obtain ⟨us, sm, hDl, hR⟩ := hp
      obtain ⟨rfl, ey⟩ := hy
      obtain ⟨b, eb, rfl⟩ := iV_at ey
      refine ⟨rfl, lcYes ?_⟩
      refine ⟨_, rfl, _, rfl, (by show 2 ≤ sizeLine; decide), fun t ht => ?_⟩
      have st := same_upd (o := .tup [iV u, iV b]) ht
      have tD : t ≠ D := fun z => by rw [z, hDl] at ht; cases ht
      have lr := hR.len
      rw [List.length_map] at lr
      have := List.length_take_le' i (T.pl v)
      refine ⟨us, st _ _ hDl, Nat.lt_of_lt_of_le (show us.length < 20000 by omega) big, us ++ [.ref t], fun c o e => ?_, upd_same, ?_⟩
      · rw [upd_ne (ne_of_none e hD)]
        exact st _ _ (sm c o e)
      · rw [del_upd, rest_take eb]
        exact (hR.mono (SameX.del (Same.x st))).snoc (by rw [del_ne tD, upd_same])
    · obtain ⟨us, sm, hDl, hR⟩ := hp
      rw [List.length_map, List.take_length] at hR
      exact q D us H' sm hD hDl hR
/-- the where of a way -/
def WhR (H : Hp) : Way → V → Prop
  | .part0 i, v => v = iV i
  | .part1 i _, v => v = iV i
  | .left i _ _, v => v = iV i
  | .lots rows, v => ∃ l rs, v = .ref l ∧ H l = some (.lst rs) ∧ RwR (L2.del H l) rs rows
  | .sign, v => v = .non
  | .no, v => v = .non
theorem WhR.same {H H' : Hp} (s : Same H H') : ∀ {w : Way} {v : V}, WhR H w v → WhR H' w v
  | .part0 _, _, h => h
  | .part1 _ _, _, h => h
  | .left _ _ _, _, h => h
  | .lots _, _, ⟨l, rs, e, h, r⟩ => ⟨l, rs, e, s _ _ h, r.mono (SameX.del (Same.x s))⟩
  | .sign, _, h => h
  | .no, _, h => h
def spWay (K : PySem.W.Frag) (CN CP CA : Addr) (U : Str → Bool) : Sp := fun vs H Q _ => ∃ a p st lt lh lp dk lo T ns nt os, ∃ u v : Nat, vs = [.ref a, iV u, iV v] ∧ AbAt K CN CP CA U H a p st lt lh lp dk lo T ns nt os ∧ UV T os u v ∧
  ∀ t wv nl us H', Same H H' → H t = none → H nl = none → H' t = some (.tup [.str (T.way os u v).word, wv, .ref nl]) → WhR H' (T.way os u v) wv → H' nl = some (.lst us) → RwR H' us (T.need u v (T.way os u v)) → Q (.ref t) H'
structure WX2 (P : Program) (w : World) (K : PySem.W.Frag) (mg : Str → Option Value) (base : Heap) (CN CP : Addr) (U : Str → Bool) (fA : Addr) (dA : FuncData) : Prop where
  m : Meth K CP "with_arguments" fA
  o : FnOk P w K mg base CX0 1 fA dA ["self", "u", "v"] (spWArgs K CN CP U)
  b : Binds K dA ["self", "u", "v"] []
theorem flat_iV (ns : List Nat) : (ns.map iV).all flatV = true := by
  rw [List.all_map]
  exact List.all_eq_true.mpr fun _ _ => rfl
theorem inV_iV (v : Nat) (ns : List Nat) : inV (iV v) (ns.map iV) = decide (v ∈ ns) := by
  unfold inV
  rw [List.any_map]
  rw [Bool.eq_iff_iff, List.any_eq_true, decide_eq_true_eq]
  constructor
  · rintro ⟨x, hx, e⟩
    have e : ((x : Int) == (v : Int)) = true := e
    have : x = v := by have := eq_of_beq e; omega
    rw [← this]
    exact hx
  · intro h
    exact ⟨v, h, by show ((v : Int) == (v : Int)) = true; simp⟩
theorem idx_at : ∀ {ns : List Nat} {v : Nat}, v ∈ ns → ns[ns.idxOf v]? = some v ∧ ∀ m, m < ns.idxOf v → ∀ z, ns[m]? = some z → z ≠ v
  | [], v, h => by cases h
  | a :: ns, v, h => by
    by_cases e : a = v
    · subst e
      exact ⟨by simp, fun m hm => by simp at hm⟩
    · have h : v ∈ ns := by
        rcases List.mem_cons.mp h with z | z
        · exact absurd z.symm e
        · exact z
      obtain ⟨h1, h2⟩ := idx_at h
      have eb : (a == v) = false := by simpa using e
      have ei : (a :: ns).idxOf v = ns.idxOf v + 1 := by simp [List.idxOf_cons, eb]
      rw [ei]
      refine ⟨by simpa using h1, fun m hm z hz => ?_⟩
      cases m with
      | zero =>
        have : a = z := by simpa using hz
        rw [← this]
        exact e
      | succ m => exact h2 m (by omega) z (by simpa using hz)
theorem scWy2 : FnScope ["self", "u", "v", "places", "i", "a", "rest", "case", "rows", "j"] ["self", "u", "v"] (defScope sWay) := ⟨rfl, rfl, rfl, by decide +kernel, rfl, by decide +kernel, by decide +kernel⟩
end
end Sg

set_option maxRecDepth 100000
set_option maxHeartbeats 8000000
namespace Sg
open PySem PySem.Spec PyProof.Rows L2 Dr Gd Er Cm LD CM XT RT EnT RZ IX TF
theorem RwR.un {p : Addr} {H : Hp} {vs : List V} {rs : List (Nat × Nat)} (h : RwR (L2.del H p) vs rs) : RwR H vs rs := h.mono del_sub
theorem RwR.get {Z : Hp} : ∀ {vs : List V} {rs : List (Nat × Nat)} {i : Nat} {v : V}, RwR Z vs rs → vs[i]? = some v → ∃ r t, rs[i]? = some r ∧ v = .ref t ∧ Z t = some (.tup [iV r.1, iV r.2])
  | [], [], i, v, _, e => by simp at e
  | [], _ :: _, _, _, h, _ => h.elim
  | _ :: _, [], _, _, h, _ => h.elim
  | x :: vs, r :: rs, 0, v, ⟨⟨t, e1, h⟩, _⟩, e => by
    cases e
    exact ⟨r, t, rfl, e1, h⟩
  | x :: vs, r :: rs, i + 1, v, ⟨_, y⟩, e => y.get (i := i) e
section
variable {P : Program} {w : World} {K : PySem.W.Frag} {mg : Str → Option Value} {base : Heap} {CN CP CA : Addr} {U : Str → Bool} {fU fL fA fH fC fR fW : Addr} {dU dL dA dH dC dR dW : FuncData}
theorem ok_way {f : Addr} {fd : FuncData} (F : Fun K "_way" "Above._way" sWay f fd) (SN : NCl K CN) (S : ACl K CA) (X : NX P w K mg base CN U fU fL fA dU dL dA) (HM : HM P w K mg base CN CP CA U fH dH) (Y : PX P w K mg base CN CP U fC dC) (R : RM P w K mg base CN CP CA U fR dR) (WA : WX2 P w K mg base CN CP U fW dW) (he : mg "enumerate" = none) :
    FnOk P w K mg base CX0 3 f fd ["self", "u", "v"] (spWay K CN CP CA U) := by
  refine F.ok scWy2 (fun vs H Q E h => ?_) (fun cdv A outer s H vs Q E hr h => ?_)
  · obtain ⟨a, p, st, lt, lh, lp, dk, lo, T, ns, nt, os, u, v, rfl, _⟩ := h
    rfl
  · obtain ⟨a, p, st, lt, lh, lp, dk, lo, T, ns, nt, os, u, v, rfl, hA, G, q⟩ := h
    have nd := scWy2.nd
    have r1 : Room 1 (A.deeper (envOfC "Above._way" (defScope sWay) s.heap.objs.size f cdv)) := hr.mono (by decide)
    have r2 : Room 2 (A.deeper (envOfC "Above._way" (defScope sWay) s.heap.objs.size f cdv)) := hr.mono (by decide)
    refine ⟨_, pss_cons (ps_set (i := 3) nd rfl (Or.inl rfl) (pe_ix ix_list (pe_fld (pe_fld (pv 0) rfl) rfl) (pv 1) fun _ _ => rfl))
      (pss_cons (ps_if (pt_cmpR op_in_seq (pv 2) (pv 3) (by rfl)) (pss_one (ps_ret (pe_tup (pa_cons pe_str (pa_cons (pe_bmF PySem.F.plainAttrs_tuple PySem.F.slot_tuple_index PySem.F.type_tuple_index mt_indexT (pv 3) (pa_cons (pv 2) pa_nil)) (pa_cons (pe_lst pa_nil) pa_nil)))))) pss_nil)
      (pss_cons (ps_for PassesOwn.never rfl (pi_enumT (by rfl) he (pa_cons (pv 3) pa_nil)) (pg_tup rfl (pgs_cons (pg_name (i := 4) nd rfl (Or.inl rfl)) (pgs_cons (pg_name (i := 5) nd rfl (Or.inl rfl)) pgs_nil)))
        (pss_one (ps_if (pt_val (pe_meth (pv 0) S.cl HM.m HM.o r1 HM.b .nil pass0 (pa_cons (pv 5) (pa_cons (pv 2) pa_nil)))) (pss_one (ps_ret (pe_tup (pa_cons pe_str (pa_cons (pv 4) (pa_cons (pe_lst (pa_cons (pe_tup (pa_cons (pv 5) (pa_cons (pv 2) pa_nil))) pa_nil)) pa_nil)))))) pss_nil)))
      (pss_cons (ps_set (i := 6) nd rfl (Or.inl rfl) (pe_meth (pe_fld (pv 0) rfl) Y.c.cl WA.m WA.o r1 WA.b .nil pass0 (pa_cons (pv 1) (pa_cons (pv 2) pa_nil))))
      (pss_cons (ps_set (i := 7) nd rfl (Or.inl rfl) (pe_meth (pe_fld (pv 0) rfl) Y.c.cl Y.m Y.o r1 Y.b .nil pass0 (pa_cons (pv 1) (pa_cons (pv 2) pa_nil))))
      (pss_cons (ps_if (pt_cmpR op_eq (pv 7) pe_str (nomark _))
        (pss_cons (ps_set (i := 4) nd rfl (Or.inl rfl) (pe_meth (pe_fld (pv 0) rfl) SN.cl X.um X.uo r1 X.ub .nil pass0 (pa_cons (pv 1) (pa_cons (pv 2) pa_nil))))
        (pss_one (ps_ret (pe_tup (pa_cons (pv 7) (pa_cons (pv 4) (pa_cons (pe_op op_cat (pe_lst (pa_cons (pe_meth (pe_fld (pv 0) rfl) SN.cl X.am X.ao r1 X.ab .nil pass0 (pa_cons (pv 1) (pa_cons (pv 4) (pa_cons (pv 2) (pa_cons (pv 4) pa_nil))))) pa_nil)) (pv 6)) pa_nil))))))) pss_nil)
      (pss_cons (ps_if (pt_cmpR op_eq (pv 7) pe_str (nomark _))
        (pss_cons (ps_set (i := 8) nd rfl (Or.inl rfl) (pe_meth (pv 0) S.cl R.m R.o r2 R.b .nil pass0 (pa_cons (pv 1) (pa_cons (pv 2) pa_nil))))
        (pss_one (ps_ret (pe_tup (pa_cons (pv 7) (pa_cons (pv 8) (pa_cons (pe_op op_cat
          (pe_lc (own := [("j", 9), ("i", 4)]) (g := gTup K 2 (gCons (gName 9) (gCons (gName 4) gNil))) (tt := tYes) (te := tMeth CN "at" (spNAt K CN U) [] E0 (tFld K (tVar 0) "store") (tCons (tVar 1) (tCons (tVar 4) (tCons (tVar 2) (tCons (tVar 9) tNil))))) rfl nd
            (pi_list (pv 8)) (blkOk_by (N := ["self", "u", "v", "places", "i", "a", "rest", "case", "rows", "j"]) (sc := defScope sWay) (by decide +kernel))
            (fun _ _ _ _ _ => pg_tup rfl (pgs_cons (pg_name (i := 9) nd rfl (Or.inl rfl)) (pgs_cons (pg_name (i := 4) nd rfl (Or.inl rfl)) pgs_nil))) (fun _ _ _ _ _ => pts_nil)
            (fun _ _ _ _ _ => pe_meth (pe_fld (pv 0) rfl) SN.cl X.am X.ao r1 X.ab .nil pass0 (pa_cons (pv 1) (pa_cons (pv 4) (pa_cons (pv 2) (pa_cons (pv 9) pa_nil))))))
          (pv 6)) pa_nil))))))) pss_nil)
      (pss_one (ps_ret (pe_tup (pa_cons (pv 7) (pa_cons pe_non (pa_cons (pv 6) pa_nil)))))))))))), ?_⟩
    have big : (20000 : Nat) ≤ sizeLine := by decide
    have hN := hA.p.n
    obtain ⟨u1, u2, u3, u4, u6⟩ := Tab.at_ hN.wf G.hu
    obtain ⟨v1, v2, v3, v4, v6⟩ := Tab.at_ hN.wf G.hv
    obtain ⟨da, lc, dw, x1, x2, x3, x4⟩ := hA.i
    refine rd_pl hN SN (fun Q' q' => rd_st hA S (by rfl) q') (fun Q' q' => rd_var rfl q') u2 fun ta hta => ?_
    refine ⟨_, rfl, _, rfl, ta, _, rfl, .inr hta.sq, rfl, flat_iV _, decide (v ∈ T.pl u), congrArg V.bl (inV_iV v (T.pl u)), ?_⟩
    have eW : T.way os u v = if v ∈ T.pl u then .part0 ((T.pl u).idxOf v) else match firstP (fun a => Tab.hb os a v) (T.pl u) 0 with
      | some (i, a) => .part1 i a
      | none => match T.cas u v with
        | .left => .left (fuI (· == ·) (T.pl u) (T.pl v)) ((T.pl u).getD (fuI (· == ·) (T.pl u) (T.pl v)) 0) ((T.pl v).getD (fuI (· == ·) (T.pl u) (T.pl v)) 0)
        | .lots => .lots (rowsC (· == ·) (Tab.hb os) (T.pl u) (T.pl v))
        | .sign => .sign
        | .no => .no := rfl
    by_cases hin : v ∈ T.pl u
    · rw [if_pos hin] at eW
      rw [eW] at q
      rw [decide_eq_true hin]
      refine iteT ?_
      obtain ⟨i1, i2⟩ := idx_at hin
      refine ⟨_, rfl, ⟨ta, _, rfl, hta⟩, _, rfl, ta, (T.pl u).map iV, iV v, (T.pl u).idxOf v, rfl, rfl, hta.sq, rfl, flat_iV _, ⟨⟨_, map_at i1, (by show ((v : Int) == (v : Int)) = true; simp)⟩, fun m z' hm hz => ?_⟩, ?_⟩
      · obtain ⟨n, en, rfl⟩ := iV_at hz
        have := i2 m hm n en
        show ((n : Int) == (v : Int)) = false
        have : ¬ (n : Int) = (v : Int) := fun e => this (by omega)
        simpa using this
      refine ⟨Nat.zero_le _, fun nl hnl => ⟨(by show 3 ≤ sizeLine; decide), fun t ht => ?_⟩⟩
      have s1 := same_upd (o := .lst []) hnl
      have s2 := same_upd (o := .tup [.str "part", iV ((T.pl u).idxOf v), .ref nl]) ht
      exact q t (iV ((T.pl u).idxOf v)) nl [] _ (Same.trans s1 s2) (Same.free s1 ht) hnl upd_same rfl (s2 _ _ upd_same) trivial
    · rw [if_neg hin] at eW
      rw [decide_eq_false hin]
      refine iteF ?_
      refine ⟨_, rfl, ta, _, rfl, hta.sq, ?_⟩
      refine for_it (walk_enumT (xs := (T.pl u).map iV)) (fun i σ H' => ∃ c4 c5, σ = [some (.ref a), some (iV u), some (iV v), some (.ref ta), c4, c5, none, none, none, none] ∧ Same H H' ∧ firstP (fun a => Tab.hb os a v) (T.pl u) 0 = firstP (fun a => Tab.hb os a v) ((T.pl u).drop i) i) ⟨none, none, rfl, Same.refl _, by rw [List.drop_zero]⟩ (fun i σ H' hi hp => by obtain ⟨_, _, _, sm, _⟩ := hp; exact seqT_same sm hta.sq) (fun i y σ H1 H3 hi hp hy => ?_) (fun σ H' hp => ?_)
      · obtain ⟨c4, c5, rfl, sm, hF⟩ := hp
        obtain ⟨t, n1, z1, rfl, hT, rfl, e1, e2⟩ := hy
        cases e1
        obtain ⟨b, eb, rfl⟩ := iV_at e2
        have sT := same_upd (o := .tup [V.int (i : Nat), iV b]) hT
        have eT : (L2.upd H1 t (.tup [V.int (i : Nat), iV b])) t = some (.tup [V.int (i : Nat), iV b]) := upd_same
        have sm1 := Same.trans sm sT
        generalize (L2.upd H1 t (.tup [V.int (i : Nat), iV b])) = H2' at sT eT sm1 ⊢
        refine ⟨t, _, rfl, SqT.of eT, rfl, ?_⟩
        refine ⟨_, _, rfl, _, _, rfl, rfl, ?_⟩
        have hA1 := hA.same sm1
        obtain ⟨da1, lc1, dw1, y1, _⟩ := hA1.i
        have edr : (T.pl u).drop i = b :: (T.pl u).drop (i + 1) := by
          obtain ⟨h, e⟩ := List.getElem?_eq_some_iff.mp eb
          rw [List.drop_eq_getElem_cons h, e]
        rw [edr, firstP] at hF
        refine ⟨_, rfl, a, da1, _, rfl, y1, rfl, _, rfl, _, rfl, ?_⟩
        refine ⟨a, p, st, lt, lh, lp, dk, lo, T, ns, nt, os, b, v, rfl, hA1, G.lo b (List.mem_of_getElem? eb), ?_⟩
        refine ⟨_, rfl, ?_⟩
        by_cases hb : Tab.hb os b v = true
        · rw [if_pos hb] at hF
          rw [hF] at eW
          rw [eW] at q
          rw [hb]
          refine iteT ?_
          refine ⟨_, rfl, _, rfl, _, rfl, (by show 2 ≤ sizeLine; decide), fun t2 ht2 => ⟨(by show 1 ≤ sizeLine; decide), fun nl hnl => ⟨(by show 3 ≤ sizeLine; decide), fun t3 ht3 => ?_⟩⟩⟩
          have s2 := same_upd (o := .tup [iV b, iV v]) ht2
          have e2 : (L2.upd H2' t2 (.tup [iV b, iV v])) t2 = some (.tup [iV b, iV v]) := upd_same
          have s3 := same_upd (o := .lst [.ref t2]) hnl
          have e3 : (L2.upd (L2.upd H2' t2 (.tup [iV b, iV v])) nl (.lst [.ref t2])) nl = some (.lst [.ref t2]) := upd_same
          have s4 := same_upd (o := .tup [.str "part", iV i, .ref nl]) ht3
          have s12 := Same.trans sm1 s2
          have s13 := Same.trans s12 s3
          exact q t3 (iV i) nl [.ref t2] _ (Same.trans s13 s4) (Same.free s13 ht3) (Same.free s12 hnl) upd_same rfl (s4 _ _ e3) ⟨⟨t2, rfl, s4 _ _ (s3 _ _ e2)⟩, trivial⟩
        · rw [if_neg hb] at hF
          have hb : Tab.hb os b v = false := by simpa using hb
          rw [hb]
          exact iteF ⟨_, _, rfl, sm1, hF⟩
      · obtain ⟨c4, c5, rfl, sm, hF⟩ := hp
        rw [List.length_map, List.drop_length] at hF
        have hF : firstP (fun a => Tab.hb os a v) (T.pl u) 0 = none := hF
        rw [hF] at eW
        have hA1 := hA.same sm
        obtain ⟨da1, lc1, dw1, y1, _⟩ := hA1.i
        obtain ⟨dp1, dr1, dl1, p1, _⟩ := hA1.p.i
        refine ⟨_, rfl, a, CA, da1, _, .ref p, rfl, y1, S.cl, S.n1, rfl, p, dp1, _, rfl, p1, rfl, _, rfl, _, rfl, ?_⟩
        refine ⟨p, st, lt, lh, lp, dk, T, ns, nt, u, v, rfl, hA1.p, G.hv, G.lv, fun lr us H2 s2 hlr elr hR => ?_⟩
        have sm2 := Same.trans sm s2
        have hA2 := hA1.same s2
        obtain ⟨da2, lc2, dw2, z1, _⟩ := hA2.i
        obtain ⟨dp2, dr2, dl2, p2, _⟩ := hA2.p.i
        have lrl := hR.len
        have lrest : (T.rest u v).length = (T.pl v).length := List.length_map ..
        have gv := G.lv
        refine ⟨_, rfl, a, CA, da2, _, .ref p, rfl, z1, S.cl, S.n1, rfl, p, dp2, _, rfl, p2, rfl, _, rfl, _, rfl, ?_⟩
        refine ⟨p, st, lt, lh, lp, dk, T, ns, nt, u, v, rfl, hA2.p, G.hu, G.hv, G.ru, G.rv, ?_⟩
        refine ⟨_, rfl, rfl, _, rfl, ?_⟩
        have hN2 := hA2.p.n
        obtain ⟨dx2, hx2⟩ := hN2.i
        have ga := G.ar
        cases ec : T.cas u v with
        | left =>
          rw [ec] at eW ga
          rw [eW] at q
          have ga := ga rfl
          obtain ⟨x, y, ex, ey⟩ := fuI_at ga
          refine iteT ?_
          refine ⟨_, rfl, a, CA, da2, _, .ref st, rfl, z1, S.cl, S.n2, rfl, st, dx2, _, rfl, hx2, rfl, _, rfl, _, rfl, ?_⟩
          refine ⟨st, lt, lh, lp, dk, T.Ts, T.Ns, T.pl u, T.pl v, u, v, rfl, hN2, u2, v2, G.lu, ga, fun H3 s3 => ?_⟩
          have hA3 := hA2.same s3
          have hN3 := hA3.p.n
          obtain ⟨da3, lc3, dw3, w1, _⟩ := hA3.i
          obtain ⟨dx3, hx3⟩ := hN3.i
          refine ⟨_, rfl, _, rfl, _, rfl, a, CA, da3, _, .ref st, rfl, w1, S.cl, S.n2, rfl, st, dx3, _, rfl, hx3, rfl, _, rfl, _, rfl, _, rfl, _, rfl, ?_⟩
          refine ⟨st, lt, lh, lp, dk, T.Ts, T.Ns, T.pl u, T.pl v, u, v, _, _, x, y, rfl, hN3, u2, v2, ex, ey, fun t4 H4 s4 ht4 et4 => ?_⟩
          refine ⟨(by show 1 ≤ sizeLine; decide), fun l5 hl5 => ?_⟩
          have s5 := same_upd (o := .lst [.ref t4]) hl5
          have e5 : (L2.upd H4 l5 (.lst [.ref t4])) l5 = some (.lst [.ref t4]) := upd_same
          have elr5 := s5 _ _ (s4 _ _ (s3 _ _ elr))
          have et5 := s5 _ _ et4
          have sm5 := Same.trans sm2 (Same.trans s3 (Same.trans s4 s5))
          have hR5 := hR.un.mono (Same.trans s3 (Same.trans s4 s5))
          generalize (L2.upd H4 l5 (.lst [.ref t4])) = H5 at s5 e5 elr5 et5 sm5 hR5 ⊢
          refine ⟨_, rfl, l5, lr, _, us, rfl, rfl, e5, elr5, Nat.le_trans (show 1 + us.length ≤ 20000 by omega) big, fun nl hnl => ⟨(by show 3 ≤ sizeLine; decide), fun t ht => ?_⟩⟩
          have s6 := same_upd (o := .lst ([.ref t4] ++ us)) hnl
          have s7 := same_upd (o := .tup [.str "left", iV (fuI (· == ·) (T.pl u) (T.pl v)), .ref nl]) ht
          have sm6 := Same.trans sm5 s6
          have ex' : (T.pl u).getD (fuI (· == ·) (T.pl u) (T.pl v)) 0 = x := by rw [List.getD_eq_getElem?_getD, ex]; rfl
          have ey' : (T.pl v).getD (fuI (· == ·) (T.pl u) (T.pl v)) 0 = y := by rw [List.getD_eq_getElem?_getD, ey]; rfl
          refine q t (iV (fuI (· == ·) (T.pl u) (T.pl v))) nl _ _ (Same.trans sm6 s7) (Same.free sm6 ht) (Same.free sm5 hnl) upd_same rfl (s7 _ _ upd_same) ?_
          show RwR _ (V.ref t4 :: us) ((_, _) :: T.rest u v)
          rw [ex', ey']
          exact ⟨⟨t4, rfl, s7 _ _ (s6 _ _ et5)⟩, hR5.mono (Same.trans s6 s7)⟩
        | lots =>
          rw [ec] at eW
          rw [eW] at q
          refine iteF ?_
          refine ⟨_, rfl, rfl, _, rfl, ?_⟩
          refine iteT ?_
          refine ⟨_, rfl, a, da2, _, rfl, z1, rfl, _, rfl, _, rfl, ?_⟩
          refine ⟨a, p, st, lt, lh, lp, dk, lo, T, ns, nt, os, u, v, rfl, hA2, G.hu, G.hv, G.lo, G.lu, G.lv, fun l rs H3 s3 hl el hRr => ?_⟩
          have hRr' := hRr.un
          have lrs := hRr.len
          have hall : ∀ r ∈ rowsC (· == ·) (Tab.hb os) (T.pl u) (T.pl v), at2 (Tab.hb os) (T.pl u) (T.pl v) r.2 r.1 = true := fun r hr => Tab.rowsG_all (fun r h => by cases h) r hr
          have lrow : (rowsC (· == ·) (Tab.hb os) (T.pl u) (T.pl v)).length ≤ 5000 := by
            rcases rowsG_fst (hb := Tab.hb os) (us := T.pl u) (vs := T.pl v) (kept := (leftO (· == ·) (T.pl u) (T.pl v)).1) (leftO (· == ·) (T.pl u) (T.pl v)).2 [] with h | h
            · have e := congrArg List.length (show (rowsC (· == ·) (Tab.hb os) (T.pl u) (T.pl v)).map (·.1) = (leftO (· == ·) (T.pl u) (T.pl v)).2 from h)
              rw [List.length_map] at e
              have := (leftO_len (· == ·) (T.pl u) (T.pl v)).2
              omega
            · rw [show rowsC (· == ·) (Tab.hb os) (T.pl u) (T.pl v) = [] from h]
              exact Nat.zero_le _
          generalize hrows : rowsC (· == ·) (Tab.hb os) (T.pl u) (T.pl v) = rows at q hRr hRr' lrs hall lrow
          have hA3 := hA2.same s3
          have sm3 := Same.trans sm2 s3
          have hR3 := hR.un.mono s3
          have elr3 := s3 _ _ elr
          refine ⟨_, rfl, _, rfl, _, rfl, l, rfl, ⟨_, SqL.of el⟩, fun D hD => ?_⟩
          refine lc_it (walk_list (xs := rs)) (fun i H' => ∃ ks, Same H3 H' ∧ H' D = some (.lst ks) ∧ RwR (L2.del H' D) ks ((rows.take i).map (T.rowN u v))) ⟨[], same_upd hD, upd_same, trivial⟩ (fun i H' hi hp => by obtain ⟨_, sd, _⟩ := hp; exact SqL.of (sd _ _ el)) (fun i y Hq H' hi hp hy => ?_) (fun H5 hp => ?_)
          · obtain ⟨ks, sd, hDl, hK⟩ := hp
            obtain ⟨rfl, ey⟩ := hy
            obtain ⟨r, tr, er, rfl, etr⟩ := hRr'.get ey
            obtain ⟨g1, g2, g3⟩ := Tab.at2_get (hall r (List.mem_of_getElem? er))
            have hA4 := hA3.same sd
            have hN4 := hA4.p.n
            obtain ⟨da4, lc4, dw4, w1, _⟩ := hA4.i
            obtain ⟨dx4, hx4⟩ := hN4.i
            refine ⟨tr, _, rfl, SqT.of (sd _ _ etr), rfl, ?_⟩
            refine ⟨_, _, rfl, _, _, rfl, rfl, ?_⟩
            refine ⟨rfl, lcYes ?_⟩
            refine ⟨_, rfl, a, CA, da4, _, .ref st, rfl, w1, S.cl, S.n2, rfl, st, dx4, _, rfl, hx4, rfl, _, rfl, _, rfl, _, rfl, _, rfl, ?_⟩
            refine ⟨st, lt, lh, lp, dk, T.Ts, T.Ns, T.pl u, T.pl v, u, v, r.2, r.1, _, _, rfl, hN4, u2, v2, g1, g2, fun t6 H6 s6 ht6 et6 => ?_⟩
            have lk := hK.len
            rw [List.length_map] at lk
            have := List.length_take_le' i rows
            have tD : t6 ≠ D := fun z => by rw [z, hDl] at ht6; cases ht6
            refine ⟨ks, s6 _ _ hDl, Nat.lt_of_lt_of_le (show ks.length < 20000 by omega) big, ks ++ [.ref t6], fun c o e => ?_, upd_same, ?_⟩
            · rw [upd_ne (ne_of_none e hD)]
              exact s6 _ _ (sd c o e)
            · rw [del_upd, List.take_add_one, er, List.map_append]
              exact (hK.mono (SameX.del (Same.x s6))).snoc (by rw [del_ne tD]; exact et6)
          · obtain ⟨ks, sd, hDl, hK⟩ := hp
            rw [lrs, List.take_length] at hK
            have lk := hK.len
            rw [List.length_map] at lk
            have sm5 := Same.trans sm3 sd
            have elr5 := sd _ _ elr3
            refine ⟨_, rfl, D, lr, ks, us, rfl, rfl, hDl, elr5, Nat.le_trans (show ks.length + us.length ≤ 20000 by omega) big, fun nl hnl => ⟨(by show 3 ≤ sizeLine; decide), fun t ht => ?_⟩⟩
            have s6 := same_upd (o := .lst (ks ++ us)) hnl
            have s7 := same_upd (o := .tup [.str "lots", .ref l, .ref nl]) ht
            have sm6 := Same.trans sm5 s6
            have s57 := Same.trans s6 s7
            refine q t (.ref l) nl _ _ (Same.trans sm6 s7) (Same.free sm6 ht) (Same.free sm5 hnl) upd_same ?_ (s7 _ _ upd_same) ?_
            · have s37 := Same.trans sd s57
              exact ⟨l, rs, rfl, s37 _ _ el, hRr.mono (SameX.del (Same.x s37))⟩
            · exact (hK.un.mono s57).app (hR3.mono (Same.trans sd s57))
        | sign =>
          rw [ec] at eW
          rw [eW] at q
          refine iteF ?_
          refine ⟨_, rfl, rfl, _, rfl, ?_⟩
          refine iteF ?_
          refine ⟨_, rfl, _, rfl, (by show 3 ≤ sizeLine; decide), fun t ht => ?_⟩
          have s7 := same_upd (o := .tup [.str "sign", .non, .ref lr]) ht
          exact q t .non lr us _ (Same.trans sm2 s7) (Same.free sm2 ht) (Same.free sm hlr) upd_same rfl (s7 _ _ elr) (hR.un.mono s7)
        | no =>
          rw [ec] at eW
          rw [eW] at q
          refine iteF ?_
          refine ⟨_, rfl, rfl, _, rfl, ?_⟩
          refine iteF ?_
          refine ⟨_, rfl, _, rfl, (by show 3 ≤ sizeLine; decide), fun t ht => ?_⟩
          have s7 := same_upd (o := .tup [.str "none", .non, .ref lr]) ht
          exact q t .non lr us _ (Same.trans sm2 s7) (Same.free sm2 ht) (Same.free sm hlr) upd_same rfl (s7 _ _ elr) (hR.un.mono s7)
end
end Sg

set_option maxRecDepth 100000
set_option maxHeartbeats 8000000
namespace Sg
open PySem PySem.Spec PyProof.Rows L2 Dr Gd Er Cm LD CM XT RT EnT RZ IX TF
theorem atI_one {α : Type} (a b : α) (l : List α) : atI (a :: b :: l) 1 = some b := atI_nat (xs := a :: b :: l) (j := 1) rfl
theorem atI_two {α : Type} (a b c : α) (l : List α) : atI (a :: b :: c :: l) 2 = some c := atI_nat (xs := a :: b :: c :: l) (j := 2) rfl
def spNeeded (K : PySem.W.Frag) (CN CP CA : Addr) (U : Str → Bool) : Sp := fun vs H Q _ => ∃ a p st lt lh lp dk lo T ns nt os n, ∃ u v : Nat, vs = [.ref a, .ref n] ∧ SqT K H n [iV u, iV v] ∧ AbAt K CN CP CA U H a p st lt lh lp dk lo T ns nt os ∧ UV T os u v ∧
  ∀ nl us H', Same H H' → H nl = none → H' nl = some (.lst us) → RwR H' us (T.need u v (T.way os u v)) → Q (.ref nl) H'
def spMade_ (K : PySem.W.Frag) (CN CP CA : Addr) (U : Str → Bool) : Sp := fun vs H Q _ => ∃ a p st lt lh lp dk lo T ns nt os n l us ds S, ∃ u v : Nat, vs = [.ref a, .ref n, .ref l] ∧ SqT K H n [iV u, iV v] ∧ AbAt K CN CP CA U H a p st lt lh lp dk lo T ns nt os ∧ UV T os u v ∧
  (∀ b ∈ S, ∃ xs, H b = some (.lst xs)) ∧ l ∉ S ∧ H l = some (.lst us) ∧ DpAll K (delS S H) us ds ∧ ds.length = (T.need u v (T.way os u v)).length ∧ ds.length ≤ 10000 ∧
  ∀ r H', Same H H' → Dp K (delS S H') r (madeD (T.way os u v) ds) → Q r H'
structure WM (P : Program) (w : World) (K : PySem.W.Frag) (mg : Str → Option Value) (base : Heap) (CN CP CA : Addr) (U : Str → Bool) (fW : Addr) (dW : FuncData) : Prop where
  m : Meth K CA "_way" fW
  o : FnOk P w K mg base CX0 3 fW dW ["self", "u", "v"] (spWay K CN CP CA U)
  b : Binds K dW ["self", "u", "v"] []
theorem rowsD_take : ∀ {rows : List (Nat × Nat)} {ds : List PyData} {i : Nat} {r : Nat × Nat} {d : PyData}, rows[i]? = some r → ds[i]? = some d → rowsD (rows.take (i + 1)) ds = rowsD (rows.take i) ds ++ [.tuple [nI r.1, nI r.2, d]]
  | [], _, i, _, _, h, _ => by simp at h
  | _ :: _, [], i, _, _, _, h => by simp at h
  | (j, k) :: rows, d0 :: ds, 0, r, d, h, g => by
    cases h
    cases g
    simp [rowsD]
  | (j, k) :: rows, d0 :: ds, i + 1, r, d, h, g => by
    show PyData.tuple _ :: rowsD (rows.take (i + 1)) ds = PyData.tuple _ :: (rowsD (rows.take i) ds ++ _)
    rw [rowsD_take (rows := rows) (ds := ds) h g]
section
variable {P : Program} {w : World} {K : PySem.W.Frag} {mg : Str → Option Value} {base : Heap} {CN CP CA : Addr} {U : Str → Bool} {fW : Addr} {dW : FuncData}
theorem scNd : FnScope ["self", "node"] ["self", "node"] (defScope sNeeded) := ⟨rfl, rfl, rfl, by decide +kernel, rfl, by decide +kernel, by decide +kernel⟩
theorem ok_needed {f : Addr} {fd : FuncData} (F : Fun K "_needed" "Above._needed" sNeeded f fd) (S : ACl K CA) (W : WM P w K mg base CN CP CA U fW dW) : FnOk P w K mg base CX0 4 f fd ["self", "node"] (spNeeded K CN CP CA U) := by
  refine F.ok scNd (fun vs H Q E h => ?_) (fun cdv A outer s H vs Q E hr h => ?_)
  · obtain ⟨a, p, st, lt, lh, lp, dk, lo, T, ns, nt, os, n, u, v, rfl, _⟩ := h
    rfl
  · obtain ⟨a, p, st, lt, lh, lp, dk, lo, T, ns, nt, os, n, u, v, rfl, hn, hA, G, q⟩ := h
    refine ⟨_, pss_one (ps_ret (pe_ix ix_tup (pe_meth (pv 0) S.cl W.m W.o hr W.b .nil pass0 (pa_cons (pe_ix ix_tup (pv 1) pe_int fun _ _ => rfl) (pa_cons (pe_ix ix_tup (pv 1) pe_int fun _ _ => rfl) pa_nil))) pe_int fun _ _ => rfl)), ?_⟩
    obtain ⟨da, lc, dw, x1, _⟩ := hA.i
    refine ⟨_, rfl, a, da, _, rfl, x1, rfl, _, rfl, n, _, 0, iV u, rfl, rfl, hn, atI_zero _ _, _, rfl, n, _, 1, iV v, rfl, rfl, hn, atI_one _ _ _, ?_⟩
    refine ⟨a, p, st, lt, lh, lp, dk, lo, T, ns, nt, os, u, v, rfl, hA, G, fun t wv nl us H1 s1 ht hnl et hw en hR => ?_⟩
    exact ⟨t, _, 2, .ref nl, rfl, rfl, SqT.of et, atI_two _ _ _ _, q nl us H1 s1 hnl en hR⟩
theorem scMd : FnScope ["self", "node", "told", "word", "where", "needed", "rows", "k", "j", "i"] ["self", "node", "told"] (defScope sMade_) := ⟨rfl, rfl, rfl, by decide +kernel, rfl, by decide +kernel, by decide +kernel⟩
theorem ok_made_ {f : Addr} {fd : FuncData} (F : Fun K "_made" "Above._made" sMade_ f fd) (S : ACl K CA) (W : WM P w K mg base CN CP CA U fW dW) (he : mg "enumerate" = none) (hln : mg "len" = none) : FnOk P w K mg base CX0 4 f fd ["self", "node", "told"] (spMade_ K CN CP CA U) := by
  refine F.ok scMd (fun vs H Q E h => ?_) (fun cdv A outer s H vs Q E hr h => ?_)
  · obtain ⟨a, p, st, lt, lh, lp, dk, lo, T, ns, nt, os, n, l, us, ds, S0, u, v, rfl, _⟩ := h
    rfl
  · obtain ⟨a, p, st, lt, lh, lp, dk, lo, T, ns, nt, os, n, l, us, ds, S0, u, v, rfl, hn, hA, G, hS, hlS, hl, hus, hlen, h10, q⟩ := h
    have nd := scMd.nd
    refine ⟨_, pss_cons (ps_asg (pe_meth (pv 0) S.cl W.m W.o hr W.b .nil pass0 (pa_cons (pe_ix ix_tup (pv 1) pe_int fun _ _ => rfl) (pa_cons (pe_ix ix_tup (pv 1) pe_int fun _ _ => rfl) pa_nil))) (pg_tup rfl (pgs_cons (pg_name (i := 3) nd rfl (Or.inl rfl)) (pgs_cons (pg_name (i := 4) nd rfl (Or.inl rfl)) (pgs_cons (pg_name (i := 5) nd rfl (Or.inl rfl)) pgs_nil)))))
      (pss_cons (ps_if (pt_cmpR op_eq (pv 3) pe_str (nomark _)) (pss_one (ps_ret (pe_tup (pa_cons (pv 3) (pa_cons (pv 4) (pa_cons (pe_ifExp (pt_truth (pv 5) (by intro _; rfl)) (pe_ix ix_list (pv 2) pe_int fun _ _ => rfl) pe_non) pa_nil)))))) pss_nil)
      (pss_cons (ps_if (pt_cmpR op_eq (pv 3) pe_str (nomark _)) (pss_one (ps_ret (pe_tup (pa_cons (pv 3) (pa_cons (pv 4) (pa_cons (pe_ix ix_list (pv 2) pe_int fun _ _ => rfl) (pa_cons (pe_slice sl_list (pv 2) (po_some pe_int) po_none) pa_nil))))))) pss_nil)
      (pss_cons (ps_if (pt_cmpR op_eq (pv 3) pe_str (nomark _))
        (pss_cons (ps_setLc (i := 6) (own := [("k", 7), ("j", 8), ("i", 9)]) (g := gTup K 2 (gCons (gName 7) (gCons (gTup K 2 (gCons (gName 8) (gCons (gName 9) gNil))) gNil))) (tt := tYes) (te := tTup (tCons (tVar 8) (tCons (tVar 9) (tCons (tOp (rIxL K) (tVar 2) (tVar 7)) tNil)))) (by rfl) nd rfl rfl (sw_true rfl rfl rfl (by decide +kernel))
            (pi_enum (by rfl) he (pa_cons (pv 4) pa_nil)) (blkOk_by (N := ["self", "node", "told", "word", "where", "needed", "rows", "k", "j", "i"]) (sc := defScope sMade_) (by decide +kernel))
            (fun _ _ _ _ _ => pg_tup rfl (pgs_cons (pg_name (i := 7) nd rfl (Or.inl rfl)) (pgs_cons (pg_tup rfl (pgs_cons (pg_name (i := 8) nd rfl (Or.inl rfl)) (pgs_cons (pg_name (i := 9) nd rfl (Or.inl rfl)) pgs_nil))) pgs_nil))) (fun _ _ _ _ _ => pts_nil)
            (fun _ _ _ _ _ => pe_tup (pa_cons (pv 8) (pa_cons (pv 9) (pa_cons (pe_ix ix_list (pv 2) (pv 7) fun _ _ => rfl) pa_nil)))))
        (pss_one (ps_ret (pe_tup (pa_cons (pv 3) (pa_cons (pv 6) (pa_cons (pe_slice sl_list (pv 2) (po_some (pe_callB call_len_seq (by rfl) hln PySem.boot_len (pa_cons (pv 6) pa_nil))) po_none) pa_nil))))))) pss_nil)
      (pss_one (ps_ret (pe_tup (pa_cons (pv 3) (pa_cons (pv 2) pa_nil)))))))), ?_⟩
    have big : (20000 : Nat) ≤ sizeLine := by decide
    obtain ⟨da, lc, dw, x1, _⟩ := hA.i
    refine ⟨_, rfl, a, da, _, rfl, x1, rfl, _, rfl, n, _, 0, iV u, rfl, rfl, hn, atI_zero _ _, _, rfl, n, _, 1, iV v, rfl, rfl, hn, atI_one _ _ _, ?_⟩
    refine ⟨a, p, st, lt, lh, lp, dk, lo, T, ns, nt, os, u, v, rfl, hA, G, fun t wv nl nus H1 s1 ht hnl et hw en hR => ?_⟩
    refine ⟨t, _, rfl, SqT.of et, rfl, ?_⟩
    refine ⟨_, _, rfl, _, _, rfl, _, _, rfl, rfl, ?_⟩
    have hl1 := s1 _ _ hl
    have hus1 := dpAll_same (delS_same (S := S0) s1) _ _ hus
    have lus := dpAll_len hus
    have out : ∀ {H' : Hp} {p : Addr}, Same H H' → H' p = none → p ∉ S0 := fun {H' p} sm hp hm => by
      obtain ⟨xs, e⟩ := hS p hm
      rw [sm _ _ e] at hp
      cases hp
    have lR := hR.len
    have fin : ∀ {H' : Hp} {t2 : Addr} {vs2 : List V} {es : List PyData}, Same H H' → H' t2 = none → DpAll K (delS S0 H') vs2 es → Dp K (delS S0 (L2.upd H' t2 (.tup vs2))) (.ref t2) (.tuple es) := fun {H' t2 vs2 es} sm hn hd =>
      .tup (SqT.of (by rw [delS_of (out sm hn), upd_same])) (dpAll_same (delS_same (same_upd hn)) _ _ hd)
    generalize hW : T.way os u v = W' at *
    cases W' with
    | part0 i =>
      cases nus with
      | cons _ _ => cases lR
      | nil =>
        have hw : wv = iV i := hw
        subst hw
        refine ⟨_, rfl, rfl, _, rfl, ?_⟩
        refine iteT ?_
        refine ⟨_, rfl, _, rfl, _, rfl, false, .inl ⟨_, SqL.of en, rfl⟩, ?_⟩
        refine iteF ⟨(by show 3 ≤ sizeLine; decide), fun t2 ht2 => ?_⟩
        exact q _ _ (Same.trans s1 (same_upd ht2)) (fin s1 ht2 (.cons (.str _) (.cons (.int _) (.cons .non .nil))))
    | part1 i b =>
      cases nus with
      | nil => cases lR
      | cons x1' nus =>
        have hw : wv = iV i := hw
        subst hw
        cases hus1 with
        | nil => cases hlen
        | cons d1 d2 =>
          rename_i y ys d ds
          refine ⟨_, rfl, rfl, _, rfl, ?_⟩
          refine iteT ?_
          refine ⟨_, rfl, _, rfl, _, rfl, true, .inl ⟨_, SqL.of en, rfl⟩, ?_⟩
          refine iteT ⟨_, rfl, l, _, 0, y, rfl, rfl, SqL.of hl1, atI_zero _ _, (by show 3 ≤ sizeLine; decide), fun t2 ht2 => ?_⟩
          exact q _ _ (Same.trans s1 (same_upd ht2)) (fin s1 ht2 (.cons (.str _) (.cons (.int _) (.cons d1 .nil))))
    | left i x y =>
      have hw : wv = iV i := hw
      subst hw
      cases hus1 with
      | nil => cases hlen
      | cons d1 d2 =>
        rename_i z zs d ds
        refine ⟨_, rfl, rfl, _, rfl, ?_⟩
        refine iteF ?_
        refine ⟨_, rfl, rfl, _, rfl, ?_⟩
        refine iteT ?_
        refine ⟨_, rfl, _, rfl, _, rfl, l, _, 0, z, rfl, rfl, SqL.of hl1, atI_zero _ _, _, rfl, 1, rfl, l, _, rfl, SqL.of hl1, fun p1 hp1 => ⟨(by show 4 ≤ sizeLine; decide), fun t2 ht2 => ?_⟩⟩
        rw [show cutV (z :: zs) (some 1) none = zs from cut_fromV (z :: zs) 1] at ht2 ⊢
        have s2 := same_upd (o := .lst zs) hp1
        have p1S := out s1 hp1
        have ep : (L2.upd H1 p1 (.lst zs)) p1 = some (.lst zs) := upd_same
        have s12 := Same.trans s1 s2
        have sz := delS_same (S := S0) s2
        generalize (L2.upd H1 p1 (.lst zs)) = H2 at s2 ep s12 sz ht2 ⊢
        refine q _ _ (Same.trans s12 (same_upd ht2)) (fin s12 ht2 (.cons (.str _) (.cons (.int _) (.cons (dp_same sz _ _ d1) (.cons (.lst (SqL.of (by rw [delS_of p1S]; exact ep)) (dpAll_same sz _ _ d2)) .nil)))))
    | lots rows =>
      obtain ⟨lw, rs, rfl, ew, hRw⟩ := hw
      have hRw' := hRw.un
      have lrs := hRw.len
      have lrow : rows.length ≤ ds.length := by
        have e : (T.need u v (.lots rows)).length = rows.length + (T.rest u v).length := by
          show (rows.map _ ++ _).length = _
          rw [List.length_append, List.length_map]
        omega
      refine ⟨_, rfl, rfl, _, rfl, ?_⟩
      refine iteF ?_
      refine ⟨_, rfl, rfl, _, rfl, ?_⟩
      refine iteF ?_
      refine ⟨_, rfl, rfl, _, rfl, ?_⟩
      refine iteT ?_
      refine ⟨_, rfl, lw, rs, rfl, SqL.of ew, fun D hD => ?_⟩
      have DS := out s1 hD
      refine lc_it (walk_enum (xs := rs)) (fun i H' => ∃ ks, Same H1 H' ∧ H' D = some (.lst ks) ∧ DpAll K (delS (D :: S0) H') ks (rowsD (rows.take i) ds)) ⟨[], same_upd hD, upd_same, by simp [rowsD]; exact .nil⟩ (fun i H' hi hp => by obtain ⟨_, sd, _⟩ := hp; exact SqL.of (sd _ _ ew)) (fun i y Hq H' hi hp hy => ?_) (fun H5 hp => ?_)
      · obtain ⟨ks, sd, hDl, hK⟩ := hp
        obtain ⟨t3, n1, z1, rfl, hT, rfl, e1, e2⟩ := hy
        cases e1
        obtain ⟨r, tr, er, rfl, etr⟩ := hRw'.get e2
        have sT := same_upd (o := .tup [V.int (i : Nat), .ref tr]) hT
        have eT : (L2.upd Hq t3 (.tup [V.int (i : Nat), .ref tr])) t3 = some (.tup [V.int (i : Nat), .ref tr]) := upd_same
        have sd1 := Same.trans sd sT
        have D1 := sT _ _ hDl
        have hK1 := dpAll_same (delS_same (S := D :: S0) sT) _ _ hK
        generalize (L2.upd Hq t3 (.tup [V.int (i : Nat), .ref tr])) = H2 at sT eT sd1 D1 hK1 ⊢
        have etr2 := sd1 _ _ etr
        have hl2 := sd1 _ _ hl1
        have hus2 := dpAll_same (delS_same (S := S0) sd1) _ _ hus1
        refine ⟨t3, _, rfl, SqT.of eT, rfl, ?_⟩
        refine ⟨_, _, rfl, _, _, rfl, tr, _, rfl, SqT.of etr2, rfl, _, _, rfl, _, _, rfl, rfl, rfl, ?_⟩
        refine ⟨rfl, lcYes ?_⟩
        obtain ⟨x, ex⟩ : ∃ x, us[i]? = some x := ⟨_, List.getElem?_eq_getElem (by omega)⟩
        obtain ⟨d, ed, hd⟩ := dpAll_get' hus1 ex
        refine ⟨_, rfl, _, rfl, _, rfl, _, rfl, l, us, ((i : Nat) : Int), x, rfl, rfl, SqL.of hl2, atI_nat ex, (by show 3 ≤ sizeLine; decide), fun t6 ht6 => ?_⟩
        have s6 := same_upd (o := .tup [iV r.1, iV r.2, x]) ht6
        have tD : t6 ≠ D := fun z => by rw [z, D1] at ht6; cases ht6
        have tS := out (Same.trans s1 sd1) ht6
        have hK6 := dpAll_same (delS_same (S := D :: S0) s6) _ _ hK1
        have lk := dpAll_len hK
        have lrd : (rowsD (rows.take i) ds).length ≤ i := by
          have go : ∀ (R : List (Nat × Nat)) (d : List PyData), (rowsD R d).length ≤ R.length := fun R => by
            induction R with
            | nil => intro d; simp [rowsD]
            | cons r R ih =>
              intro d
              cases d with
              | nil => simp [rowsD]
              | cons e d =>
                rw [rowsD, List.length_cons, List.length_cons]
                have := ih d
                omega
          refine Nat.le_trans (go _ _) ?_
          rw [List.length_take]
          exact Nat.min_le_left _ _
        have DSn : D ∈ D :: S0 := List.mem_cons_self
        refine ⟨ks, s6 _ _ D1, Nat.lt_of_lt_of_le (show ks.length < 20000 by omega) big, ks ++ [.ref t6], fun c o e => ?_, upd_same, ?_⟩
        · rw [upd_ne (ne_of_none e hD)]
          exact s6 _ _ (sd1 c o e)
        · rw [delS_upd DSn, rowsD_take er ed]
          have tn : t6 ∉ D :: S0 := fun h => by
            rcases List.mem_cons.mp h with h | h
            · exact tD h
            · exact tS h
          refine dpAll_app hK6 (.cons (.tup (SqT.of (xs := [iV r.1, iV r.2, x]) (by rw [delS_of tn, upd_same])) (.cons (.int _) (.cons (.int _) (.cons (dp_same (fun b o e => ?_) _ _ hd) .nil)))) .nil)
          obtain ⟨z1, z2⟩ := delS_inv e
          have bD : b ≠ D := ne_of_none z2 hD
          rw [delS_of (fun h => by
            rcases List.mem_cons.mp h with h | h
            · exact bD h
            · exact z1 h)]
          exact s6 _ _ (sd1 _ _ z2)
      · obtain ⟨ks, sd, hDl, hK⟩ := hp
        rw [lrs, List.take_length] at hK
        have sm5 := Same.trans s1 sd
        have hl5 := sd _ _ hl1
        have hus5 := dpAll_same (delS_same (S := S0) sd) _ _ hus1
        have lk := dpAll_len hK
        have lrd : ∀ (R : List (Nat × Nat)) (d : List PyData), R.length ≤ d.length → (rowsD R d).length = R.length := fun R => by
          induction R with
          | nil => intro d _; simp [rowsD]
          | cons r R ih =>
            intro d hd
            cases d with
            | nil => simp at hd
            | cons e d =>
              rw [rowsD, List.length_cons, List.length_cons, ih d (by simpa using hd)]
        have lks : ks.length = rows.length := by rw [lk, lrd rows ds lrow]
        refine ⟨_, rfl, _, rfl, _, rfl, _, rfl, D, ks, rfl, .inl (SqL.of hDl), (ks.length : Int), rfl, l, us, rfl, SqL.of hl5, fun p1 hp1 => ⟨(by show 3 ≤ sizeLine; decide), fun t2 ht2 => ?_⟩⟩
        rw [show cutV us (some ((ks.length : Nat) : Int)) none = us.drop ks.length from cut_fromV us ks.length] at ht2 ⊢
        have s2 := same_upd (o := .lst (us.drop ks.length)) hp1
        have p1S := out sm5 hp1
        have ep : (L2.upd H5 p1 (.lst (us.drop ks.length))) p1 = some (.lst (us.drop ks.length)) := upd_same
        have s12 := Same.trans sm5 s2
        have sz := delS_same (S := S0) s2
        have D6 := s2 _ _ hDl
        generalize (L2.upd H5 p1 (.lst (us.drop ks.length))) = H6 at s2 ep s12 sz D6 ht2 ⊢
        have hdr : DpAll K (delS S0 H6) (us.drop ks.length) (ds.drop rows.length) := by
          have h := dpAll_same sz _ _ hus5
          rw [← List.take_append_drop rows.length ds] at h
          obtain ⟨h1, h2⟩ := dpA_split h
          rw [List.length_take, Nat.min_eq_left lrow] at h2
          rw [lks]
          exact h2
        have hK6 : DpAll K (delS S0 H6) ks (rowsD rows ds) := dpAll_same (fun b o e => by
          obtain ⟨z1, z2⟩ := delS_inv e
          rw [delS_of (fun h => z1 (List.mem_cons_of_mem _ h))]
          exact s2 _ _ z2) _ _ hK
        refine q _ _ (Same.trans s12 (same_upd ht2)) (fin s12 ht2 (.cons (.str _) (.cons (.lst (SqL.of (by rw [delS_of DS]; exact D6)) hK6) (.cons (.lst (SqL.of (by rw [delS_of p1S]; exact ep)) hdr) .nil))))
    | sign =>
      have hw : wv = .non := hw
      subst hw
      refine ⟨_, rfl, rfl, _, rfl, ?_⟩
      refine iteF ?_
      refine ⟨_, rfl, rfl, _, rfl, ?_⟩
      refine iteF ?_
      refine ⟨_, rfl, rfl, _, rfl, ?_⟩
      refine iteF ?_
      refine ⟨_, rfl, _, rfl, (by show 2 ≤ sizeLine; decide), fun t2 ht2 => ?_⟩
      exact q _ _ (Same.trans s1 (same_upd ht2)) (fin s1 ht2 (.cons (.str _) (.cons (.lst (SqL.of (by rw [delS_of hlS]; exact hl1)) hus1) .nil)))
    | no =>
      have hw : wv = .non := hw
      subst hw
      refine ⟨_, rfl, rfl, _, rfl, ?_⟩
      refine iteF ?_
      refine ⟨_, rfl, rfl, _, rfl, ?_⟩
      refine iteF ?_
      refine ⟨_, rfl, rfl, _, rfl, ?_⟩
      refine iteF ?_
      refine ⟨_, rfl, _, rfl, (by show 2 ≤ sizeLine; decide), fun t2 ht2 => ?_⟩
      exact q _ _ (Same.trans s1 (same_upd ht2)) (fin s1 ht2 (.cons (.str _) (.cons (.lst (SqL.of (by rw [delS_of hlS]; exact hl1)) hus1) .nil)))
end
end Sg

set_option maxRecDepth 100000
set_option maxHeartbeats 8000000
namespace Sg
open PySem PySem.Spec PyProof.Rows L2 Dr Gd Er Cm LD CM XT RT EnT RZ IX TF
def spFoldP (K : PySem.W.Frag) (g1 g2 : Addr) (sp1 sp2 : Sp) : Sp := fun vs H0 Q _ => ∃ v q1 q2 a d, ∃ (res : Nat × Nat → PyData) (ch : Nat × Nat → List (Nat × Nat)) (sz : Nat × Nat → Nat) (Pd : Nat × Nat → Prop), vs = [v, .ref q1, .ref q2] ∧ H0 q1 = some (.met g1 a) ∧ H0 q2 = some (.met g2 a) ∧ Pd d ∧ sz d ≤ 1000000 ∧ Dp K H0 v (ndD d) ∧
  FoldQ K ndD res ch sz Pd H0 (fun vs H Q => sp1 (.ref a :: vs) H Q E0) (fun vs H Q => sp2 (.ref a :: vs) H Q E0) ∧ ∀ r H', Same H0 H' → Dp K H' r (res d) → Q r H'
theorem rows_len {hb : Nat → Nat → Bool} {us vs : List Nat} : (rowsC (· == ·) hb us vs).length ≤ vs.length := by
  rcases rowsG_fst (hb := hb) (us := us) (vs := vs) (kept := (leftO (· == ·) us vs).1) (leftO (· == ·) us vs).2 [] with h | h
  · have e := congrArg List.length (show (rowsC (· == ·) hb us vs).map (·.1) = (leftO (· == ·) us vs).2 from h)
    rw [List.length_map] at e
    have := (leftO_len (· == ·) us vs).2
    omega
  · rw [show rowsC (· == ·) hb us vs = [] from h]
    exact Nat.zero_le _
theorem need_len {T : Tab} {os : List Nat} {u v : Nat} (h : (T.pl v).length ≤ 5000) : (T.need u v (T.way os u v)).length ≤ 10000 := by
  have hr : (T.rest u v).length = (T.pl v).length := List.length_map ..
  unfold Tab.way
  by_cases h1 : v ∈ T.pl u
  · rw [if_pos h1]
    exact Nat.zero_le _
  · rw [if_neg h1]
    cases firstP (fun a => Tab.hb os a v) (T.pl u) 0 with
    | some ia => exact (by decide : 1 ≤ 10000)
    | none =>
      cases T.cas u v with
      | left => show (T.rest u v).length + 1 ≤ 10000; omega
      | lots =>
        show ((rowsC (· == ·) (Tab.hb os) (T.pl u) (T.pl v)).map (T.rowN u v) ++ T.rest u v).length ≤ 10000
        rw [List.length_append, List.length_map]
        have := rows_len (hb := Tab.hb os) (us := T.pl u) (vs := T.pl v)
        omega
      | sign => show (T.rest u v).length ≤ 10000; omega
      | no => show (T.rest u v).length ≤ 10000; omega
theorem Tab.Full.uv {U : Str → Bool} {T : Tab} {Cl : Nat → Prop} {os : List Nat} (F : T.Full U Cl os) {u v : Nat} (N : Tab.Node T Cl os (u, v)) : UV T os u v := by
  have hu : u < os.length := N.u
  have hv : Cl v := N.v
  have lu : u < T.Ts.length := by have := F.le; omega
  have lv := F.O.lt v hv
  exact ⟨lu, lv, fun x hx => by have := (Tab.at_ F.O.wf lu).2.2.2.1 x hx; omega, F.G.pl u lu, F.G.pl v lv, F.G.hd u lu, F.G.hd v lv, F.G.ar u v lu lv⟩
section
variable {P : Program} {w : World} {K : PySem.W.Frag} {mg : Str → Option Value} {base : Heap} {CN CP CA C CO cT : Addr} {U : Str → Bool} {k : Nat} {g1 g2 : Addr} {sp1 sp2 : Sp}
theorem ok_foldP {f : Addr} {fd : FuncData} (F : Fun K "folded" "folded" sFolded f fd) (hln : mg "len" = none) (FG1 : FnR P w K mg base CX0 (k + 1) g1 sp1) (h1 : PySem.W.fnIn K g1 = true) (FG2 : FnR P w K mg base CX0 (k + 1) g2 sp2) (h2 : PySem.W.fnIn K g2 = true) :
    FnOk P w K mg base CX0 (k + 2) f fd ["root", "children", "made"] (spFoldP K g1 g2 sp1 sp2) := by
  refine F.ok scFd (fun vs H Q E h => ?_) (fun cdv A outer s H vs Q E hr h => ?_)
  · obtain ⟨v, q1, q2, a, d, res, ch, sz, Pd, rfl, _⟩ := h
    rfl
  · obtain ⟨v, q1, q2, a, d, res, ch, sz, Pd, rfl, hq1, hq2, hok, hsz, hd, FP, qq⟩ := h
    refine foldQ_body (kv := .ref q1) (mk := .ref q2) (Pk1 := fun H' => H' q1 = some (.met g1 a)) (Pk2 := fun H' => H' q2 = some (.met g2 a)) (CC := fun vs H' Q' => sp1 (.ref a :: vs) H' Q' E0) (CM := fun vs H' Q' => sp2 (.ref a :: vs) H' Q' E0) hln (fun {e1 t p pos} ha he hpl => ?_) (fun {e1 e2 t p pos} ha he hpl => ?_)
      ⟨v, d, rfl, fun H' sm => ⟨sm _ _ hq1, sm _ _ hq2⟩, hok, hsz, hd, FP, qq⟩
    · have z := pe_callM (i := 1) (x := "children") (p := p) (pos := pos) FG1 (hr.mono (by omega)) h1 rfl (Or.inl rfl) pass0 ha (he := he) (hpl := hpl)
      refine ⟨fun pins s1 σ H1 Q1 I h1 => z.run pins s1 σ H1 Q1 I ?_⟩
      obtain ⟨m1, m2, m3⟩ := h1
      exact ⟨q1, a, m1, m2, m3⟩
    · have z := pe_callM (i := 2) (x := "made") (p := p) (pos := pos) FG2 (hr.mono (by omega)) h2 rfl (Or.inl rfl) pass0 ha (he := he) (hpl := hpl)
      refine ⟨fun pins s1 σ H1 Q1 I h1 => z.run pins s1 σ H1 Q1 I ?_⟩
      obtain ⟨m1, m2, m3⟩ := h1
      exact ⟨q2, a, m1, m2, m3⟩
def spASteps (K : PySem.W.Frag) (CN CP CA : Addr) (U : Str → Bool) : Sp := fun vs H Q _ => ∃ a p st lt lh lp dk lo T ns nt os Cl, vs = [.ref a] ∧ AbAt K CN CP CA U H a p st lt lh lp dk lo T ns nt os ∧ Tab.Full U T Cl os ∧ Tab.Node T Cl os (ns, nt) ∧ T.sz (ns, nt) ≤ 1000000 ∧
  ∀ r H', Same H H' → Dp K H' r (T.res os (ns, nt)) → Q r H'
theorem scAS : FnScope ["self"] ["self"] (defScope sASteps) := ⟨rfl, rfl, rfl, by decide +kernel, rfl, by decide +kernel, by decide +kernel⟩
theorem nd_inv {Z : Hp} {v : V} {n : Nat × Nat} (h : Dp K Z v (ndD n)) : ∃ a, v = .ref a ∧ SqT K Z a [iV n.1, iV n.2] := by
  cases h with
  | tup g1 g2 =>
    rename_i a xs
    cases g2 with
    | cons x y =>
      cases y with
      | cons x' y' =>
        cases y'
        cases x
        cases x'
        exact ⟨a, rfl, g1⟩
theorem ok_asteps {fN fM fF : Addr} {dF : FuncData} {f : Addr} {fd : FuncData} (F : Fun K "steps" "Above.steps" sASteps f fd) (SP : PCl K CP) (S : ACl K CA) (B1 : BMeth K CA "_needed" fN) (B2 : BMeth K CA "_made" fM) (GF : Cal P w K mg base CX0 5 "folded" fF dF ["root", "children", "made"] (spFoldP K fN fM (spNeeded K CN CP CA U) (spMade_ K CN CP CA U))) :
    FnOk P w K mg base CX0 6 f fd ["self"] (spASteps K CN CP CA U) := by
  refine F.ok scAS (fun vs H Q E h => ?_) (fun cdv A outer s H vs Q E hr h => ?_)
  · obtain ⟨a, p, st, lt, lh, lp, dk, lo, T, ns, nt, os, Cl, rfl, _⟩ := h
    rfl
  · obtain ⟨a, p, st, lt, lh, lp, dk, lo, T, ns, nt, os, Cl, rfl, hA, hF, hNd, hsz, q⟩ := h
    refine ⟨_, pss_one (ps_ret (pe_call GF.ok hr rfl GF.g GF.kp GF.b .nil pass0 (pa_cons (pe_tup (pa_cons (pe_fld (pe_fld (pv 0) rfl) rfl) (pa_cons (pe_fld (pe_fld (pv 0) rfl) rfl) pa_nil))) (pa_cons (pe_met (pv 0) S.cl B1) (pa_cons (pe_met (pv 0) S.cl B2) pa_nil))))), ?_⟩
    obtain ⟨da, lc, dw, x1, _⟩ := hA.i
    obtain ⟨dp, dr, dl, p1, _⟩ := hA.p.i
    refine ⟨_, rfl, a, CA, da, _, .ref p, rfl, x1, S.cl, S.n1, rfl, p, CP, dp, _, iV ns, rfl, p1, SP.cl, SP.n2, rfl, _, rfl, a, CA, da, _, .ref p, rfl, x1, S.cl, S.n1, rfl, p, CP, dp, _, iV nt, rfl, p1, SP.cl, SP.n3, rfl, (by show 2 ≤ sizeLine; decide), fun t ht => ?_⟩
    have s1 := same_upd (o := .tup [iV ns, iV nt]) ht
    have e1 : (L2.upd H t (.tup [iV ns, iV nt])) t = some (.tup [iV ns, iV nt]) := upd_same
    generalize (L2.upd H t (.tup [iV ns, iV nt])) = H1 at s1 e1 ⊢
    refine ⟨_, rfl, a, da, _, rfl, s1 _ _ x1, rfl, fun q1 hq1 => ?_⟩
    have s2 := same_upd (o := .met fN a) hq1
    have e2 : (L2.upd H1 q1 (.met fN a)) q1 = some (.met fN a) := upd_same
    have s12 := Same.trans s1 s2
    have e12 := s2 _ _ e1
    generalize (L2.upd H1 q1 (.met fN a)) = H2 at s2 e2 s12 e12 ⊢
    refine ⟨_, rfl, a, da, _, rfl, s12 _ _ x1, rfl, fun q2 hq2 => ?_⟩
    have s3 := same_upd (o := .met fM a) hq2
    have e3 : (L2.upd H2 q2 (.met fM a)) q2 = some (.met fM a) := upd_same
    have s13 := Same.trans s12 s3
    have e23 := s3 _ _ e2
    have e13 := s3 _ _ e12
    generalize (L2.upd H2 q2 (.met fM a)) = H3 at s3 e3 s13 e23 e13 ⊢
    have hA3 := hA.same s13
    refine ⟨.ref t, q1, q2, a, (ns, nt), T.res os, T.chN os, T.sz, Tab.Node T Cl os, rfl, e23, e3, hNd, hsz, .tup (SqT.of e13) (.cons (.int _) (.cons (.int _) .nil)), ?_, fun r H' sm hd => q r H' (Same.trans s13 sm) hd⟩
    exact {
      pos := T.sz_pos
      szc := fun n N => Tab.need_sz hF N
      sub := fun n N m hm => Tab.need_ok hF N m hm
      kids := fun n v S0 H' Q' sm N hS hv hQ => by
        obtain ⟨b, rfl, hb⟩ := nd_inv hv
        obtain ⟨u, v⟩ := n
        exact ⟨a, p, st, lt, lh, lp, dk, lo, T, ns, nt, os, b, u, v, rfl, seqT_same delS_sub hb, hA3.same sm, hF.uv N, fun nl us H'' s' hn en hR => hQ nl us H'' s' hn en (pr_dp (hR.delS fun x hx => by
          obtain ⟨xs, e⟩ := hS x hx
          exact ⟨xs, s' _ _ e⟩))⟩
      made := fun n v l us S0 H' Q' sm N hS hlS hv hl hus hQ => by
        obtain ⟨b, rfl, hb⟩ := nd_inv hv
        have er := Tab.res_eq hF N
        obtain ⟨u, v⟩ := n
        have G := hF.uv N
        refine ⟨a, p, st, lt, lh, lp, dk, lo, T, ns, nt, os, b, l, us, (T.chN os (u, v)).map (T.res os), S0, u, v, rfl, seqT_same delS_sub hb, hA3.same sm, G, hS, hlS, hl, hus, List.length_map .., ?_, fun r H'' s' hd => hQ r H'' s' ?_⟩
        · rw [List.length_map]
          exact need_len G.lv
        · rw [er]
          exact hd }
end
end Sg

set_option maxRecDepth 100000
set_option maxHeartbeats 8000000
namespace Sg
open PySem PySem.Spec PyProof.Rows L2 Dr Gd Er Cm LD CM XT RT EnT RZ IX TF
/-- what steps gives -/
def StepsR (K : PySem.W.Frag) (U : Str → Bool) (row lots : List Str) (d1 d2 : PyData) (H' : Hp) (r : V) : Prop :=
  (abT row lots d1 d2 = true ∧ ∃ T Cl os u v, Tab.Full U T Cl os ∧ Tab.Node T Cl os (u, v) ∧ T.tm u = d1 ∧ T.tm v = d2 ∧ T.row = row ∧ T.lots = lots ∧ Dp K H' r (T.res os (u, v))) ∨ (abT row lots d1 d2 = false ∧ r = .non)
def spStepsG (K : PySem.W.Frag) (C CO : Addr) (U : Str → Bool) : Sp := fun vs H Q _ => ∃ o x ps row lots v1 d1 v2 d2, vs = [.ref o, v1, v2] ∧ Two K C CO U H o x ps row lots v1 d1 v2 d2 ∧ szT (fsz d2) (hgt d1) ≤ 1000000 ∧ ∀ r H', Same H H' → StepsR K U row lots d1 d2 H' r → Q r H'
structure SM (P : Program) (w : World) (K : PySem.W.Frag) (mg : Str → Option Value) (base : Heap) (CN CP CA : Addr) (U : Str → Bool) (fS : Addr) (dS : FuncData) : Prop where
  m : Meth K CA "steps" fS
  o : FnOk P w K mg base CX0 6 fS dS ["self"] (spASteps K CN CP CA U)
  b : Binds K dS ["self"] []
section
variable {P : Program} {w : World} {K : PySem.W.Frag} {mg : Str → Option Value} {base : Heap} {CN CP CA C CO cT : Addr} {U : Str → Bool} {fL fP fA fH fS : Addr} {dL dP dA dH dS : FuncData}
theorem ok_stepsG {f : Addr} {fd : FuncData} (F : Fun K "steps" "steps" sSteps f fd) (S : OCl K CO) (SP : PCl K CP) (SA : ACl K CA) (GL : Cal P w K mg base (L2.CX P w) 5 "look_at_terms" fL dL ["signs", "s", "t"] (spLookT K cT C)) (MP : PM P w K mg base CN CP C CO U fP dP) (M : AM P w K mg base CN CP CA U fA dA) (HM : HM P w K mg base CN CP CA U fH dH) (SM : SM P w K mg base CN CP CA U fS dS) :
    FnOk P w K mg base CX0 8 f fd ["order", "s", "t"] (spStepsG K C CO U) := by
  refine F.ok scSt (fun vs H Q E h => ?_) (fun cdv A outer s H vs Q E hr h => ?_)
  · obtain ⟨o, x, ps, row, lots, v1, d1, v2, d2, rfl, _⟩ := h
    rfl
  · obtain ⟨o, x, ps, row, lots, v1, d1, v2, d2, rfl, G, hsz, q⟩ := h
    have nd := scSt.nd
    have r1 : Room 1 (A.deeper (envOfC "steps" (defScope sSteps) s.heap.objs.size f cdv)) := hr.mono (by decide)
    have r5 : Room 5 (A.deeper (envOfC "steps" (defScope sSteps) s.heap.objs.size f cdv)) := hr.mono (by decide)
    have r6 : Room 6 (A.deeper (envOfC "steps" (defScope sSteps) s.heap.objs.size f cdv)) := hr.mono (by decide)
    refine ⟨_, pss_cons (ps_expr (pe_call GL.ok r5 rfl GL.g GL.kp GL.b .nil (passE0 rfl rfl) (pa_cons (pe_fld (pv 0) rfl) (pa_cons (pv 1) (pa_cons (pv 2) pa_nil)))))
      (pss_cons (ps_set (i := 3) nd rfl (Or.inl rfl) (pe_make M.km M.o r6 rfl M.g M.b .nil pass0 (pa_cons (pe_make MP.km MP.o r5 rfl MP.g MP.b .nil pass0 (pa_cons (pv 0) (pa_cons (pv 1) (pa_cons (pv 2) pa_nil)))) pa_nil)))
      (pss_one (ps_ret (pe_ifExp (pt_val (pe_meth (pv 3) SA.cl HM.m HM.o r1 HM.b .nil pass0 (pa_cons (pe_fld (pe_fld (pv 3) rfl) rfl) (pa_cons (pe_fld (pe_fld (pv 3) rfl) rfl) pa_nil)))) (pe_meth0 (pv 3) SA.cl SM.m SM.o r6 SM.b .nil pass0) pe_non)))), ?_⟩
    obtain ⟨dx, ln, ll, tf, fs, ws, a0, _⟩ := id G.o
    refine ⟨_, rfl, o, CO, dx, _, .ref x, rfl, a0, S.cl, S.n1, rfl, _, rfl, _, rfl, ?_⟩
    refine G.look fun H1 s1 => ?_
    have G1 := G.same s1
    refine ⟨_, rfl, _, rfl, _, rfl, fun p dp hp hdp hne => ?_⟩
    have sd := del_new (o1 := .own p) (o2 := .ins CP dp []) hp hdp
    have Gd := G1.same sd
    refine ⟨p, o, x, ps, row, lots, v1, d1, v2, d2, dp, rfl, upd_same, Gd.o, G.r, G.l, G.rl, G.ll, Gd.h1, G.k1, G.s1, Gd.h2, G.k2, G.s2, fun Ts Ns ns nt st lt lh lp dk H2 sx fr hP e1 e2 hm => ⟨rfl, ?_⟩⟩
    have s12 := Same.trans s1 (same_mk hp hdp sx)
    obtain ⟨ht, hT⟩ := G.parts hm hP.n.wf.nd
    have s2' := G.s2
    have hG := tabG_of (lots := lots) hP.n.wf ht G.rn
    intro a da ha hda hne2
    have s0 := same_up2 (o1 := .own a) (o2 := .ins CA da []) ha hda
    have hns := (List.getElem?_eq_some_iff.mp e1).1
    have hnt := (List.getElem?_eq_some_iff.mp e2).1
    refine ⟨a, p, st, lt, lh, lp, dk, Ts, Ns, row, lots, ns, nt, d2, da, rfl, upd_same, hP.same s0, hG, hns, e2, hT, by omega, fun cols lo Cl H3 sx3 hlo hA hO hCl => ⟨rfl, ?_⟩⟩
    have s13 := Same.trans s12 (same_mk ha hda sx3)
    obtain ⟨da1, lc1, dw1, x1, _⟩ := hA.i
    obtain ⟨dp1, dr1, dl1, p1, _⟩ := hA.p.i
    have ltab := Tab.tab_len (⟨Ts, Ns, row, lots, cols⟩ : Tab) (ns + 1)
    have hF : Tab.Full U ⟨Ts, Ns, row, lots, cols⟩ Cl ((⟨Ts, Ns, row, lots, cols⟩ : Tab).tab (ns + 1)) :=
      ⟨hO, ⟨hG.pl, hG.hd, hG.ar⟩, fun u hu w hw => Tab.tab_ok hO (ns + 1) hns u (by rw [ltab] at hu; exact hu) w hw, by rw [ltab]; exact hns⟩
    have e := Tab.tab_ok hO (ns + 1) hns ns (Nat.lt_succ_self _) nt hCl
    rw [tm_at (T := ⟨Ts, Ns, row, lots, cols⟩) e1, tm_at (T := ⟨Ts, Ns, row, lots, cols⟩) e2] at e
    have e : Tab.hb ((⟨Ts, Ns, row, lots, cols⟩ : Tab).tab (ns + 1)) ns nt = abT row lots d1 d2 := e
    refine ⟨_, rfl, a, da1, _, rfl, x1, rfl, _, rfl, a, CA, da1, _, .ref p, rfl, x1, SA.cl, SA.n1, rfl, p, CP, dp1, _, iV ns, rfl, p1, SP.cl, SP.n2, rfl, _, rfl, a, CA, da1, _, .ref p, rfl, x1, SA.cl, SA.n1, rfl, p, CP, dp1, _, iV nt, rfl, p1, SP.cl, SP.n3, rfl, ?_⟩
    refine ⟨a, p, st, lt, lh, lp, dk, lo, _, ns, nt, _, ns, nt, rfl, hA, by rw [ltab]; omega, ?_⟩
    refine ⟨_, rfl, ?_⟩
    rw [e]
    cases hab : abT row lots d1 d2 with
    | false =>
      refine iteF ?_
      exact q _ _ s13 (.inr ⟨hab, rfl⟩)
    | true =>
      refine iteT ?_
      rw [hab] at e
      have hNd : Tab.Node ⟨Ts, Ns, row, lots, cols⟩ Cl ((⟨Ts, Ns, row, lots, cols⟩ : Tab).tab (ns + 1)) (ns, nt) := ⟨by rw [ltab]; exact Nat.lt_succ_self _, hCl, e⟩
      refine ⟨_, rfl, a, da1, _, rfl, x1, rfl, ?_⟩
      refine ⟨a, p, st, lt, lh, lp, dk, lo, _, ns, nt, _, Cl, rfl, hA, hF, hNd, ?_, fun r H4 s4 hd => q r H4 (Same.trans s13 s4) (.inl ⟨hab, _, Cl, _, ns, nt, hF, hNd, tm_at (T := ⟨Ts, Ns, row, lots, cols⟩) e1, tm_at (T := ⟨Ts, Ns, row, lots, cols⟩) e2, rfl, rfl, hd⟩)⟩
      show szT (fsz ((⟨Ts, Ns, row, lots, cols⟩ : Tab).tm nt)) (hgt ((⟨Ts, Ns, row, lots, cols⟩ : Tab).tm ns)) ≤ 1000000
      rw [tm_at (T := ⟨Ts, Ns, row, lots, cols⟩) e1, tm_at (T := ⟨Ts, Ns, row, lots, cols⟩) e2]
      exact hsz
theorem madeD_tup (w : Way) (ds : List PyData) : ∃ es, madeD w ds = .tuple es := by
  cases w <;> exact ⟨_, rfl⟩
theorem StepsR.isNone {row lots : List Str} {d1 d2 : PyData} {H' : Hp} {r : V} (h : StepsR K U row lots d1 d2 H' r) : decide (r = .non) = !abT row lots d1 d2 := by
  rcases h with ⟨e, T, Cl, os, u, v, hF, hN, _, _, _, _, hd⟩ | ⟨e, rfl⟩
  · rw [e, Tab.res_eq hF hN] at *
    obtain ⟨es, ee⟩ := madeD_tup (T.ndW os (u, v)) ((T.chN os (u, v)).map (T.res os))
    rw [ee] at hd
    cases hd
    simp
  · rw [e]
    simp
end
end Sg

set_option maxRecDepth 100000
set_option maxHeartbeats 8000000
/-! written data with names in it -/
namespace Sg
open PySem PySem.Spec PyProof.Rows L2 Dr Gd Er Cm Ow
/-- a part of the heap: it grows with it -/
structure ZMo (Z : Hp → Hp) : Prop where
  mo : ∀ H H', Same H H' → Same (Z H) (Z H')
/-- what is free in H is in the part as soon as it is there -/
def ZOk (Z : Hp → Hp) (H : Hp) : Prop := ∀ b, H b = none → ∀ H2 o, H2 b = some o → Z H2 b = some o
theorem ZOk.mono {Z : Hp → Hp} {H H' : Hp} (h : ZOk Z H) (s : Same H H') : ZOk Z H' := fun b hb H2 o e => h b (Same.free s hb) H2 o e
theorem zmo_nw (H0 : Hp) : ZMo (nw H0) := ⟨fun _ _ s => nw_l s⟩
theorem zok_nw {H0 H : Hp} (s : Same H0 H) : ZOk (nw H0) H := fun b hb H2 o e => nw_at (Same.free s hb) e
theorem zmo_del (H0 : Hp) (l : Addr) : ZMo (fun H => L2.del (nw H0 H) l) := ⟨fun _ _ s => SameX.del (Same.x (nw_l s))⟩
theorem zok_del {H0 H : Hp} {l : Addr} {o : HO} (s : Same H0 H) (hl : H l = some o) : ZOk (fun H => L2.del (nw H0 H) l) H := fun b hb H2 o e => by
  show L2.del (nw H0 H2) l b = some o
  rw [del_ne (fun z => by rw [z, hl] at hb; cases hb)]
  exact nw_at (Same.free s hb) e
structure EnvQ (c : L2.St → Hp → Prop) : Prop where
  st : ∀ σ Z Z', Same Z Z' → c σ Z → c σ Z'
def tDv (K : PySem.W.Frag) (Z : Hp → Hp) (c : L2.St → Hp → Prop) (d : PyData) : TE := fun σ H Q => ZOk Z H ∧ c σ (Z H) ∧ ∀ v H', Same H H' → Dp K (Z H') v d → Q v H'
def taDv (K : PySem.W.Frag) (Z : Hp → Hp) (c : L2.St → Hp → Prop) (ds : List PyData) : TA := fun σ H Q => ZOk Z H ∧ c σ (Z H) ∧ ∀ vs H', Same H H' → DpAll K (Z H') vs ds → Q vs H'
def tDvL (K : PySem.W.Frag) (Z : Hp → Hp) (c : L2.St → Hp → Prop) (ds : List PyData) : TE := fun σ H Q => ZOk Z H ∧ c σ (Z H) ∧ ∀ p vs H1 H', Same H H1 → H1 p = none → H' = L2.upd H1 p (.lst vs) → DpAll K (Z H1) vs ds → Q (.ref p) H'
section
variable {X : Cx} {Z : Hp → Hp} {c : L2.St → Hp → Prop} {e : Expr} {es : List Expr} {d : PyData} {ds : List PyData} {pos : Pos}
theorem qd_int {n : Int} {j : Nat} : PE X (.Constant (.int n) j pos) (tDv X.K Z c (.int n)) := pe_imp (fun σ H Q h => h.2.2 _ H (Same.refl H) (.int n)) pe_int
theorem qd_str {z : Str} {j : Nat} : PE X (.Constant (.str z) j pos) (tDv X.K Z c (.str z)) := pe_imp (fun σ H Q h => h.2.2 _ H (Same.refl H) (.str z)) pe_str
theorem qd_bl {b : Bool} {j : Nat} : PE X (.Constant (.bool b) j pos) (tDv X.K Z c (.bool b)) := pe_imp (fun σ H Q h => h.2.2 _ H (Same.refl H) (.bl b)) pe_bl
theorem qd_var {i : Nat} {x : Str} {p : Pos} (hx : PE X (.Name x p) (tVar i)) (h : ∀ σ Y, c σ Y → ∃ v, σ[i]? = some (some v) ∧ Dp X.K Y v d) : PE X (.Name x p) (tDv X.K Z c d) := pe_imp (fun σ H Q k => by
  obtain ⟨v, e, hd⟩ := h σ _ k.2.1
  exact ⟨v, e, k.2.2 v H (Same.refl H) hd⟩) hx
theorem qd_nil : PA X [] (taDv X.K Z c []) := pa_imp (fun σ H Q h => h.2.2 _ H (Same.refl H) .nil) pa_nil
theorem qd_cons (M : ZMo Z) (E : EnvQ c) (he : PE X e (tDv X.K Z c d)) (hr : PA X es (taDv X.K Z c ds)) (hs : starEach (e :: es) X.env = (false, eval e X.env) :: starEach es X.env := by rfl) : PA X (e :: es) (taDv X.K Z c (d :: ds)) :=
  pa_imp (fun σ H Q h => ⟨h.1, h.2.1, fun v H1 s1 h1 => ⟨h.1.mono s1, E.st σ _ _ (M.mo _ _ s1) h.2.1, fun vs H2 s2 h2 => h.2.2 _ H2 (Same.trans s1 s2) (.cons (dp_same (M.mo _ _ s2) _ _ h1) h2)⟩⟩) (pa_cons he hr hs)
theorem qd_lstL (h : PA X es (taDv X.K Z c ds)) (hl : ds.length ≤ 1000) : PE X (.List es pos) (tDvL X.K Z c ds) :=
  pe_imp (fun σ H Q h => ⟨h.1, h.2.1, fun vs H1 s1 h1 => ⟨by rw [dpAll_len h1]; exact Nat.le_trans hl (by decide), fun p hp => h.2.2 p vs H1 _ s1 hp rfl h1⟩⟩) (pe_lst h)
theorem qd_lst (M : ZMo Z) (h : PA X es (taDv X.K Z c ds)) (hl : ds.length ≤ 1000) : PE X (.List es pos) (tDv X.K Z c (.list ds)) :=
  pe_imp (fun σ H Q h => ⟨h.1, h.2.1, fun p vs H1 H2 s1 hp e h1 => by
    subst e
    exact h.2.2 _ _ (Same.trans s1 (same_upd hp)) (.lst (SqL.of (h.1 p (Same.free s1 hp) _ _ upd_same)) (dpAll_same (M.mo _ _ (same_upd hp)) _ _ h1))⟩) (qd_lstL h hl)
theorem qd_tup (M : ZMo Z) {x1 : Nat} (h : PA X es (taDv X.K Z c ds)) (hl : ds.length ≤ 1000) : PE X (.Tuple es x1 pos) (tDv X.K Z c (.tuple ds)) :=
  pe_imp (fun σ H Q h => ⟨h.1, h.2.1, fun vs H1 s1 h1 => ⟨by rw [dpAll_len h1]; exact Nat.le_trans hl (by decide), fun p hp => h.2.2 _ _ (Same.trans s1 (same_upd hp)) (.tup (SqT.of (h.1 p (Same.free s1 hp) _ _ upd_same)) (dpAll_same (M.mo _ _ (same_upd hp)) _ _ h1))⟩⟩) (pe_tup h)
def tDvE (K : PySem.W.Frag) (c : L2.St → Hp → Prop) (d : PyData) : TE := fun σ H Q => ∃ Z, ZMo Z ∧ tDv K Z c d σ H Q
def tDvLE (K : PySem.W.Frag) (c : L2.St → Hp → Prop) (ds : List PyData) : TE := fun σ H Q => ∃ Z, ZMo Z ∧ tDvL K Z c ds σ H Q
theorem qd_ex (h : ∀ Z, ZMo Z → PE X e (tDv X.K Z c d)) : PE X e (tDvE X.K c d) := ⟨fun pins s σ H Q I ⟨Z, M, k⟩ => (h Z M).run pins s σ H Q I k⟩
theorem qd_exL (h : ∀ Z, ZMo Z → PE X e (tDvL X.K Z c ds)) : PE X e (tDvLE X.K c ds) := ⟨fun pins s σ H Q I ⟨Z, M, k⟩ => (h Z M).run pins s σ H Q I k⟩
end
end Sg

set_option maxRecDepth 100000
set_option maxHeartbeats 16000000
namespace Sg
open PySem PySem.Spec PyProof.Rows L2 Dr Gd Er Cm Ow
abbrev sWritten : Stmt := top 43
structure Cs8 where
  ps : List (Str × Int)
  row : List Str
  lots : List Str
  s : PyData
  t : PyData
  due : Bool
def pS8 : List (Str × Int) := [("plus", 2), ("s", 1), ("zero", 0)]
def pF8 : List (Str × Int) := [("f", 2), ("g", 1), ("a", 0), ("b", 0)]
def pC8 : List (Str × Int) := [("f", 3), ("a", 0), ("b", 0)]
def low8 : List Str := ["f", "g", "a", "b"]
def up8 : List Str := ["b", "a", "g", "f"]
def w8_0 : Cs8 := ⟨pS8, ["plus", "s", "zero"], [], (.tuple [.str "plus", (.tuple [.str "s", (.str "X")]), (.str "Y")]), (.tuple [.str "s", (.tuple [.str "plus", (.str "X"), (.str "Y")])]), true⟩
def w8_1 : Cs8 := ⟨pS8, ["s", "plus", "zero"], [], (.tuple [.str "plus", (.tuple [.str "s", (.str "X")]), (.str "Y")]), (.tuple [.str "s", (.tuple [.str "plus", (.str "X"), (.str "Y")])]), false⟩
def w8_2 : Cs8 := ⟨pS8, ["plus", "s", "zero"], [], (.tuple [.str "plus", (.str "X"), (.tuple [.str "s", (.str "Y")])]), (.tuple [.str "plus", (.tuple [.str "s", (.str "X")]), (.str "Y")]), false⟩
def w8_3 : Cs8 := ⟨pF8, low8, ["f"], (.tuple [.str "f", (.str "X"), (.tuple [.str "g", (.str "Y")])]), (.tuple [.str "f", (.str "Y"), (.str "X")]), true⟩
def w8_4 : Cs8 := ⟨pF8, low8, [], (.tuple [.str "f", (.str "X"), (.tuple [.str "g", (.str "Y")])]), (.tuple [.str "f", (.str "Y"), (.str "X")]), false⟩
def w8_5 : Cs8 := ⟨pF8, low8, [], (.tuple [.str "f", (.tuple [.str "g", (.str "X")]), (.str "Y")]), (.tuple [.str "f", (.str "X"), (.tuple [.str "g", (.str "Y")])]), true⟩
def w8_6 : Cs8 := ⟨pF8, low8, ["f"], (.tuple [.str "f", (.tuple [.str "g", (.str "X")]), (.str "Y")]), (.tuple [.str "f", (.str "X"), (.tuple [.str "g", (.str "Y")])]), false⟩
def w8_7 : Cs8 := ⟨pF8, low8, ["f"], (.tuple [.str "f", (.tuple [.str "a"]), (.tuple [.str "b"])]), (.tuple [.str "f", (.tuple [.str "b"]), (.tuple [.str "a"])]), false⟩
def w8_8 : Cs8 := ⟨pF8, low8, [], (.tuple [.str "f", (.tuple [.str "a"]), (.tuple [.str "b"])]), (.tuple [.str "f", (.tuple [.str "b"]), (.tuple [.str "a"])]), true⟩
def w8_9 : Cs8 := ⟨pF8, up8, [], (.tuple [.str "f", (.tuple [.str "a"]), (.tuple [.str "b"])]), (.tuple [.str "f", (.tuple [.str "b"]), (.tuple [.str "a"])]), false⟩
def w8_10 : Cs8 := ⟨pF8, up8, [], (.tuple [.str "a"]), (.tuple [.str "g", (.tuple [.str "g", (.tuple [.str "f", (.tuple [.str "a"]), (.tuple [.str "a"])])])]), false⟩
def w8_11 : Cs8 := ⟨pF8, up8, [], (.tuple [.str "b"]), (.tuple [.str "g", (.tuple [.str "g", (.tuple [.str "f", (.tuple [.str "a"]), (.tuple [.str "a"])])])]), true⟩
def w8_12 : Cs8 := ⟨pF8, low8, ["f"], (.tuple [.str "f", (.tuple [.str "a"]), (.tuple [.str "a"])]), (.tuple [.str "f", (.tuple [.str "a"]), (.tuple [.str "b"])]), true⟩
def w8_13 : Cs8 := ⟨pF8, low8, ["f"], (.tuple [.str "f", (.tuple [.str "f", (.str "X"), (.str "Y")]), (.str "X")]), (.tuple [.str "f", (.str "Y"), (.tuple [.str "f", (.str "X"), (.str "X")])]), false⟩
def w8_14 : Cs8 := ⟨pC8, ["f", "a", "b"], ["f"], (.tuple [.str "f", (.tuple [.str "a"]), (.str "X"), (.tuple [.str "b"])]), (.tuple [.str "f", (.tuple [.str "b"]), (.tuple [.str "b"]), (.str "X")]), true⟩
def w8_15 : Cs8 := ⟨pC8, ["f", "a", "b"], ["f"], (.tuple [.str "f", (.tuple [.str "a"]), (.tuple [.str "a"]), (.str "X")]), (.tuple [.str "f", (.str "X"), (.tuple [.str "a"]), (.tuple [.str "a"])]), false⟩
def w8_16 : Cs8 := ⟨pC8, ["f", "a", "b"], [], (.tuple [.str "f", (.str "X"), (.tuple [.str "a"]), (.str "Y")]), (.tuple [.str "f", (.str "X"), (.tuple [.str "b"]), (.tuple [.str "f", (.str "X"), (.str "X"), (.str "X")])]), false⟩
def w8_17 : Cs8 := ⟨pC8, ["f", "a", "b"], [], (.tuple [.str "f", (.str "X"), (.tuple [.str "a"]), (.str "Y")]), (.tuple [.str "f", (.str "X"), (.tuple [.str "b"]), (.tuple [.str "b"])]), true⟩
def w8_18 : Cs8 := ⟨pF8, low8, [], (.str "X"), (.str "Y"), false⟩
def w8_19 : Cs8 := ⟨pF8, low8, [], (.tuple [.str "g", (.str "X")]), (.str "X"), true⟩
def w8_20 : Cs8 := ⟨pF8, low8, [], (.tuple [.str "g", (.str "X")]), (.str "Y"), false⟩
def cs8D (c : Cs8) : PyData := .tuple [psD c.ps, nmL c.row, nmL c.lots, c.s, c.t, .bool c.due]
def wr8 : List Cs8 := [w8_0, w8_1, w8_2, w8_3, w8_4, w8_5, w8_6, w8_7, w8_8, w8_9, w8_10, w8_11, w8_12, w8_13, w8_14, w8_15, w8_16, w8_17, w8_18, w8_19, w8_20]
def spWritten (K : PySem.W.Frag) : Sp := fun vs H Q _ => vs = [] ∧ ∀ p us H', Same H H' → H p = none → H' p = some (.lst us) → DpAll K (nw H H') us (wr8.map cs8D) → Q (.ref p) H'
def c8 (K : PySem.W.Frag) : L2.St → Hp → Prop := fun σ Z => σ[0]? = some (some (.str "X")) ∧ σ[1]? = some (some (.str "Y")) ∧ (∃ v, σ[2]? = some (some v) ∧ Dp K Z v (psD pS8)) ∧ (∃ v, σ[3]? = some (some v) ∧ Dp K Z v (psD pF8)) ∧ (∃ v, σ[4]? = some (some v) ∧ Dp K Z v (psD pC8)) ∧
  (∃ v, σ[5]? = some (some v) ∧ Dp K Z v (nmL low8)) ∧ ∃ v, σ[6]? = some (some v) ∧ Dp K Z v (nmL up8)
theorem c8_env (K : PySem.W.Frag) : EnvQ (c8 K) := ⟨fun σ Z Z' s ⟨h0, h1, ⟨v2, a2, b2⟩, ⟨v3, a3, b3⟩, ⟨v4, a4, b4⟩, ⟨v5, a5, b5⟩, v6, a6, b6⟩ => ⟨h0, h1, ⟨v2, a2, dp_same s _ _ b2⟩, ⟨v3, a3, dp_same s _ _ b3⟩, ⟨v4, a4, dp_same s _ _ b4⟩, ⟨v5, a5, dp_same s _ _ b5⟩, v6, a6, dp_same s _ _ b6⟩⟩
section
variable {P : Program} {w : World} {K : PySem.W.Frag} {mg : Str → Option Value} {base : Heap}
theorem scWr : FnScope ["x", "y", "sums", "f", "c", "low", "up", "found"] [] (defScope sWritten) := ⟨rfl, rfl, rfl, by decide +kernel, rfl, by decide +kernel, by decide +kernel⟩
theorem app8 {σ : L2.St} {H0 H : Hp} {l : Addr} {us : List V} {ds : List PyData} {d : PyData} {Q : VK} (h7 : σ[7]? = some (some (.ref l))) (s0 : Same H0 H) (l0 : H0 l = none) (hl : H l = some (.lst us)) (hd : DpAll K (L2.del (nw H0 H) l) us ds) (hz : ds.length ≤ 1000) (hc : c8 K σ (L2.del (nw H0 H) l))
    (h : ∀ us' H', Same H0 H' → H' l = some (.lst us') → DpAll K (L2.del (nw H0 H') l) us' (ds ++ [d]) → c8 K σ (L2.del (nw H0 H') l) → Q .non H') : tBM K "list" rAppend (tVar 7) (tCons (tDvE K (c8 K) d) tNil) σ H Q := by
  refine ⟨_, h7, .inl ⟨rfl, _, SqL.of hl⟩, _, zmo_del H0 l, zok_del s0 hl, hc, fun v H1 s1 hv => ⟨l, us, v, rfl, rfl, s1 _ _ hl, by rw [dpAll_len hd]; exact Nat.lt_of_le_of_lt hz (by decide), ?_⟩⟩
  have e : L2.del (nw H0 (L2.upd H1 l (.lst (us ++ [v])))) l = L2.del (nw H0 H1) l := by
    funext b
    by_cases hb : b = l
    · rw [hb, del_same, del_same]
    · rw [del_ne hb, del_ne hb]
      unfold nw
      rw [upd_ne hb]
  have sl : Same (L2.del (nw H0 H) l) (L2.del (nw H0 H1) l) := (zmo_del H0 l).mo _ _ s1
  refine h _ _ (fun b o eb => ?_) upd_same ?_ ?_
  · rw [upd_ne (ne_of_none eb l0)]
    exact s1 _ _ (s0 _ _ eb)
  · rw [e]
    exact dpAll_app (dpAll_same sl _ _ hd) (.cons hv .nil)
  · rw [e]
    exact (c8_env K).st _ _ _ sl hc
theorem ok_written {f : Addr} {fd : FuncData} (F : Fun K "_law_written" "_law_written" sWritten f fd) : FnOk P w K mg base CX0 1 f fd [] (spWritten K) := by
  refine F.ok scWr (fun vs H Q E h => ?_) (fun cdv A outer s H vs Q E hr h => ?_)
  · obtain ⟨rfl, _⟩ := h
    rfl
  · obtain ⟨rfl, q⟩ := h
    have nd := scWr.nd
    refine ⟨_, pss_cons (ps_asg (pe_tup (pa_cons pe_str (pa_cons pe_str pa_nil))) (pg_tup rfl (pgs_cons (pg_name (i := 0) nd rfl (Or.inl rfl)) (pgs_cons (pg_name (i := 1) nd rfl (Or.inl rfl)) pgs_nil))))
      (pss_cons (ps_par (i := 2) (j := 3) (ta := taDat K (fun _ => True) [psD pS8, psD pF8]) (by rfl) nd rfl rfl (by decide) rfl rfl (by repeat (first | exact pd_int | exact pd_str | exact pd_nil | refine pd_cons ?_ ?_ | refine pd_lst ?_ (by decide) | refine pd_tup ?_ (by decide))) (by rfl))
      (pss_cons (ps_set (i := 4) (te := tDat K (fun _ => True) (psD pC8)) nd rfl (Or.inl rfl) (by repeat (first | exact pd_int | exact pd_str | exact pd_nil | refine pd_cons ?_ ?_ | refine pd_lst ?_ (by decide) | refine pd_tup ?_ (by decide))))
      (pss_cons (ps_par (i := 5) (j := 6) (ta := taDat K (fun _ => True) [nmL low8, nmL up8]) (by rfl) nd rfl rfl (by decide) rfl rfl (by repeat (first | exact pd_int | exact pd_str | exact pd_nil | refine pd_cons ?_ ?_ | refine pd_lst ?_ (by decide) | refine pd_tup ?_ (by decide))) (by rfl))
      (pss_cons (ps_set (i := 7) (te := tDvLE K (c8 K) [cs8D w8_0]) nd rfl (Or.inl rfl) (qd_exL fun Z M => qd_lstL (by repeat (first | exact qd_str | exact qd_bl | exact qd_int | exact qd_nil | exact qd_var (pv 0) (fun _ _ h => ⟨_, h.1, .str _⟩) | exact qd_var (pv 1) (fun _ _ h => ⟨_, h.2.1, .str _⟩) | exact qd_var (pv 2) (fun _ _ h => h.2.2.1) | exact qd_var (pv 3) (fun _ _ h => h.2.2.2.1) | exact qd_var (pv 4) (fun _ _ h => h.2.2.2.2.1) | exact qd_var (pv 5) (fun _ _ h => h.2.2.2.2.2.1) | exact qd_var (pv 6) (fun _ _ h => h.2.2.2.2.2.2) | refine qd_cons M (c8_env K) ?_ ?_ | refine qd_lst M ?_ (by decide) | refine qd_tup M ?_ (by decide))) (by decide)))
      (pss_cons (ps_expr (pe_bm PySem.F.plainAttrs_list PySem.F.slot_list_append PySem.F.type_list_append mt_append (pv 7) (pa_cons (qd_ex (d := cs8D w8_1) (c := c8 K) fun Z M => (by repeat (first | exact qd_str | exact qd_bl | exact qd_int | exact qd_nil | exact qd_var (pv 0) (fun _ _ h => ⟨_, h.1, .str _⟩) | exact qd_var (pv 1) (fun _ _ h => ⟨_, h.2.1, .str _⟩) | exact qd_var (pv 2) (fun _ _ h => h.2.2.1) | exact qd_var (pv 3) (fun _ _ h => h.2.2.2.1) | exact qd_var (pv 4) (fun _ _ h => h.2.2.2.2.1) | exact qd_var (pv 5) (fun _ _ h => h.2.2.2.2.2.1) | exact qd_var (pv 6) (fun _ _ h => h.2.2.2.2.2.2) | refine qd_cons M (c8_env K) ?_ ?_ | refine qd_lst M ?_ (by decide) | refine qd_tup M ?_ (by decide)))) pa_nil)))
      (pss_cons (ps_expr (pe_bm PySem.F.plainAttrs_list PySem.F.slot_list_append PySem.F.type_list_append mt_append (pv 7) (pa_cons (qd_ex (d := cs8D w8_2) (c := c8 K) fun Z M => (by repeat (first | exact qd_str | exact qd_bl | exact qd_int | exact qd_nil | exact qd_var (pv 0) (fun _ _ h => ⟨_, h.1, .str _⟩) | exact qd_var (pv 1) (fun _ _ h => ⟨_, h.2.1, .str _⟩) | exact qd_var (pv 2) (fun _ _ h => h.2.2.1) | exact qd_var (pv 3) (fun _ _ h => h.2.2.2.1) | exact qd_var (pv 4) (fun _ _ h => h.2.2.2.2.1) | exact qd_var (pv 5) (fun _ _ h => h.2.2.2.2.2.1) | exact qd_var (pv 6) (fun _ _ h => h.2.2.2.2.2.2) | refine qd_cons M (c8_env K) ?_ ?_ | refine qd_lst M ?_ (by decide) | refine qd_tup M ?_ (by decide)))) pa_nil)))
      (pss_cons (ps_expr (pe_bm PySem.F.plainAttrs_list PySem.F.slot_list_append PySem.F.type_list_append mt_append (pv 7) (pa_cons (qd_ex (d := cs8D w8_3) (c := c8 K) fun Z M => (by repeat (first | exact qd_str | exact qd_bl | exact qd_int | exact qd_nil | exact qd_var (pv 0) (fun _ _ h => ⟨_, h.1, .str _⟩) | exact qd_var (pv 1) (fun _ _ h => ⟨_, h.2.1, .str _⟩) | exact qd_var (pv 2) (fun _ _ h => h.2.2.1) | exact qd_var (pv 3) (fun _ _ h => h.2.2.2.1) | exact qd_var (pv 4) (fun _ _ h => h.2.2.2.2.1) | exact qd_var (pv 5) (fun _ _ h => h.2.2.2.2.2.1) | exact qd_var (pv 6) (fun _ _ h => h.2.2.2.2.2.2) | refine qd_cons M (c8_env K) ?_ ?_ | refine qd_lst M ?_ (by decide) | refine qd_tup M ?_ (by decide)))) pa_nil)))
      (pss_cons (ps_expr (pe_bm PySem.F.plainAttrs_list PySem.F.slot_list_append PySem.F.type_list_append mt_append (pv 7) (pa_cons (qd_ex (d := cs8D w8_4) (c := c8 K) fun Z M => (by repeat (first | exact qd_str | exact qd_bl | exact qd_int | exact qd_nil | exact qd_var (pv 0) (fun _ _ h => ⟨_, h.1, .str _⟩) | exact qd_var (pv 1) (fun _ _ h => ⟨_, h.2.1, .str _⟩) | exact qd_var (pv 2) (fun _ _ h => h.2.2.1) | exact qd_var (pv 3) (fun _ _ h => h.2.2.2.1) | exact qd_var (pv 4) (fun _ _ h => h.2.2.2.2.1) | exact qd_var (pv 5) (fun _ _ h => h.2.2.2.2.2.1) | exact qd_var (pv 6) (fun _ _ h => h.2.2.2.2.2.2) | refine qd_cons M (c8_env K) ?_ ?_ | refine qd_lst M ?_ (by decide) | refine qd_tup M ?_ (by decide)))) pa_nil)))
      (pss_cons (ps_expr (pe_bm PySem.F.plainAttrs_list PySem.F.slot_list_append PySem.F.type_list_append mt_append (pv 7) (pa_cons (qd_ex (d := cs8D w8_5) (c := c8 K) fun Z M => (by repeat (first | exact qd_str | exact qd_bl | exact qd_int | exact qd_nil | exact qd_var (pv 0) (fun _ _ h => ⟨_, h.1, .str _⟩) | exact qd_var (pv 1) (fun _ _ h => ⟨_, h.2.1, .str _⟩) | exact qd_var (pv 2) (fun _ _ h => h.2.2.1) | exact qd_var (pv 3) (fun _ _ h => h.2.2.2.1) | exact qd_var (pv 4) (fun _ _ h => h.2.2.2.2.1) | exact qd_var (pv 5) (fun _ _ h => h.2.2.2.2.2.1) | exact qd_var (pv 6) (fun _ _ h => h.2.2.2.2.2.2) | refine qd_cons M (c8_env K) ?_ ?_ | refine qd_lst M ?_ (by decide) | refine qd_tup M ?_ (by decide)))) pa_nil)))
      (pss_cons (ps_expr (pe_bm PySem.F.plainAttrs_list PySem.F.slot_list_append PySem.F.type_list_append mt_append (pv 7) (pa_cons (qd_ex (d := cs8D w8_6) (c := c8 K) fun Z M => (by repeat (first | exact qd_str | exact qd_bl | exact qd_int | exact qd_nil | exact qd_var (pv 0) (fun _ _ h => ⟨_, h.1, .str _⟩) | exact qd_var (pv 1) (fun _ _ h => ⟨_, h.2.1, .str _⟩) | exact qd_var (pv 2) (fun _ _ h => h.2.2.1) | exact qd_var (pv 3) (fun _ _ h => h.2.2.2.1) | exact qd_var (pv 4) (fun _ _ h => h.2.2.2.2.1) | exact qd_var (pv 5) (fun _ _ h => h.2.2.2.2.2.1) | exact qd_var (pv 6) (fun _ _ h => h.2.2.2.2.2.2) | refine qd_cons M (c8_env K) ?_ ?_ | refine qd_lst M ?_ (by decide) | refine qd_tup M ?_ (by decide)))) pa_nil)))
      (pss_cons (ps_expr (pe_bm PySem.F.plainAttrs_list PySem.F.slot_list_append PySem.F.type_list_append mt_append (pv 7) (pa_cons (qd_ex (d := cs8D w8_7) (c := c8 K) fun Z M => (by repeat (first | exact qd_str | exact qd_bl | exact qd_int | exact qd_nil | exact qd_var (pv 0) (fun _ _ h => ⟨_, h.1, .str _⟩) | exact qd_var (pv 1) (fun _ _ h => ⟨_, h.2.1, .str _⟩) | exact qd_var (pv 2) (fun _ _ h => h.2.2.1) | exact qd_var (pv 3) (fun _ _ h => h.2.2.2.1) | exact qd_var (pv 4) (fun _ _ h => h.2.2.2.2.1) | exact qd_var (pv 5) (fun _ _ h => h.2.2.2.2.2.1) | exact qd_var (pv 6) (fun _ _ h => h.2.2.2.2.2.2) | refine qd_cons M (c8_env K) ?_ ?_ | refine qd_lst M ?_ (by decide) | refine qd_tup M ?_ (by decide)))) pa_nil)))
      (pss_cons (ps_expr (pe_bm PySem.F.plainAttrs_list PySem.F.slot_list_append PySem.F.type_list_append mt_append (pv 7) (pa_cons (qd_ex (d := cs8D w8_8) (c := c8 K) fun Z M => (by repeat (first | exact qd_str | exact qd_bl | exact qd_int | exact qd_nil | exact qd_var (pv 0) (fun _ _ h => ⟨_, h.1, .str _⟩) | exact qd_var (pv 1) (fun _ _ h => ⟨_, h.2.1, .str _⟩) | exact qd_var (pv 2) (fun _ _ h => h.2.2.1) | exact qd_var (pv 3) (fun _ _ h => h.2.2.2.1) | exact qd_var (pv 4) (fun _ _ h => h.2.2.2.2.1) | exact qd_var (pv 5) (fun _ _ h => h.2.2.2.2.2.1) | exact qd_var (pv 6) (fun _ _ h => h.2.2.2.2.2.2) | refine qd_cons M (c8_env K) ?_ ?_ | refine qd_lst M ?_ (by decide) | refine qd_tup M ?_ (by decide)))) pa_nil)))
      (pss_cons (ps_expr (pe_bm PySem.F.plainAttrs_list PySem.F.slot_list_append PySem.F.type_list_append mt_append (pv 7) (pa_cons (qd_ex (d := cs8D w8_9) (c := c8 K) fun Z M => (by repeat (first | exact qd_str | exact qd_bl | exact qd_int | exact qd_nil | exact qd_var (pv 0) (fun _ _ h => ⟨_, h.1, .str _⟩) | exact qd_var (pv 1) (fun _ _ h => ⟨_, h.2.1, .str _⟩) | exact qd_var (pv 2) (fun _ _ h => h.2.2.1) | exact qd_var (pv 3) (fun _ _ h => h.2.2.2.1) | exact qd_var (pv 4) (fun _ _ h => h.2.2.2.2.1) | exact qd_var (pv 5) (fun _ _ h => h.2.2.2.2.2.1) | exact qd_var (pv 6) (fun _ _ h => h.2.2.2.2.2.2) | refine qd_cons M (c8_env K) ?_ ?_ | refine qd_lst M ?_ (by decide) | refine qd_tup M ?_ (by decide)))) pa_nil)))
      (pss_cons (ps_expr (pe_bm PySem.F.plainAttrs_list PySem.F.slot_list_append PySem.F.type_list_append mt_append (pv 7) (pa_cons (qd_ex (d := cs8D w8_10) (c := c8 K) fun Z M => (by repeat (first | exact qd_str | exact qd_bl | exact qd_int | exact qd_nil | exact qd_var (pv 0) (fun _ _ h => ⟨_, h.1, .str _⟩) | exact qd_var (pv 1) (fun _ _ h => ⟨_, h.2.1, .str _⟩) | exact qd_var (pv 2) (fun _ _ h => h.2.2.1) | exact qd_var (pv 3) (fun _ _ h => h.2.2.2.1) | exact qd_var (pv 4) (fun _ _ h => h.2.2.2.2.1) | exact qd_var (pv 5) (fun _ _ h => h.2.2.2.2.2.1) | exact qd_var (pv 6) (fun _ _ h => h.2.2.2.2.2.2) | refine qd_cons M (c8_env K) ?_ ?_ | refine qd_lst M ?_ (by decide) | refine qd_tup M ?_ (by decide)))) pa_nil)))
      (pss_cons (ps_expr (pe_bm PySem.F.plainAttrs_list PySem.F.slot_list_append PySem.F.type_list_append mt_append (pv 7) (pa_cons (qd_ex (d := cs8D w8_11) (c := c8 K) fun Z M => (by repeat (first | exact qd_str | exact qd_bl | exact qd_int | exact qd_nil | exact qd_var (pv 0) (fun _ _ h => ⟨_, h.1, .str _⟩) | exact qd_var (pv 1) (fun _ _ h => ⟨_, h.2.1, .str _⟩) | exact qd_var (pv 2) (fun _ _ h => h.2.2.1) | exact qd_var (pv 3) (fun _ _ h => h.2.2.2.1) | exact qd_var (pv 4) (fun _ _ h => h.2.2.2.2.1) | exact qd_var (pv 5) (fun _ _ h => h.2.2.2.2.2.1) | exact qd_var (pv 6) (fun _ _ h => h.2.2.2.2.2.2) | refine qd_cons M (c8_env K) ?_ ?_ | refine qd_lst M ?_ (by decide) | refine qd_tup M ?_ (by decide)))) pa_nil)))
      (pss_cons (ps_expr (pe_bm PySem.F.plainAttrs_list PySem.F.slot_list_append PySem.F.type_list_append mt_append (pv 7) (pa_cons (qd_ex (d := cs8D w8_12) (c := c8 K) fun Z M => (by repeat (first | exact qd_str | exact qd_bl | exact qd_int | exact qd_nil | exact qd_var (pv 0) (fun _ _ h => ⟨_, h.1, .str _⟩) | exact qd_var (pv 1) (fun _ _ h => ⟨_, h.2.1, .str _⟩) | exact qd_var (pv 2) (fun _ _ h => h.2.2.1) | exact qd_var (pv 3) (fun _ _ h => h.2.2.2.1) | exact qd_var (pv 4) (fun _ _ h => h.2.2.2.2.1) | exact qd_var (pv 5) (fun _ _ h => h.2.2.2.2.2.1) | exact qd_var (pv 6) (fun _ _ h => h.2.2.2.2.2.2) | refine qd_cons M (c8_env K) ?_ ?_ | refine qd_lst M ?_ (by decide) | refine qd_tup M ?_ (by decide)))) pa_nil)))
      (pss_cons (ps_expr (pe_bm PySem.F.plainAttrs_list PySem.F.slot_list_append PySem.F.type_list_append mt_append (pv 7) (pa_cons (qd_ex (d := cs8D w8_13) (c := c8 K) fun Z M => (by repeat (first | exact qd_str | exact qd_bl | exact qd_int | exact qd_nil | exact qd_var (pv 0) (fun _ _ h => ⟨_, h.1, .str _⟩) | exact qd_var (pv 1) (fun _ _ h => ⟨_, h.2.1, .str _⟩) | exact qd_var (pv 2) (fun _ _ h => h.2.2.1) | exact qd_var (pv 3) (fun _ _ h => h.2.2.2.1) | exact qd_var (pv 4) (fun _ _ h => h.2.2.2.2.1) | exact qd_var (pv 5) (fun _ _ h => h.2.2.2.2.2.1) | exact qd_var (pv 6) (fun _ _ h => h.2.2.2.2.2.2) | refine qd_cons M (c8_env K) ?_ ?_ | refine qd_lst M ?_ (by decide) | refine qd_tup M ?_ (by decide)))) pa_nil)))
      (pss_cons (ps_expr (pe_bm PySem.F.plainAttrs_list PySem.F.slot_list_append PySem.F.type_list_append mt_append (pv 7) (pa_cons (qd_ex (d := cs8D w8_14) (c := c8 K) fun Z M => (by repeat (first | exact qd_str | exact qd_bl | exact qd_int | exact qd_nil | exact qd_var (pv 0) (fun _ _ h => ⟨_, h.1, .str _⟩) | exact qd_var (pv 1) (fun _ _ h => ⟨_, h.2.1, .str _⟩) | exact qd_var (pv 2) (fun _ _ h => h.2.2.1) | exact qd_var (pv 3) (fun _ _ h => h.2.2.2.1) | exact qd_var (pv 4) (fun _ _ h => h.2.2.2.2.1) | exact qd_var (pv 5) (fun _ _ h => h.2.2.2.2.2.1) | exact qd_var (pv 6) (fun _ _ h => h.2.2.2.2.2.2) | refine qd_cons M (c8_env K) ?_ ?_ | refine qd_lst M ?_ (by decide) | refine qd_tup M ?_ (by decide)))) pa_nil)))
      (pss_cons (ps_expr (pe_bm PySem.F.plainAttrs_list PySem.F.slot_list_append PySem.F.type_list_append mt_append (pv 7) (pa_cons (qd_ex (d := cs8D w8_15) (c := c8 K) fun Z M => (by repeat (first | exact qd_str | exact qd_bl | exact qd_int | exact qd_nil | exact qd_var (pv 0) (fun _ _ h => ⟨_, h.1, .str _⟩) | exact qd_var (pv 1) (fun _ _ h => ⟨_, h.2.1, .str _⟩) | exact qd_var (pv 2) (fun _ _ h => h.2.2.1) | exact qd_var (pv 3) (fun _ _ h => h.2.2.2.1) | exact qd_var (pv 4) (fun _ _ h => h.2.2.2.2.1) | exact qd_var (pv 5) (fun _ _ h => h.2.2.2.2.2.1) | exact qd_var (pv 6) (fun _ _ h => h.2.2.2.2.2.2) | refine qd_cons M (c8_env K) ?_ ?_ | refine qd_lst M ?_ (by decide) | refine qd_tup M ?_ (by decide)))) pa_nil)))
      (pss_cons (ps_expr (pe_bm PySem.F.plainAttrs_list PySem.F.slot_list_append PySem.F.type_list_append mt_append (pv 7) (pa_cons (qd_ex (d := cs8D w8_16) (c := c8 K) fun Z M => (by repeat (first | exact qd_str | exact qd_bl | exact qd_int | exact qd_nil | exact qd_var (pv 0) (fun _ _ h => ⟨_, h.1, .str _⟩) | exact qd_var (pv 1) (fun _ _ h => ⟨_, h.2.1, .str _⟩) | exact qd_var (pv 2) (fun _ _ h => h.2.2.1) | exact qd_var (pv 3) (fun _ _ h => h.2.2.2.1) | exact qd_var (pv 4) (fun _ _ h => h.2.2.2.2.1) | exact qd_var (pv 5) (fun _ _ h => h.2.2.2.2.2.1) | exact qd_var (pv 6) (fun _ _ h => h.2.2.2.2.2.2) | refine qd_cons M (c8_env K) ?_ ?_ | refine qd_lst M ?_ (by decide) | refine qd_tup M ?_ (by decide)))) pa_nil)))
      (pss_cons (ps_expr (pe_bm PySem.F.plainAttrs_list PySem.F.slot_list_append PySem.F.type_list_append mt_append (pv 7) (pa_cons (qd_ex (d := cs8D w8_17) (c := c8 K) fun Z M => (by repeat (first | exact qd_str | exact qd_bl | exact qd_int | exact qd_nil | exact qd_var (pv 0) (fun _ _ h => ⟨_, h.1, .str _⟩) | exact qd_var (pv 1) (fun _ _ h => ⟨_, h.2.1, .str _⟩) | exact qd_var (pv 2) (fun _ _ h => h.2.2.1) | exact qd_var (pv 3) (fun _ _ h => h.2.2.2.1) | exact qd_var (pv 4) (fun _ _ h => h.2.2.2.2.1) | exact qd_var (pv 5) (fun _ _ h => h.2.2.2.2.2.1) | exact qd_var (pv 6) (fun _ _ h => h.2.2.2.2.2.2) | refine qd_cons M (c8_env K) ?_ ?_ | refine qd_lst M ?_ (by decide) | refine qd_tup M ?_ (by decide)))) pa_nil)))
      (pss_one (ps_ret (te := tOp rCat (tVar 7) (tDvLE K (c8 K) [cs8D w8_18, cs8D w8_19, cs8D w8_20])) (pe_op op_cat (pv 7) (qd_exL fun Z M => qd_lstL (by repeat (first | exact qd_str | exact qd_bl | exact qd_int | exact qd_nil | exact qd_var (pv 0) (fun _ _ h => ⟨_, h.1, .str _⟩) | exact qd_var (pv 1) (fun _ _ h => ⟨_, h.2.1, .str _⟩) | exact qd_var (pv 2) (fun _ _ h => h.2.2.1) | exact qd_var (pv 3) (fun _ _ h => h.2.2.2.1) | exact qd_var (pv 4) (fun _ _ h => h.2.2.2.2.1) | exact qd_var (pv 5) (fun _ _ h => h.2.2.2.2.2.1) | exact qd_var (pv 6) (fun _ _ h => h.2.2.2.2.2.2) | refine qd_cons M (c8_env K) ?_ ?_ | refine qd_lst M ?_ (by decide) | refine qd_tup M ?_ (by decide))) (by decide)))))))))))))))))))))))))), ?_⟩
    refine ⟨(by show 2 ≤ sizeLine; decide), fun t0 ht0 => ?_⟩
    have s0 := same_upd (o := .tup [.str "X", .str "Y"]) ht0
    have e0 : (L2.upd H t0 (.tup [.str "X", .str "Y"])) t0 = some (.tup [.str "X", .str "Y"]) := upd_same
    generalize (L2.upd H t0 (.tup [.str "X", .str "Y"])) = H1 at s0 e0 ⊢
    refine ⟨t0, _, rfl, SqT.of e0, rfl, ?_⟩
    refine ⟨_, _, rfl, _, _, rfl, rfl, ?_⟩
    refine ⟨trivial, fun vs H2 s2 hd2 => ?_⟩
    cases hd2 with
    | cons a1 b1 => cases b1 with
      | cons a2 b2 =>
        cases b2
        refine ⟨_, _, rfl, ?_⟩
        refine ⟨trivial, fun v3 H3 s3 hd3 => ?_⟩
        refine ⟨trivial, fun vs4 H4 s4 hd4 => ?_⟩
        cases hd4 with
        | cons a3 b3 => cases b3 with
          | cons a4 b4 =>
            cases b4
            rename_i w2 w3 w5 w6
            refine ⟨_, _, rfl, ?_⟩
            have s02 := Same.trans s0 s2
            have s03 := Same.trans s02 s3
            have s04 := Same.trans s03 s4
            have z2 : Same (nw H1 H2) (nw H H4) := Same.trans (nw_r s0) (nw_l (Same.trans s3 s4))
            have z3 : Same (nw H2 H3) (nw H H4) := Same.trans (nw_r s02) (nw_l s4)
            have z4 : Same (nw H3 H4) (nw H H4) := nw_r s03
            have hc : c8 K [some (.str "X"), some (.str "Y"), some _, some _, some _, some _, some _, none] (nw H H4) := ⟨rfl, rfl, ⟨_, rfl, dp_same z2 _ _ a1⟩, ⟨_, rfl, dp_same z2 _ _ a2⟩, ⟨_, rfl, dp_same z3 _ _ hd3⟩, ⟨_, rfl, dp_same z4 _ _ a3⟩, ⟨_, rfl, dp_same z4 _ _ a4⟩⟩
            refine ⟨nw H, zmo_nw H, zok_nw s04, hc, fun l us H5 H6 s5 hl e6 hd => ?_⟩
            subst e6
            have s05 := Same.trans s04 s5
            have l0 : H l = none := Same.free s05 hl
            have sl := same_upd (o := .lst us) hl
            have s06 := Same.trans s05 sl
            have nd6 : Same (nw H H5) (L2.del (nw H (L2.upd H5 l (.lst us))) l) := fun b o e => by
              have bl : b ≠ l := fun z => by
                have := (nw_inv e).2
                rw [z, hl] at this
                cases this
              rw [del_ne bl]
              exact nw_l sl _ _ e
            have hd6 := dpAll_same nd6 _ _ hd
            have hc6 : c8 K [some (.str "X"), some (.str "Y"), some w2, some w3, some v3, some w5, some w6, some (.ref l)] (L2.del (nw H (L2.upd H5 l (.lst us))) l) := by
              obtain ⟨g1, g2, g3, g4, g5, g6, g7⟩ := (c8_env K).st _ _ _ (Same.trans (nw_l s5) nd6) hc
              exact ⟨g1, g2, g3, g4, g5, g6, g7⟩
            have e6 : (L2.upd H5 l (.lst us)) l = some (.lst us) := upd_same
            generalize (L2.upd H5 l (.lst us)) = G0 at s06 e6 hd6 hc6 ⊢
            have e0 := e6; have k0 := hd6; have m0 := hc6; have r0 := s06
            refine app8 rfl r0 l0 e0 k0 (by decide) m0 (fun us1 G1 r1 e1 k1 m1 => ?_)
            refine app8 rfl r1 l0 e1 k1 (by decide) m1 (fun us2 G2 r2 e2 k2 m2 => ?_)
            refine app8 rfl r2 l0 e2 k2 (by decide) m2 (fun us3 G3 r3 e3 k3 m3 => ?_)
            refine app8 rfl r3 l0 e3 k3 (by decide) m3 (fun us4 G4 r4 e4 k4 m4 => ?_)
            refine app8 rfl r4 l0 e4 k4 (by decide) m4 (fun us5 G5 r5 e5 k5 m5 => ?_)
            refine app8 rfl r5 l0 e5 k5 (by decide) m5 (fun us6 G6 r6 e6 k6 m6 => ?_)
            refine app8 rfl r6 l0 e6 k6 (by decide) m6 (fun us7 G7 r7 e7 k7 m7 => ?_)
            refine app8 rfl r7 l0 e7 k7 (by decide) m7 (fun us8 G8 r8 e8 k8 m8 => ?_)
            refine app8 rfl r8 l0 e8 k8 (by decide) m8 (fun us9 G9 r9 e9 k9 m9 => ?_)
            refine app8 rfl r9 l0 e9 k9 (by decide) m9 (fun us10 G10 r10 e10 k10 m10 => ?_)
            refine app8 rfl r10 l0 e10 k10 (by decide) m10 (fun us11 G11 r11 e11 k11 m11 => ?_)
            refine app8 rfl r11 l0 e11 k11 (by decide) m11 (fun us12 G12 r12 e12 k12 m12 => ?_)
            refine app8 rfl r12 l0 e12 k12 (by decide) m12 (fun us13 G13 r13 e13 k13 m13 => ?_)
            refine app8 rfl r13 l0 e13 k13 (by decide) m13 (fun us14 G14 r14 e14 k14 m14 => ?_)
            refine app8 rfl r14 l0 e14 k14 (by decide) m14 (fun us15 G15 r15 e15 k15 m15 => ?_)
            refine app8 rfl r15 l0 e15 k15 (by decide) m15 (fun us16 G16 r16 e16 k16 m16 => ?_)
            refine app8 rfl r16 l0 e16 k16 (by decide) m16 (fun us17 G17 r17 e17 k17 m17 => ?_)
            refine ⟨_, rfl, _, zmo_del H l, zok_del r17 e17, m17, fun p vs G G' sG hp eG hv => ?_⟩
            subst eG
            have sp := same_upd (o := .lst vs) hp
            have el := sp _ _ (sG _ _ e17)
            refine ⟨l, p, _, vs, rfl, rfl, el, upd_same, ?_, fun p2 hp2 => ?_⟩
            · rw [dpAll_len k17, dpAll_len hv]
              exact (by decide : 21 ≤ sizeLine)
            have s1 := Same.trans r17 (Same.trans sG sp)
            have s2 := same_upd (o := .lst (us17 ++ vs)) hp2
            refine q p2 _ _ (Same.trans s1 s2) (Same.free s1 hp2) upd_same ?_
            have y1 : Same (L2.del (nw H G) l) (nw H (L2.upd (L2.upd G p (.lst vs)) p2 (.lst (us17 ++ vs)))) := Same.trans del_sub (nw_l (Same.trans sp s2))
            exact dpAll_app (dpAll_same (Same.trans ((zmo_del H l).mo _ _ sG) y1) _ _ k17) (dpAll_same y1 _ _ hv)
end
end Sg

set_option maxRecDepth 100000
set_option maxHeartbeats 16000000
namespace Sg
open PySem PySem.Spec PyProof.Rows L2 Dr Gd Er Cm Ow CO TF XT
abbrev sTower : Stmt := top 44
structure OrdC (ps : List (Str × Int)) (row lots : List Str) : Prop where
  f : Fine ps
  r : rowOf ps (nmL row) = some row
  l : lotsOf ps (nmL lots) = some lots
  one : lots.length ≤ 1
  rn : row.Nodup
  rm : ∀ z ∈ nmsOf ps, z ∈ row
  ro : ∀ z ∈ row, PyData.strOk z = true
  lo : ∀ z ∈ lots, PyData.strOk z = true
  rl : row.length ≤ 100
def twoB (ps : List (Str × Int)) (d : PyData) : Bool := okN (wordIn Uc) d && decide (fsz d ≤ 2000) && isTerm ps d && okT d && decide (tsz d ≤ 5000)
section
variable {P : Program} {w : World} {K : PySem.W.Frag} {mg : Str → Option Value} {base : Heap} {cN cC cB cA cL eA eL C CO fi fo gC gS : Addr} {di do' dC dS : FuncData}
theorem sg_of {ps : List (Str × Int)} (h : Fine ps) : SgOk ps := ⟨h.2.1, h.2.2.1, fine_ok h⟩
theorem hand_of {l : List Str} (h : ∀ z ∈ l, PyData.strOk z = true) (hl : l.length ≤ 1000) : Hand (nmL l) := ⟨nmL_shaped h, fun ds e => by injection e with e; rw [← e, List.length_map]; exact hl⟩
theorem perm_one {l m : List Str} (h : l.Perm m) (hm : m.length ≤ 1) : l = m := by
  cases m with
  | nil => exact List.perm_nil.mp h
  | cons a r =>
    cases r with
    | nil => exact List.perm_singleton.mp h
    | cons b r => simp at hm
theorem mk_signs {H : Hp} {v : V} {ps : List (Str × Int)} {x dx : Addr} {Q : VK} {E : XK} (hd : Dp K H v (psD ps)) (hf : Fine ps) (hx : H x = none) (hdx : H dx = none) (q : ∀ H', Same H H' → SgAt C H' x ps → Q .non H') :
    spInit K cN cC cB C [.ref x, v] (L2.upd (L2.upd H dx (.own x)) x (.ins C dx [])) Q E := by
  have keep : Same H (L2.upd (L2.upd H dx (.own x)) x (.ins C dx [])) := fun b o e => by
    rw [upd_ne (ne_of_none e hx), upd_ne (ne_of_none e hdx)]
    exact e
  refine ⟨x, v, psD ps, dx, rfl, upd_same, dp_same keep _ _ hd, shorts_fine (fun q hq => (hf.2.2.2 q hq).1), ?_⟩
  rw [made_fine hf]
  intro H2 s2 hS2
  exact q H2 (same_ins hx hdx s2) hS2
theorem mk_order {H : Hp} {x ob dx2 : Addr} {v3 v4 : V} {ps : List (Str × Int)} {row lots : List Str} {Q : VK} {E : XK} (hS : SgAt C H x ps) (O : OrdC ps row lots) (e3 : Dp K H v3 (nmL row)) (e4 : Dp K H v4 (nmL lots)) (hob : H ob = none) (hdx2 : H dx2 = none)
    (q : ∀ H', Same H H' → OrAt K C CO H' ob x ps row lots → Q .non H') : spOInit K cA cL C CO [.ref ob, .ref x, v3, v4] (L2.upd (L2.upd H dx2 (.own ob)) ob (.ins CO dx2 [])) Q E := by
  have keep : Same H (L2.upd (L2.upd H dx2 (.own ob)) ob (.ins CO dx2 [])) := fun b o e => by
    rw [upd_ne (ne_of_none e hob), upd_ne (ne_of_none e hdx2)]
    exact e
  have l1 := O.one
  have l2 := O.rl
  refine ⟨ob, x, v3, nmL row, v4, nmL lots, dx2, ps, rfl, upd_same, hS.same keep, sg_of O.f, dp_same keep _ _ e3, dp_same keep _ _ e4, hand_of O.ro (by omega), hand_of O.lo (by omega), ?_⟩
  unfold OEnd
  rw [O.r, O.l]
  intro H5 ls s5 hpl hsl hO
  have e5 := perm_one hpl O.one
  subst e5
  exact q H5 (same_ins hob hdx2 s5) (hO.same nl_sub)
theorem mk_two {H : Hp} {o x : Addr} {ps : List (Str × Int)} {row lots : List Str} {v1 v2 : V} {d1 d2 : PyData} (hO : OrAt K C CO H o x ps row lots) (O : OrdC ps row lots) (h1 : Dp K H v1 d1) (h2 : Dp K H v2 d2) (b1 : twoB ps d1 = true) (b2 : twoB ps d2 = true) :
    Two K C CO (wordIn Uc) H o x ps row lots v1 d1 v2 d2 := by
  unfold twoB at b1 b2
  simp only [Bool.and_eq_true, decide_eq_true_eq] at b1 b2
  obtain ⟨⟨⟨⟨a1, a2⟩, a3⟩, a4⟩, a5⟩ := b1
  obtain ⟨⟨⟨⟨c1, c2⟩, c3⟩, c4⟩, c5⟩ := b2
  refine ⟨hO, O.rn, ?_, O.rl, Nat.le_trans O.one (by decide), O.rm, h1, a1, a2, a3, ⟨a4, a5⟩, h2, c1, c2, c3, ⟨c4, c5⟩⟩
  have := O.one
  cases lots with
  | nil => exact List.nodup_nil
  | cons a r => cases r with
    | nil => simp
    | cons b r => simp at this
structure MkO (P : Program) (w : World) (K : PySem.W.Frag) (mg : Str → Option Value) (base : Heap) (cA cL C CO fi : Addr) (di : FuncData) : Prop where
  mm : Mk K CO fi
  ok : FnOk P w K mg base (L2.CX P w) 3 fi di ["self", "signs", "names", "lots"] (spOInit K cA cL C CO)
  b : Binds K di ["self", "signs", "names", "lots"] []
  g : mg "Order" = some (.ref CO)
/-- the order as a function, and steps -/
structure OrCall (P : Program) (w : World) (K : PySem.W.Frag) (mg : Str → Option Value) (base : Heap) (C CO gC gS : Addr) (dC dS : FuncData) : Prop where
  c : StX.CallO K CO gC
  o : FnOk P w K mg base CX0 8 gC dC ["self", "s", "t"] (spOCallG K C CO (wordIn Uc))
  b : Binds K dC ["self", "s", "t"] []
  s : Cal P w K mg base CX0 8 "steps" gS dS ["order", "s", "t"] (spStepsG K C CO (wordIn Uc))
theorem scTw : FnScope ["signs", "made", "low", "turn", "high", "long", "some", "pair"] [] (defScope sTower) := ⟨rfl, rfl, rfl, by decide +kernel, rfl, by decide +kernel, by decide +kernel⟩
def pT8 : List (Str × Int) := [("g", 1), ("h", 1), ("a", 0)]
def rT8 : List Str := ["g", "h", "a"]
theorem oT8 : OrdC pT8 rT8 [] := ⟨by unfold Fine; decide +kernel, by decide +kernel, by decide +kernel, by decide, by decide +kernel, by decide +kernel, by decide +kernel, by decide +kernel, by decide⟩
-- example : abT low8 ["f"] w8_3.s w8_3.t = true := by decide +kernel
def chk8 (c : Cs8) : Bool := twoB c.ps c.s && twoB c.ps c.t && (abT c.row c.lots c.s c.t == c.due) && !abT c.row c.lots c.s c.s && !abT c.row c.lots c.t c.t && (!c.due || !abT c.row c.lots c.t c.s) && decide (szT (fsz c.t) (hgt c.s) ≤ 1000000)
theorem all8 : wr8.all chk8 = true := by decide +kernel
def lowT : Nat → PyData
  | 0 => .tuple [.str "a"]
  | n + 1 => .tuple [.str "h", lowT n]
def highT : PyData := .tuple [.str "g", .tuple [.str "a"]]
def longT : PyData := .tuple [.str "h", lowT 3]
def prsT : List (PyData × PyData) := [(highT, lowT 3), (longT, lowT 3), (.tuple [.str "g", longT], highT), (.tuple [.str "g", highT], .tuple [.str "h", highT]), (highT, .tuple [.str "h", longT])]
def prT (p : PyData × PyData) : PyData := .tuple [p.1, p.2]
theorem allT : prsT.all (fun p => twoB pT8 p.1 && twoB pT8 p.2 && abT rT8 [] p.1 p.2 && !abT rT8 [] p.2 p.1) = true := by decide +kernel
def cTw (K : PySem.W.Frag) : L2.St → Hp → Prop := fun σ Z => (∃ v, σ[2]? = some (some v) ∧ Dp K Z v (lowT 3)) ∧ (∃ v, σ[4]? = some (some v) ∧ Dp K Z v highT) ∧ ∃ v, σ[5]? = some (some v) ∧ Dp K Z v longT
theorem cTw_env (K : PySem.W.Frag) : EnvQ (cTw K) := ⟨fun σ Z Z' s ⟨⟨v2, a2, b2⟩, ⟨v3, a3, b3⟩, v4, a4, b4⟩ => ⟨⟨v2, a2, dp_same s _ _ b2⟩, ⟨v3, a3, dp_same s _ _ b3⟩, v4, a4, dp_same s _ _ b4⟩⟩
theorem zmo_id : ZMo id := ⟨fun _ _ s => s⟩
theorem zok_id (H : Hp) : ZOk id H := fun b hb H2 o e => e
def spTower : Sp := fun vs H Q _ => vs = [] ∧ ∀ H', Same H H' → Q (.bl true) H'
theorem ok_tower {f : Addr} {fd : FuncData} (F : Fun K "_law_tower_right" "_law_tower_right" sTower f fd) (MK : MkS P w K mg base cN cC cB C fi di) (MO : MkO P w K mg base cA cL C CO fo do') (G : OrCall P w K mg base C CO gC gS dC dS) (rng : mg "range" = none) :
    FnOk P w K mg base CX0 9 f fd [] spTower := by
  refine F.ok scTw (fun vs H Q E h => ?_) (fun cdv A outer s H vs Q E hr h => ?_)
  · obtain ⟨rfl, _⟩ := h
    rfl
  · obtain ⟨rfl, q⟩ := h
    have nd := scTw.nd
    have r4 : Room 4 (A.deeper (envOfC "_law_tower_right" (defScope sTower) s.heap.objs.size f cdv)) := hr.mono (by decide)
    refine ⟨_, pss_cons (ps_set (i := 0) nd rfl (Or.inl rfl) (pe_make MK.mm MK.ok r4 rfl MK.g MK.b .nil (passE0 rfl rfl) (pa_cons (te := tDat K (fun _ => True) (psD pT8)) (by repeat (first | exact pd_int | exact pd_str | exact pd_nil | refine pd_cons ?_ ?_ | refine pd_lst ?_ (by decide) | refine pd_tup ?_ (by decide))) pa_nil)))
      (pss_cons (ps_asg (pe_tup (pa_cons (pe_make MO.mm MO.ok r4 rfl MO.g MO.b .nil (passE0 rfl rfl) (pa_cons (pv 0) (pa_cons (te := tDat K (fun _ => True) (nmL rT8)) (by repeat (first | exact pd_int | exact pd_str | exact pd_nil | refine pd_cons ?_ ?_ | refine pd_lst ?_ (by decide) | refine pd_tup ?_ (by decide))) (pa_cons (te := tDat K (fun _ => True) (nmL [])) (by repeat (first | exact pd_int | exact pd_str | exact pd_nil | refine pd_cons ?_ ?_ | refine pd_lst ?_ (by decide) | refine pd_tup ?_ (by decide))) pa_nil)))) (pa_cons (te := tDat K (fun _ => True) (lowT 0)) (by repeat (first | exact pd_int | exact pd_str | exact pd_nil | refine pd_cons ?_ ?_ | refine pd_lst ?_ (by decide) | refine pd_tup ?_ (by decide))) pa_nil))) (pg_tup rfl (pgs_cons (pg_name (i := 1) nd rfl (Or.inr rfl)) (pgs_cons (pg_name (i := 2) nd rfl (Or.inl rfl)) pgs_nil))))
      (pss_cons (ps_for PassesOwn.never rfl (pi_range1 (by rfl) rng (pa_cons pe_int pa_nil)) (pg_name (i := 3) nd rfl (Or.inl rfl)) (pss_one (ps_set (i := 2) nd rfl (Or.inl rfl) (pe_tup (pa_cons pe_str (pa_cons (pv 2) pa_nil))))))
      (pss_cons (ps_par (i := 4) (j := 5) (by rfl) nd rfl rfl (by decide) rfl rfl (pa_cons (te := tDat K (fun _ => True) highT) (by repeat (first | exact pd_int | exact pd_str | exact pd_nil | refine pd_cons ?_ ?_ | refine pd_lst ?_ (by decide) | refine pd_tup ?_ (by decide))) (pa_cons (pe_tup (pa_cons pe_str (pa_cons (pv 2) pa_nil))) pa_nil)) (by rfl))
      (pss_cons (ps_set (i := 6) (te := tDvE K (cTw K) (.list (prsT.map prT))) nd rfl (Or.inl rfl) (qd_ex fun Z M => by repeat (first | exact qd_str | exact qd_nil | exact qd_var (pv 2) (fun _ _ h => h.1) | exact qd_var (pv 4) (fun _ _ h => h.2.1) | exact qd_var (pv 5) (fun _ _ h => h.2.2) | refine qd_cons M (cTw_env K) ?_ ?_ | refine qd_lst M ?_ (by decide) | refine qd_tup M ?_ (by decide))))
      (pss_one (ps_ret (pe_cmpR (op_eqD hr.units) (pe_lc (own := [("pair", 7)]) (g := gName 7) (tt := tOr (tNot (tB (tCallOW CO (spOCallG K C CO (wordIn Uc)) (fun _ => E0) (tVar 1) (tCons (tOp (rIxT K) (tVar 7) (tC (.int 0))) (tCons (tOp (rIxT K) (tVar 7) (tC (.int 1))) tNil))))) (tB (tCallOW CO (spOCallG K C CO (wordIn Uc)) (fun _ => E0) (tVar 1) (tCons (tOp (rIxT K) (tVar 7) (tC (.int 1))) (tCons (tOp (rIxT K) (tVar 7) (tC (.int 0))) tNil))))) (te := tVar 7) rfl nd
          (pi_list (pv 6)) (blkOk_by (N := ["signs", "made", "low", "turn", "high", "long", "some", "pair"]) (sc := defScope sTower) (by decide +kernel)) (fun _ _ _ _ _ => pg_name (i := 7) nd rfl (Or.inl rfl))
          (fun _ _ _ _ _ => pts_one (PW.pt (pw_or (pt_not (pt_val (pe_callOW (pv 1) G.c G.o hr G.b (fun _ _ _ _ _ _ _ h => h.elim) (pa_cons (pe_ix ix_tup (pv 7) pe_int fun _ _ => rfl) (pa_cons (pe_ix ix_tup (pv 7) pe_int fun _ _ => rfl) pa_nil))))) (pw_or1 (pt_val (pe_callOW (pv 1) G.c G.o hr G.b (fun _ _ _ _ _ _ _ h => h.elim) (pa_cons (pe_ix ix_tup (pv 7) pe_int fun _ _ => rfl) (pa_cons (pe_ix ix_tup (pv 7) pe_int fun _ _ => rfl) pa_nil))))))))
          (fun _ _ _ _ _ => pv 7)) (pe_lst pa_nil) (nomark _)))))))), ?_⟩
    refine ⟨trivial, fun v1 H1 s1 hv1 => ?_⟩
    intro x dx hx hdx hne
    refine mk_signs (dp_same nw_same _ _ hv1) oT8.f hx hdx fun H2 s2 hS2 => ⟨rfl, ?_⟩
    have s02 := Same.trans s1 s2
    refine ⟨_, rfl, trivial, fun v3 H3 s3 hv3 => ⟨trivial, fun v4 H4 s4 hv4 => ?_⟩⟩
    intro ob dx2 hob hdx2 hne2
    have s04 := Same.trans s02 (Same.trans s3 s4)
    refine mk_order (hS2.same (Same.trans s3 s4)) oT8 (dp_same (Same.trans nw_same s4) _ _ hv3) (dp_same nw_same _ _ hv4) hob hdx2 fun H5 s5 hO5 => ⟨rfl, ?_⟩
    have s05 := Same.trans s04 s5
    refine ⟨trivial, fun v6 H6 s6 hv6 => ⟨(by show 2 ≤ sizeLine; decide), fun t7 ht7 => ⟨t7, _, rfl, SqT.of upd_same, rfl, _, _, rfl, _, _, rfl, rfl, ?_⟩⟩⟩
    have s7 := same_upd (o := .tup [.ref ob, v6]) ht7
    have s57 := Same.trans s6 s7
    have hO7 := hO5.same s57
    have d7 := dp_same (Same.trans (nw_same (H := H5)) s7) _ _ hv6
    have s07 := Same.trans s05 s57
    generalize (L2.upd H6 t7 (.tup [.ref ob, v6])) = H7 at s7 s57 hO7 d7 s07 ⊢
    refine ⟨3, rfl, by decide, by decide, ?_⟩
    refine for_range (n := 3) (fun i σ H' => ∃ v c3, σ = [some (.ref x), some (.ref ob), some v, c3, none, none, none, none] ∧ Same H7 H' ∧ Dp K H' v (lowT i)) ⟨v6, none, rfl, Same.refl _, d7⟩ (fun i σ H' hi hp => ?_) (fun σ H8 hp => ?_)
    · obtain ⟨v, c3, rfl, sm, hd⟩ := hp
      refine ⟨_, rfl, (by show 2 ≤ sizeLine; decide), fun t ht => ?_⟩
      have st := same_upd (o := .tup [.str "h", v]) ht
      exact ⟨.ref t, _, rfl, Same.trans sm st, .tup (SqT.of upd_same) (.cons (.str _) (.cons (dp_same st _ _ hd) .nil))⟩
    · obtain ⟨v, c3, rfl, sm8, hd8⟩ := hp
      refine ⟨trivial, fun v9 H9 s9 hv9 => ⟨_, rfl, (by show 2 ≤ sizeLine; decide), fun t9 ht9 => ⟨_, _, rfl, ?_⟩⟩⟩
      have st9 := same_upd (o := .tup [.str "h", v]) ht9
      have et9 : (L2.upd H9 t9 (.tup [.str "h", v])) t9 = some (.tup [.str "h", v]) := upd_same
      have s10 := Same.trans s9 st9
      have hd10 := dp_same s10 _ _ hd8
      have h10 := dp_same (Same.trans (nw_same (H := H8)) st9) _ _ hv9
      generalize (L2.upd H9 t9 (.tup [.str "h", v])) = H10 at st9 et9 s10 hd10 h10 ⊢
      have hc : cTw K [some (.ref x), some (.ref ob), some v, c3, some v9, some (.ref t9), none, none] (id H10) := ⟨⟨_, rfl, hd10⟩, ⟨_, rfl, h10⟩, ⟨_, rfl, .tup (SqT.of et9) (.cons (.str _) (.cons hd10 .nil))⟩⟩
      refine ⟨id, zmo_id, zok_id _, hc, fun v11 H11 s11 hv11 => ?_⟩
      have hv11 : Dp K H11 v11 (.list (prsT.map prT)) := hv11
      have s711 := Same.trans sm8 (Same.trans s10 s11)
      have hO11 := hO7.same s711
      cases hv11 with
      | lst g1 g2 =>
        rename_i l us
        refine ⟨_, rfl, l, rfl, ⟨_, g1⟩, fun D hD => ?_⟩
        refine lc_it (walk_list (xs := us)) (fun i H' => Same H11 H' ∧ H' D = some (.lst [])) ⟨same_upd hD, upd_same⟩ (fun i H' hi hp => Same.seq hp.1 g1) (fun i y Hq H' hi hp hy => ?_) (fun H' hp => ?_)
        · obtain ⟨sd, hDl⟩ := hp
          obtain ⟨rfl, ey⟩ := hy
          obtain ⟨d, ed, hd⟩ := dpAll_get' g2 ey
          rw [List.getElem?_map] at ed
          obtain ⟨pr, ep, rfl⟩ := Option.map_eq_some_iff.mp ed
          have hb := List.all_eq_true.mp allT pr (List.mem_of_getElem? ep)
          simp only [Bool.and_eq_true, Bool.not_eq_true'] at hb
          obtain ⟨⟨⟨b1, b2⟩, b3⟩, b4⟩ := hb
          have hd' := dp_same sd _ _ hd
          cases hd' with
          | tup k1 k2 =>
            rename_i t xs
            cases k2 with
            | cons a1 k2 => cases k2 with
              | cons a2 k2 =>
                cases k2
                rename_i w1 w2
                have hO' := hO11.same sd
                obtain ⟨dxo, _, _, _, _, _, ho', _⟩ := id hO'
                refine ⟨rfl, ?_⟩
                refine ⟨_, rfl, ob, rfl, _, rfl, t, _, 0, w1, rfl, rfl, k1, atI_zero _ _, _, rfl, t, _, 1, w2, rfl, rfl, k1, atI_one _ _ _, ⟨_, _, ho'⟩, ?_⟩
                refine ⟨ob, x, pT8, rT8, [], w1, pr.1, w2, pr.2, rfl, mk_two hO' oT8 a1 a2 b1 b2, fun H12 s12 => ⟨_, rfl, ?_⟩⟩
                rw [b3]
                refine iteF ?_
                have hO2 := hO'.same s12
                obtain ⟨dxo2, _, _, _, _, _, ho2, _⟩ := id hO2
                have k12 := seqT_same s12 k1
                refine ⟨_, rfl, ob, rfl, _, rfl, t, _, 1, w2, rfl, rfl, k12, atI_one _ _ _, _, rfl, t, _, 0, w1, rfl, rfl, k12, atI_zero _ _, ⟨_, _, ho2⟩, ?_⟩
                refine ⟨ob, x, pT8, rT8, [], w2, pr.2, w1, pr.1, rfl, mk_two hO2 oT8 (dp_same s12 _ _ a2) (dp_same s12 _ _ a1) b2 b1, fun H13 s13 => ⟨_, rfl, ?_⟩⟩
                rw [b4]
                have s23 := Same.trans s12 s13
                exact iteF ⟨Same.trans sd s23, s23 _ _ hDl⟩
        · obtain ⟨sd, hDl⟩ := hp
          refine ⟨Nat.zero_le _, fun l2 hl2 => ?_⟩
          have sl := same_upd (o := .lst []) hl2
          refine ⟨.list [], .list [], .lst (SqL.of (sl _ _ hDl)) .nil, .lst (SqL.of upd_same) .nil, rfl, rfl, ?_⟩
          exact q _ (Same.trans s07 (Same.trans s711 (Same.trans sd sl)))
end
end Sg

set_option maxRecDepth 100000
set_option maxHeartbeats 16000000
namespace Sg
open PySem PySem.Spec PyProof.Rows L2 Dr Gd Er Cm Ow CO TF XT
abbrev sLaw8 : Stmt := top 45
theorem ord8 : ∀ c ∈ wr8, OrdC c.ps c.row c.lots := by
  intro c hc
  refine ⟨?_, ?_, ?_, ?_, ?_, ?_, ?_, ?_, ?_⟩
  · unfold Fine
    revert c
    decide +kernel
  all_goals
    revert c
    decide +kernel
structure LTxt8 (mg : Str → Option Value) : Prop where
  lst : mg "list" = none
  rep : mg "repr" = none
def spLaw8 (K : PySem.W.Frag) : Sp := fun vs H Q _ => ∃ (a : Addr) (ns : List Int), vs = [.ref a] ∧ SqL K H a (ns.map V.int) ∧ ∀ H', Q (.bl true) H'
theorem rep_bl {K : PySem.W.Frag} {b : Bool} {H : Hp} {Q : VK} (q : Q (.str (PyData.bool b).shown) H) : rRepr K [.bl b] H Q := ⟨_, .bool b, rfl, .bl b, rfl, rfl, by cases b <;> decide, by cases b <;> decide, q⟩
section
variable {P : Program} {w : World} {K : PySem.W.Frag} {mg : Str → Option Value} {base : Heap} {cN cC cB cA cL eA eL C CO fi fo gC gS fF fP fW fT : Addr} {di do' dC dS dF dP dW dT : FuncData}
theorem scL8 : FnScope ["script", "feed", "pairs", "row", "lots", "s", "t", "due", "made"] ["script"] (defScope sLaw8) := ⟨rfl, rfl, rfl, by decide +kernel, rfl, by decide +kernel, by decide +kernel⟩
theorem ok_law8 {f : Addr} {fd : FuncData} (F : Fun K "law" "law" sLaw8 f fd) (T : LTxt8 mg) (MK : MkS P w K mg base cN cC cB C fi di) (MO : MkO P w K mg base cA cL C CO fo do') (G : OrCall P w K mg base C CO gC gS dC dS)
    (GF : Cal P w K mg base CX0 1 "_law_feed" fF dF ["script", "k"] (spFeed K)) (GP : Cal P w K mg base CX0 2 "_law_pick" fP dP ["feed", "some"] (spPick K)) (GW : Cal P w K mg base CX0 1 "_law_written" fW dW [] (spWritten K)) (GT : Cal P w K mg base CX0 9 "_law_tower_right" fT dT [] spTower) :
    FnG P w K mg base CX0 10 f fd ["script"] (spLaw8 K) := by
  refine okG F scL8 (fun vs H Q E h => ?_) (fun cdv A outer s H vs Q E hgd hr h => ?_)
  · obtain ⟨a, ns, rfl, _⟩ := h
    rfl
  · obtain ⟨a, ns, rfl, hsc, q⟩ := h
    have r1 : Room 1 (A.deeper (envOfC "law" (defScope sLaw8) s.heap.objs.size f cdv)) := hr.mono (by decide)
    have r2 : Room 2 (A.deeper (envOfC "law" (defScope sLaw8) s.heap.objs.size f cdv)) := hr.mono (by decide)
    have r4 : Room 4 (A.deeper (envOfC "law" (defScope sLaw8) s.heap.objs.size f cdv)) := hr.mono (by decide)
    have r8 : Room 8 (A.deeper (envOfC "law" (defScope sLaw8) s.heap.objs.size f cdv)) := hr.mono (by decide)
    have hu : (A.deeper (envOfC "law" (defScope sLaw8) s.heap.objs.size f cdv)).units + 70 < cLine := by
      have := hr.un
      omega
    have nd := scL8.nd
    refine ⟨_, pss_cons (ps_set (i := 1) nd rfl (Or.inl rfl) (pe_call GF.ok r1 rfl GF.g GF.kp GF.b .nil pass0 (pa_cons (pv 0) (pa_cons pe_int pa_nil))))
      (pss_cons (ps_asg (pe_call GP.ok r2 rfl GP.g GP.kp GP.b .nil pass0 (pa_cons (pv 1) (pa_cons (pe_call0 GW.ok r1 rfl GW.g GW.kp GW.b .nil pass0) pa_nil)))
        (pg_tup rfl (pgs_cons (pg_name (i := 2) nd rfl (Or.inl rfl)) (pgs_cons (pg_name (i := 3) nd rfl (Or.inl rfl)) (pgs_cons (pg_name (i := 4) nd rfl (Or.inl rfl)) (pgs_cons (pg_name (i := 5) nd rfl (Or.inl rfl)) (pgs_cons (pg_name (i := 6) nd rfl (Or.inl rfl)) (pgs_cons (pg_name (i := 7) nd rfl (Or.inl rfl)) pgs_nil))))))))
      (pss_cons (ps_set (i := 8) nd rfl (Or.inl rfl) (pe_make MO.mm MO.ok r4 rfl MO.g MO.b .nil (passE0 rfl rfl) (pa_cons (pe_make MK.mm MK.ok r4 rfl MK.g MK.b .nil (passE0 rfl rfl) (pa_cons (pe_callTy call_list_of (by rfl) T.lst (by decide +kernel) (pa_cons (pv 2) pa_nil)) pa_nil))
        (pa_cons (pe_callTy call_list_of (by rfl) T.lst (by decide +kernel) (pa_cons (pv 3) pa_nil)) (pa_cons (pe_callTy call_list_of (by rfl) T.lst (by decide +kernel) (pa_cons (pv 4) pa_nil)) pa_nil)))))
      (pss_cons (ps_if (PW.pt (pw_or (pt_cmpR op_ne (pe_callB (call_reprD hgd hu) (by rfl) T.rep (by decide +kernel) (pa_cons (pe_callOW (pv 8) G.c G.o r8 G.b (E := fun _ => E0) (fun _ _ _ _ _ _ _ h => h.elim) (pa_cons (pv 5) (pa_cons (pv 6) pa_nil))) pa_nil)) (pe_callB (call_reprD hgd hu) (by rfl) T.rep (by decide +kernel) (pa_cons (pv 7) pa_nil)) (nomark _))
          (pw_or (pt_cmpR op_ne (pe_cmpR op_notN (pe_call G.s.ok r8 rfl G.s.g G.s.kp G.s.b .nil pass0 (pa_cons (pv 8) (pa_cons (pv 5) (pa_cons (pv 6) pa_nil)))) pe_non (nomark _)) (pv 7) (nomark _))
          (pw_or (pt_val (pe_callOW (pv 8) G.c G.o r8 G.b (E := fun _ => E0) (fun _ _ _ _ _ _ _ h => h.elim) (pa_cons (pv 5) (pa_cons (pv 5) pa_nil))))
          (pw_or1 (pt_val (pe_callOW (pv 8) G.c G.o r8 G.b (E := fun _ => E0) (fun _ _ _ _ _ _ _ h => h.elim) (pa_cons (pv 6) (pa_cons (pv 6) pa_nil))))))))) (pss_one (ps_ret pe_bl)) pss_nil)
      (pss_cons (ps_if (PW.pt (pw_and (pt_val (pv 7)) (pw_and1 (pt_val (pe_callOW (pv 8) G.c G.o r8 G.b (E := fun _ => E0) (fun _ _ _ _ _ _ _ h => h.elim) (pa_cons (pv 6) (pa_cons (pv 5) pa_nil))))))) (pss_one (ps_ret pe_bl)) pss_nil)
      (pss_one (ps_ret (pe_call0 GT.ok hr rfl GT.g GT.kp GT.b .nil pass0))))))), ?_⟩
    refine ⟨_, rfl, a, ns, 0, rfl, hsc, by decide, fun p x0 y0 hp => ?_⟩
    have ep : (L2.upd H p (feedO x0 y0)) p = some (feedO x0 y0) := upd_same
    generalize (L2.upd H p (feedO x0 y0)) = H1 at ep ⊢
    refine ⟨_, rfl, rfl, fun l us H2 s2 hl el hd => ?_⟩
    have lus := dpAll_len hd
    have l21 : (wr8.map cs8D).length = 21 := rfl
    have ep2 := s2 _ _ ep
    refine ⟨p, x0, y0, ep2, .inl ⟨l, us, rfl, SqL.of el, (fun z => by rw [z, ep] at hl; cases hl), by omega, by omega, fun v x' y' hv => ?_⟩⟩
    obtain ⟨i, hi, ei⟩ := List.getElem_of_mem hv
    have ei : us[i]? = some v := by rw [List.getElem?_eq_getElem hi, ei]
    obtain ⟨d, ed, hdv⟩ := dpAll_get' hd ei
    rw [List.getElem?_map] at ed
    obtain ⟨c, ec, rfl⟩ := Option.map_eq_some_iff.mp ed
    have hc := List.mem_of_getElem? ec
    have sP : Same (nw H1 H2) (L2.upd H2 p (feedO x' y')) := Same.trans (nw_del ep) (fun b o e => by
      have bp : b ≠ p := fun z => by rw [z, del_same] at e; cases e
      rw [del_ne bp] at e
      rw [upd_ne bp]
      exact e)
    have hdv := dp_same sP _ _ hdv
    generalize (L2.upd H2 p (feedO x' y')) = H3 at hdv ⊢
    have O := ord8 c hc
    have chk := List.all_eq_true.mp all8 c hc
    unfold chk8 at chk
    simp only [Bool.and_eq_true, Bool.not_eq_true', Bool.or_eq_true, decide_eq_true_eq, beq_iff_eq] at chk
    obtain ⟨⟨⟨⟨⟨⟨b1, b2⟩, b3⟩, b4⟩, b5⟩, b6⟩, b7⟩ := chk
    cases hdv with
    | tup k1 k2 =>
      rename_i t xs
      cases k2 with
      | cons a1 k2 => cases k2 with
        | cons a2 k2 => cases k2 with
          | cons a3 k2 => cases k2 with
            | cons a4 k2 => cases k2 with
              | cons a5 k2 => cases k2 with
                | cons a6 k2 =>
                  cases k2
                  cases a6
                  refine ⟨_, _, rfl, k1, rfl, _, _, rfl, _, _, rfl, _, _, rfl, _, _, rfl, _, _, rfl, _, _, rfl, rfl, ?_⟩
                  cases a1 with
                  | lst m1 m2 =>
                    rename_i lp ps'
                    cases a2 with
                    | lst n1 n2 =>
                      rename_i lr rs'
                      cases a3 with
                      | lst o1 o2 =>
                        rename_i ll ls'
                        refine ⟨_, rfl, lp, _, rfl, .inl m1, fun p1 hp1 => ?_⟩
                        have t1 := same_upd (o := .lst ps') hp1
                        have u1 : (L2.upd H3 p1 (.lst ps')) p1 = some (.lst ps') := upd_same
                        generalize (L2.upd H3 p1 (.lst ps')) = H4 at t1 u1 ⊢
                        intro x dx hx hdx hne
                        refine mk_signs (.lst (SqL.of u1) (dpAll_same t1 _ _ m2)) O.f hx hdx fun H5 t2 hS5 => ⟨rfl, ?_⟩
                        have t02 := Same.trans t1 t2
                        refine ⟨_, rfl, lr, _, rfl, .inl (Same.seq t02 n1), fun p3 hp3 => ?_⟩
                        have t3 := same_upd (o := .lst rs') hp3
                        have u3 : (L2.upd H5 p3 (.lst rs')) p3 = some (.lst rs') := upd_same
                        have t03 := Same.trans t02 t3
                        have hS6 := hS5.same t3
                        generalize (L2.upd H5 p3 (.lst rs')) = H6 at t3 u3 t03 hS6 ⊢
                        refine ⟨_, rfl, ll, _, rfl, .inl (Same.seq t03 o1), fun p4 hp4 => ?_⟩
                        have t4 := same_upd (o := .lst ls') hp4
                        have u4 : (L2.upd H6 p4 (.lst ls')) p4 = some (.lst ls') := upd_same
                        have t04 := Same.trans t03 t4
                        have u34 := t4 _ _ u3
                        have hS7 := hS6.same t4
                        generalize (L2.upd H6 p4 (.lst ls')) = H7 at t4 u4 t04 u34 hS7 ⊢
                        intro ob dx2 hob hdx2 hne2
                        refine mk_order hS7 O (.lst (SqL.of u34) (dpAll_same t04 _ _ n2)) (.lst (SqL.of u4) (dpAll_same t04 _ _ o2)) hob hdx2 fun H8 t8 hO8 => ⟨rfl, ?_⟩
                        have t08 := Same.trans t04 t8
                        have c4 := dp_same t08 _ _ a4
                        have c5 := dp_same t08 _ _ a5
                        have two : ∀ {H' : Hp}, Same H8 H' → ∀ {v1 v2 : V} {d1 d2 : PyData}, Dp K H8 v1 d1 → Dp K H8 v2 d2 → twoB c.ps d1 = true → twoB c.ps d2 = true → Two K C CO (wordIn Uc) H' ob x c.ps c.row c.lots v1 d1 v2 d2 :=
                          fun {H'} sm {v1 v2 d1 d2} h1 h2 e1 e2 => mk_two (hO8.same sm) O (dp_same sm _ _ h1) (dp_same sm _ _ h2) e1 e2
                        have ins : ∀ {H' : Hp}, Same H8 H' → ∃ dx fs, H' ob = some (.ins CO dx fs) := fun sm => by
                          obtain ⟨dxo, _, _, _, _, _, ho, _⟩ := hO8.same sm
                          exact ⟨_, _, ho⟩
                        refine ⟨_, rfl, ob, rfl, _, rfl, _, rfl, ins (Same.refl _), ?_⟩
                        refine ⟨ob, x, c.ps, c.row, c.lots, _, c.s, _, c.t, rfl, two (Same.refl _) c4 c5 b1 b2, fun G1 g1 => ?_⟩
                        rw [b3]
                        have sb : ∀ b : Bool, (PyData.bool b).shown.length ≤ sizeLine ∧ (PyData.bool b).depth ≤ 60 := fun b => by cases b <;> decide
                        refine ⟨_, .bool c.due, rfl, .bl _, rfl, rfl, (sb _).1, (sb _).2, ?_⟩
                        refine ⟨_, rfl, ?_⟩
                        refine ⟨_, .bool c.due, rfl, .bl _, rfl, rfl, (sb _).1, (sb _).2, ?_⟩
                        refine ⟨rfl, _, rfl, ?_⟩
                        rw [show (!decide (V.str (PyData.bool c.due).shown = V.str (PyData.bool c.due).shown)) = false by simp]
                        refine iteF ?_
                        refine ⟨_, rfl, _, rfl, _, rfl, ?_⟩
                        refine ⟨ob, x, c.ps, c.row, c.lots, _, c.s, _, c.t, rfl, two g1 c4 c5 b1 b2, b7, fun r G2 g2 hR => ?_⟩
                        have hN := hR.isNone
                        rw [b3] at hN
                        refine ⟨rfl, _, rfl, rfl, _, rfl, ?_⟩
                        rw [hN, show (!decide (V.bl (!!c.due) = V.bl c.due)) = false by simp]
                        refine iteF ?_
                        have g12 := Same.trans g1 g2
                        refine ⟨_, rfl, ob, rfl, _, rfl, _, rfl, ins g12, ?_⟩
                        refine ⟨ob, x, c.ps, c.row, c.lots, _, c.s, _, c.s, rfl, two g12 c4 c4 b1 b1, fun G3 g3 => ⟨_, rfl, ?_⟩⟩
                        rw [b4]
                        refine iteF ?_
                        have g13 := Same.trans g12 g3
                        refine ⟨_, rfl, ob, rfl, _, rfl, _, rfl, ins g13, ?_⟩
                        refine ⟨ob, x, c.ps, c.row, c.lots, _, c.t, _, c.t, rfl, two g13 c5 c5 b2 b2, fun G4 g4 => ⟨_, rfl, ?_⟩⟩
                        rw [b5]
                        refine iteF ?_
                        have g14 := Same.trans g13 g4
                        refine ⟨_, rfl, _, rfl, ?_⟩
                        cases hdue : c.due with
                        | false =>
                          refine iteF (iteF ?_)
                          exact ⟨rfl, fun H' _ => q H'⟩
                        | true =>
                          refine iteT ?_
                          have b6 : abT c.row c.lots c.t c.s = false := by
                            rcases b6 with b6 | b6
                            · rw [hdue] at b6; cases b6
                            · exact b6
                          refine ⟨_, rfl, ob, rfl, _, rfl, _, rfl, ins g14, ?_⟩
                          refine ⟨ob, x, c.ps, c.row, c.lots, _, c.t, _, c.s, rfl, two g14 c5 c4 b2 b1, fun G5 g5 => ⟨_, rfl, ?_⟩⟩
                          rw [b6]
                          refine iteF ?_
                          exact ⟨rfl, fun H' _ => q H'⟩
end
end Sg

set_option maxRecDepth 100000
set_option maxHeartbeats 4000000
namespace Gd
open PySem L2 PySem.Spec PyProof.Rows
/-- the only thing tracked at the law's entry: the script, where it is no object of the top's -/
def scr (K : PySem.W.Frag) (a : Addr) (vs : List Value) (ns : List Int) : Hp := fun b => if b = a ∧ K.lookup a = none then some (.frz { cls := .type "list", data := .seq vs.toArray } (.lst (ns.map V.int))) else none
section
variable {P : Program} {w : World} {K : PySem.W.Frag} {mg mb : Str → Option Value} {CX : CXT} {k : Nat} {fa a : Addr} {fd : FuncData} {x : Str} {sp : Sp} {s₁ : Shared} {vs : List Value} {ns : List Int}
theorem lawG (KX : K.In s₁.heap) (hns : s₁.heap.Ns mainGlobals mg) (hb : s₁.heap.Ns builtinsNs mb) (hbb : ∀ x : Str, x ≠ "__name__" → mb x = bootBuiltins x) (hlim : s₁.heap.NoLimit) (hg : s₁.gens = #[])
    (ha : s₁.heap.get? a = some { cls := .type "list", data := .seq vs.toArray }) (hi : IntsAre vs ns) (hl : ns.length ≤ sizeLine) (hr : Room k callerA)
    (F : ∀ base : Heap, K.In base → base.Ns mainGlobals mg → FnG P w K mg base CX k fa fd [x] sp) (hbind : ∀ (s : Shared) (u : Value), BindsTo s fd ⟨[u], []⟩ [(x, u)])
    (hsp : ∀ H : Hp, SqL K H a (ns.map V.int) → sp [.ref a] H (fun v _ => v = .bl true) fun _ _ _ => False)
    (hCX : ∀ H e s', CX [] H s₁ (fun _ _ _ => False) e s' → False) :
    codeAny (model P w) callerA (.call (.ref fa) ⟨[.ref a], []⟩) (fun r s' => r = .ok (.ret (.bool true)) ∧ OldK s₁.heap s'.heap ∧ s'.os = s₁.os ∧ AllBare s'.gens) s₁ := by
  have rv := vals_ints hi
  have lv := hi.length
  generalize hH : scr K a vs ns = H
  have cs : ∀ b, H b = none ∨ (b = a ∧ K.lookup a = none ∧ H b = some (.frz { cls := .type "list", data := .seq vs.toArray } (.lst (ns.map V.int)))) := fun b => by
    subst hH
    unfold scr
    by_cases z : b = a ∧ K.lookup a = none
    · rw [if_pos z]
      exact Or.inr ⟨z.1, z.2, rfl⟩
    · rw [if_neg z]
      exact Or.inl rfl
  have hS : SqL K H a (ns.map V.int) := by
    cases z : K.lookup a with
    | none =>
      refine .inl (.inr ⟨{ cls := .type "list", data := .seq vs.toArray }, ?_⟩)
      subst hH
      exact if_pos ⟨rfl, z⟩
    | some o =>
      have y := (KX a o z).symm.trans ha
      cases y
      exact .inr ⟨_, vs.toArray, _, z, rfl, rfl, rfl, by rw [List.size_toArray, lv]; exact hl, by simpa using rv⟩
  have hok : HOk P w H s₁.heap := fun b u e => by
    rcases cs b with z | ⟨rfl, _, z⟩
    · rw [z] at e
      cases e
    · rw [z] at e
      cases e
      exact ⟨ha, by rw [List.length_map]; exact hl, vs, _, rv, ha⟩
  have nh : ∀ {b o}, s₁.heap.get? b = some o → (∀ es ep, o.data = .dict es ep → True) → (b = a → K.lookup a = none → False) → H b = none := fun {b o} _ _ n => by
    rcases cs b with z | ⟨z1, z2, _⟩
    · exact z
    · exact (n z1 z2).elim
  have nsB : ∀ {b : Addr} {m : Str → Option Value}, s₁.heap.Ns b m → (hidT s₁.heap H).Ns b m := by
    rintro b m ⟨o, es, ep, e, d, r⟩
    refine ⟨o, es, ep, hidT_get e (nh e (fun _ _ _ => trivial) fun z _ => ?_), d, r⟩
    subst z
    rw [ha] at e
    cases e
    cases d
  have kB : K.In (hidT s₁.heap H) := fun b o e => hidT_get (KX b o e) (nh (KX b o e) (fun _ _ _ => trivial) fun z1 z2 => by rw [z1, z2] at e; cases e)
  obtain ⟨mc, c1, c2⟩ := hlim
  have hM : Mod K mg (hidT s₁.heap H) := ⟨kB, nsB hns, ⟨mb, nsB hb, hbb⟩, mc, nsB c1, c2⟩
  have e0 : Env0 P w K mg (hidT s₁.heap H) callerA [] s₁ H := ⟨rfl, hM, fun b o e => of_hidT e, Nat.le_of_eq (hidT_size _ _), trivial, (fun b z => by cases z), hok, .of_eq hg⟩
  refine codeAny_mono ((F _ kB (nsB hns)).go callerA [] s₁ H ⟨[.ref a], []⟩ [.ref a] [.ref a] _ _ rfl hr e0 (hbind s₁ (.ref a)) (.cons rfl .nil) (hsp H hS)) ?_
  intro r s' h
  cases r with
  | error e => exact (hCX H e s' h).elim
  | ok fl =>
    cases fl with
    | ret u =>
      obtain ⟨v, H', os, bare, un, hok', r', q⟩ := h
      obtain rfl : v = .bl true := q
      obtain rfl : u = Value.bool true := r'
      refine ⟨rfl, OldK.of_keep fun b o e => ?_, os, bare⟩
      rcases cs b with z | ⟨rfl, _, z⟩
      · exact un.keep b o e z (fun y => by cases y) (fun y => by cases y)
      · have z2 := un.frzs b _ _ z
        rw [ha] at e
        cases e
        exact (hok' b _ z2).1
    | next => exact False.elim h
    | brk => exact False.elim h
    | cont => exact False.elim h
end
/-- the goal that the head leaves, from the law's promise -/
theorem walkG {l : PySem.W.OpenLaw} {n k : Nat} {q : Program} {loose : List Str} {XP : (Str → Option Value) → Heap → Prop} {YP : World → Heap → Prop} {d : DefRec} {K : Params → PySem.W.Frag} {CX : World → CXT} {sp : World → Sp} {x : Str}
    (hn : l.most = some n) (hn2 : n ≤ sizeLine) (hdf : d.params.defaults = []) (hr : Room k callerA) (hY : ∀ (w : World) (h : Heap), YP w h → (K w.params).In h)
    (F : ∀ (w : World) (mg : Str → Option Value) (fa : Addr) (h : Heap), (K w.params).In h → h.Ns mainGlobals mg → mg d.name = some (.ref fa) →
      ∃ fd : FuncData, (∀ (s : Shared) (u : Value), BindsTo s fd ⟨[u], []⟩ [(x, u)]) ∧ ∀ base : Heap, (K w.params).In base → base.Ns mainGlobals mg → FnG l.prog w (K w.params) mg base (CX w) k fa fd [x] (sp w))
    (hsp : ∀ (w : World) (H : Hp) (a : Addr) (ns : List Int), ns.length ≤ n → (∀ z ∈ ns, Builtin.Int.intBits z ≤ 1048576) → SqL (K w.params) H a (ns.map V.int) → sp w [.ref a] H (fun v _ => v = .bl true) fun _ _ _ => False)
    (hCX : ∀ (w : World) (H : Hp) (s : Shared) (e : Value) (s' : Shared), CX w [] H s (fun _ _ _ => False) e s' → False) :
    PySem.W.WalkO q loose XP YP l.row.toRowW d [] (fun f vs => PySem.call f vs) := by
  refine Att.attach_callB hn hdf ?_
  intro w s₀ s₁ mg mb fa o pm cd doc a vs ns G Y ho hd hcd hmg hobj hints hlen hbits hg
  obtain ⟨fd, hb, hF⟩ := F w mg fa _ (hY w _ Y) G.T.g hmg
  exact lawG (hY w _ Y) G.T.g G.T.b G.T.builtins G.T.nolimit hg hobj hints (Nat.le_trans hlen hn2) hr hF hb (fun H hS => hsp w H a ns hlen hbits hS) fun H e s' => hCX w H s₁ e s'
end Gd

set_option maxRecDepth 100000
set_option maxHeartbeats 8000000
namespace Sg
open PySem PySem.W PySem.Spec PyProof.Rows L2 Dr Gd Er Cm Ow CO TF XT
/-- one own error as the top has made it -/
structure Cl1 (P : Program) (K : Frag) (mg : Str → Option Value) (x : Str) (fl : Option Str) (C f : Addr) : Prop where
  e : ErrC P K x fl C f
  g : mg x = some (.ref C)
  xf : XfC K C
  r : subIn K (.ref C) (.type "BaseException") = some true ∧ typeIn K (.ref C) = some (.type "type")
section
variable {P : Program} {K : Frag} {h : Heap} {mg : Str → Option Value} {x : Str} {fl : Option Str} {C f : Addr}
theorem mkCl1 {nm q : Str} {N : Addr} {bs bm : List Value} {sn : List Str} {sub : List Value} {ab : Bool} {col : Option Bool} {dd : Option Addr} {k0 k1 k2 k3 k5 : Option Value}
    {oc doc pm ct ccl cl : Value} {od an cdd cld : Option Addr} {osl ccs csl : Array (Option Value)} {cc cda : Addr} {qual z file : Str} {kz : Nat} {tf : Tok} {vs : Array Value} {p p' p0 p1 p2 p3 p4 p5 q1 q2 q3 q4 : Pos}
    (X : K.In h) (G : h.Ns mainGlobals mg)
    (any : nsIn K cStatics "thirdparty.any" = some none) (top : (P.main.scope.names.lookup ("super" : Str)).isSome = false)
    (aC : nsIn K mainGlobals x = some (some (.ref C))) (kC : keepIn K (.ref C) = true)
    (hC : K.lookup C = some (excClassObj nm q C N bs bm true sn sub ab col dd k0 k1 k2 k3 k5 "ValueError.__new__")) (hbm : PySem.HandSPX.refsVE bm = true)
    (sa : findIn K (.ref C) "__setattr__" = some (some (.builtin "object.__setattr__")))
    (iC : findIn K (.ref C) "__init__" = some (some (.ref f))) (tI : typeIn K (.ref f) = some (.type "function"))
    (lF : K.lookup f = some ⟨oc, od, .func (ksFn "__init__" qual (pars fl p p') (body fl z kz p0 p1 p2 p3 p4 p5 q1 q2 q3 q4) (scp fl) .none .none doc pm an (.ref cda) ct cc), osl⟩) (hcd : codeIn K (.ref cda) qual = true)
    (lc : K.lookup cda = some ⟨ccl, cdd, .fields vs, ccs⟩) (hv : vs[2]? = some (.str file tf)) (hfile : ((P.main.file : Str) == file) = true)
    (lcell : K.lookup cc = some ⟨cl, cld, .cell (some (.ref C)), csl⟩)
    (along : ks_superIn K C C "__init__" = some (some (.builtin "ValueError.__init__"))) (subVE : subIn K (.ref C) (.type "ValueError") = some true) (mro : mroIn K C (.ref C) = some true)
    (noF : ∀ y, fl = some y → findIn K (.ref C) y = some none)
    (ga : findIn K (.ref C) "__getattribute__" = some (some (.builtin "BaseException.__getattribute__"))) (gg : findIn K (.ref C) "__getattr__" = some none) (exC : subIn K (.ref C) (.type "BaseException") = some true) (hdC : hasDictIn K C = true)
    (tC : typeIn K (.ref C) = some (.type "type"))
    (ev : EvP z kz p0 p1 p2 p3 p4 p5) (bd : BdP fl (ksFn "__init__" qual (pars fl p p') (body fl z kz p0 p1 p2 p3 p4 p5 q1 q2 q3 q4) (scp fl) .none .none doc pm an (.ref cda) ct cc))
    (kS : (names fl).lookup ("super" : Str) = some .globalImplicit) (kF : (names fl).lookup ("__class__" : Str) = some .free) (kL : (names fl).lookup ("self" : Str) = some .local)
    (kP : ∀ y, fl = some y → (names fl).lookup y = some .local ∧ (y == ("self" : Str)) = false ∧ (y == ("__debug__" : Str)) = false) : Cl1 P K mg x fl C f where
  e := ⟨kC, ⟨nm, q, N, bs, bm, sn, sub, ab, col, dd, k0, k1, k2, k3, k5, hC, hbm⟩, sa, iC, tI,
    ⟨oc, od, doc, pm, an, ct, osl, cc, cda, qual, z, kz, p, p', p0, p1, p2, p3, p4, p5, q1, q2, q3, q4, lF, hcd, ev, bd, ⟨ccl, cdd, vs, ccs, file, tf, lc, hv, hfile⟩, cl, cld, csl, lcell⟩,
    any, along, subVE, mro, top, noF, kS, kF, kL, kP⟩
  g := mg_of X G aC
  xf := ⟨ga, gg, exC, hdC⟩
  r := ⟨exC, tC⟩
end

/-- whose kind an instance is, by one look -/
def lookB (K : Frag) (C : Addr) : Bool :=
  decide (kitOne K (.ref C) (.ref C) = some true) && decide (kitOne K (.type "list") (.ref C) = some false)

theorem all_mk {l : OpenLaw} {w : World} {K : Frag} {h : Heap} {mg : Str → Option Value} {fa cN cC cB cS cT cA cL eN eC eB eS eT eA eL C CO CN CP CA g0 g1 g2 g3 g4 g5 g6 g7 g8 g9 g10 g11 g12 g13 g14 g15 g16 g17 g18 g19 g20 g21 g22 g23 g24 g25 g26 g27 g28 g29 g30 g31 g32 g33 g34 g35 g36 g37 g38 g39 g40 g41 g42 g43 g44 g45 g46 g47 g48 g49 pp21 pp22 pp28 pp29 : Addr} {od0 an0 od1 an1 od2 an2 od3 an3 od4 an4 od5 an5 od6 an6 od7 an7 od8 an8 od9 an9 od10 an10 od11 an11 od12 an12 od13 an13 od14 an14 od15 an15 od16 an16 od17 an17 od18 an18 od19 an19 od20 an20 od21 an21 od22 an22 od23 an23 od24 an24 od25 an25 od26 an26 od27 an27 od28 an28 od29 an29 od30 an30 od31 an31 od32 an32 od33 an33 od34 an34 od35 an35 od36 an36 od37 an37 od38 an38 od39 an39 od40 an40 od41 an41 od42 an42 od43 an43 od44 an44 od45 an45 od46 an46 od47 an47 od48 an48 od49 an49 : Option Addr} {sl0 sl1 sl2 sl3 sl4 sl5 sl6 sl7 sl8 sl9 sl10 sl11 sl12 sl13 sl14 sl15 sl16 sl17 sl18 sl19 sl20 sl21 sl22 sl23 sl24 sl25 sl26 sl27 sl28 sl29 sl30 sl31 sl32 sl33 sl34 sl35 sl36 sl37 sl38 sl39 sl40 sl41 sl42 sl43 sl44 sl45 sl46 sl47 sl48 sl49 : Array (Option Value)} {oc0 kV0 dc0 pm0 cd0 ct0 oc1 kV1 dc1 pm1 cd1 ct1 oc2 kV2 dc2 pm2 cd2 ct2 oc3 kV3 dc3 pm3 cd3 ct3 oc4 kV4 dc4 pm4 cd4 ct4 oc5 kV5 dc5 pm5 cd5 ct5 oc6 kV6 dc6 pm6 cd6 ct6 oc7 kV7 dc7 pm7 cd7 ct7 oc8 kV8 dc8 pm8 cd8 ct8 oc9 kV9 dc9 pm9 cd9 ct9 oc10 kV10 dc10 pm10 cd10 ct10 oc11 kV11 dc11 pm11 cd11 ct11 oc12 kV12 dc12 pm12 cd12 ct12 oc13 kV13 dc13 pm13 cd13 ct13 oc14 kV14 dc14 pm14 cd14 ct14 oc15 kV15 dc15 pm15 cd15 ct15 oc16 kV16 dc16 pm16 cd16 ct16 oc17 kV17 dc17 pm17 cd17 ct17 oc18 kV18 dc18 pm18 cd18 ct18 oc19 kV19 dc19 pm19 cd19 ct19 oc20 kV20 dc20 pm20 cd20 ct20 oc21 kV21 dc21 pm21 cd21 ct21 oc22 kV22 dc22 pm22 cd22 ct22 oc23 kV23 dc23 pm23 cd23 ct23 oc24 kV24 dc24 pm24 cd24 ct24 oc25 kV25 dc25 pm25 cd25 ct25 oc26 kV26 dc26 pm26 cd26 ct26 oc27 kV27 dc27 pm27 cd27 ct27 oc28 kV28 dc28 pm28 cd28 ct28 oc29 kV29 dc29 pm29 cd29 ct29 oc30 kV30 dc30 pm30 cd30 ct30 oc31 kV31 dc31 pm31 cd31 ct31 oc32 kV32 dc32 pm32 cd32 ct32 oc33 kV33 dc33 pm33 cd33 ct33 oc34 kV34 dc34 pm34 cd34 ct34 oc35 kV35 dc35 pm35 cd35 ct35 oc36 kV36 dc36 pm36 cd36 ct36 oc37 kV37 dc37 pm37 cd37 ct37 oc38 kV38 dc38 pm38 cd38 ct38 oc39 kV39 dc39 pm39 cd39 ct39 oc40 kV40 dc40 pm40 cd40 ct40 oc41 kV41 dc41 pm41 cd41 ct41 oc42 kV42 dc42 pm42 cd42 ct42 oc43 kV43 dc43 pm43 cd43 ct43 oc44 kV44 dc44 pm44 cd44 ct44 oc45 kV45 dc45 pm45 cd45 ct45 oc46 kV46 dc46 pm46 cd46 ct46 oc47 kV47 dc47 pm47 cd47 ct47 oc48 kV48 dc48 pm48 cd48 ct48 oc49 kV49 dc49 pm49 cd49 ct49 : Value} {rest21 rest22 rest28 rest29 : List Value} {n1 n2 n3 : Int} {zS zU : Str} {t1 t2 t3 t4 t5 : Tok} (X : K.In h) (G : h.Ns mainGlobals mg) (hfa : mg "law" = some (.ref fa))
    (h0 : Cl1 l.prog K mg "NoList" none cN eN) (h1 : Cl1 l.prog K mg "BadCount" none cC eC) (h2 : Cl1 l.prog K mg "BadSign" (some "number") cB eB) (h3 : Cl1 l.prog K mg "NoSign" (some "name") cS eS) (h4 : Cl1 l.prog K mg "BadTerm" (some "value") cT eT) (h5 : Cl1 l.prog K mg "BadNames" none cA eA) (h6 : Cl1 l.prog K mg "BadLots" none cL eL)
    (a0 : nsIn K mainGlobals "is_whole" = some (some (.ref g0))) (l0 : K.lookup g0 = some ⟨oc0, od0, .func (fnOf "is_whole" "is_whole" (defArgs sWhole) (defBody sWhole) (defScope sWhole) .none kV0 dc0 pm0 an0 cd0 ct0), sl0⟩) (d0 : codeIn K cd0 "is_whole" = true) (k0 : keepIn K (.ref g0) = true)
    (a1 : nsIn K mainGlobals "is_word" = some (some (.ref g1))) (l1 : K.lookup g1 = some ⟨oc1, od1, .func (fnOf "is_word" "is_word" (defArgs sWord) (defBody sWord) (defScope sWord) .none kV1 dc1 pm1 an1 cd1 ct1), sl1⟩) (d1 : codeIn K cd1 "is_word" = true) (k1 : keepIn K (.ref g1) = true)
    (a2 : nsIn K mainGlobals "is_tuple_of" = some (some (.ref g2))) (l2 : K.lookup g2 = some ⟨oc2, od2, .func (fnOf "is_tuple_of" "is_tuple_of" (defArgs sTupOf) (defBody sTupOf) (defScope sTupOf) .none kV2 dc2 pm2 an2 cd2 ct2), sl2⟩) (d2 : codeIn K cd2 "is_tuple_of" = true) (k2 : keepIn K (.ref g2) = true)
    (a3 : nsIn K mainGlobals "is_choice" = some (some (.ref g3))) (l3 : K.lookup g3 = some ⟨oc3, od3, .func (fnOf "is_choice" "is_choice" (defArgs sChoice) (defBody sChoice) (defScope sChoice) .none kV3 dc3 pm3 an3 cd3 ct3), sl3⟩) (d3 : codeIn K cd3 "is_choice" = true) (k3 : keepIn K (.ref g3) = true)
    (a4 : nsIn K mainGlobals "_is_sign" = some (some (.ref g4))) (l4 : K.lookup g4 = some ⟨oc4, od4, .func (fnOf "_is_sign" "_is_sign" (defArgs sIsSign) (defBody sIsSign) (defScope sIsSign) .none kV4 dc4 pm4 an4 cd4 ct4), sl4⟩) (d4 : codeIn K cd4 "_is_sign" = true) (k4 : keepIn K (.ref g4) = true)
    (a5 : nsIn K mainGlobals "is_term" = some (some (.ref g5))) (l5 : K.lookup g5 = some ⟨oc5, od5, .func (fnOf "is_term" "is_term" (defArgs sIsTerm) (defBody sIsTerm) (defScope sIsTerm) .none kV5 dc5 pm5 an5 cd5 ct5), sl5⟩) (d5 : codeIn K cd5 "is_term" = true) (k5 : keepIn K (.ref g5) = true)
    (a6 : nsIn K mainGlobals "_has_head" = some (some (.ref g6))) (l6 : K.lookup g6 = some ⟨oc6, od6, .func (fnOf "_has_head" "_has_head" (defArgs sHead) (defBody sHead) (defScope sHead) .none kV6 dc6 pm6 an6 cd6 ct6), sl6⟩) (d6 : codeIn K cd6 "_has_head" = true) (k6 : keepIn K (.ref g6) = true)
    (a7 : nsIn K mainGlobals "look_at_terms" = some (some (.ref g7))) (l7 : K.lookup g7 = some ⟨oc7, od7, .func (fnOf "look_at_terms" "look_at_terms" (defArgs sLookT) (defBody sLookT) (defScope sLookT) .none kV7 dc7 pm7 an7 cd7 ct7), sl7⟩) (d7 : codeIn K cd7 "look_at_terms" = true) (k7 : keepIn K (.ref g7) = true)
    (a8 : nsIn K mainGlobals "_facts_of" = some (some (.ref g8))) (l8 : K.lookup g8 = some ⟨oc8, od8, .func (fnOf "_facts_of" "_facts_of" (defArgs sFactsOf) (defBody sFactsOf) (defScope sFactsOf) .none kV8 dc8 pm8 an8 cd8 ct8), sl8⟩) (d8 : codeIn K cd8 "_facts_of" = true) (k8 : keepIn K (.ref g8) = true)
    (a9 : nsIn K mainGlobals "folded" = some (some (.ref g9))) (l9 : K.lookup g9 = some ⟨oc9, od9, .func (fnOf "folded" "folded" (defArgs sFolded) (defBody sFolded) (defScope sFolded) .none kV9 dc9 pm9 an9 cd9 ct9), sl9⟩) (d9 : codeIn K cd9 "folded" = true) (k9 : keepIn K (.ref g9) = true)
    (a10 : nsIn K mainGlobals "arguments" = some (some (.ref g10))) (l10 : K.lookup g10 = some ⟨oc10, od10, .func (fnOf "arguments" "arguments" (defArgs sArgs) (defBody sArgs) (defScope sArgs) .none kV10 dc10 pm10 an10 cd10 ct10), sl10⟩) (d10 : codeIn K cd10 "arguments" = true) (k10 : keepIn K (.ref g10) = true)
    (a11 : nsIn K mainGlobals "_bits" = some (some (.ref g11))) (l11 : K.lookup g11 = some ⟨oc11, od11, .func (fnOf "_bits" "_bits" (defArgs sBits) (defBody sBits) (defScope sBits) .none kV11 dc11 pm11 an11 cd11 ct11), sl11⟩) (d11 : codeIn K cd11 "_bits" = true) (k11 : keepIn K (.ref g11) = true)
    (a12 : nsIn K mainGlobals "_is_above" = some (some (.ref g12))) (l12 : K.lookup g12 = some ⟨oc12, od12, .func (fnOf "_is_above" "_is_above" (defArgs sIsAbove) (defBody sIsAbove) (defScope sIsAbove) .none kV12 dc12 pm12 an12 cd12 ct12), sl12⟩) (d12 : codeIn K cd12 "_is_above" = true) (k12 : keepIn K (.ref g12) = true)
    (a13 : nsIn K mainGlobals "steps" = some (some (.ref g13))) (l13 : K.lookup g13 = some ⟨oc13, od13, .func (fnOf "steps" "steps" (defArgs sSteps) (defBody sSteps) (defScope sSteps) .none kV13 dc13 pm13 an13 cd13 ct13), sl13⟩) (d13 : codeIn K cd13 "steps" = true) (k13 : keepIn K (.ref g13) = true)
    (a14 : nsIn K mainGlobals "_law_feed" = some (some (.ref g14))) (l14 : K.lookup g14 = some ⟨oc14, od14, .func (fnOf "_law_feed" "_law_feed" (defArgs sFeed) (defBody sFeed) (defScope sFeed) .none kV14 dc14 pm14 an14 cd14 ct14), sl14⟩) (d14 : codeIn K cd14 "_law_feed" = true) (k14 : keepIn K (.ref g14) = true)
    (a15 : nsIn K mainGlobals "_law_take" = some (some (.ref g15))) (l15 : K.lookup g15 = some ⟨oc15, od15, .func (fnOf "_law_take" "_law_take" (defArgs sTake) (defBody sTake) (defScope sTake) .none kV15 dc15 pm15 an15 cd15 ct15), sl15⟩) (d15 : codeIn K cd15 "_law_take" = true) (k15 : keepIn K (.ref g15) = true)
    (a16 : nsIn K mainGlobals "_law_pick" = some (some (.ref g16))) (l16 : K.lookup g16 = some ⟨oc16, od16, .func (fnOf "_law_pick" "_law_pick" (defArgs sPick) (defBody sPick) (defScope sPick) .none kV16 dc16 pm16 an16 cd16 ct16), sl16⟩) (d16 : codeIn K cd16 "_law_pick" = true) (k16 : keepIn K (.ref g16) = true)
    (a17 : nsIn K mainGlobals "_law_written" = some (some (.ref g17))) (l17 : K.lookup g17 = some ⟨oc17, od17, .func (fnOf "_law_written" "_law_written" (defArgs sWritten) (defBody sWritten) (defScope sWritten) .none kV17 dc17 pm17 an17 cd17 ct17), sl17⟩) (d17 : codeIn K cd17 "_law_written" = true) (k17 : keepIn K (.ref g17) = true)
    (a18 : nsIn K mainGlobals "_law_tower_right" = some (some (.ref g18))) (l18 : K.lookup g18 = some ⟨oc18, od18, .func (fnOf "_law_tower_right" "_law_tower_right" (defArgs sTower) (defBody sTower) (defScope sTower) .none kV18 dc18 pm18 an18 cd18 ct18), sl18⟩) (d18 : codeIn K cd18 "_law_tower_right" = true) (k18 : keepIn K (.ref g18) = true)
    (a19 : nsIn K mainGlobals "law" = some (some (.ref g19))) (l19 : K.lookup g19 = some ⟨oc19, od19, .func (fnOf "law" "law" (defArgs sLaw8) (defBody sLaw8) (defScope sLaw8) .none kV19 dc19 pm19 an19 cd19 ct19), sl19⟩) (d19 : codeIn K cd19 "law" = true) (k19 : keepIn K (.ref g19) = true)
    (aC : nsIn K mainGlobals "Signs" = some (some (.ref C))) (kC : keepIn K (.ref C) = true) (mkC : makesIn K C = true) (pgC : plainGet K C Str.empty = true) (hdC : hasDictIn K C = true) (poC : plainOver K C = true) (saC : findIn K (.ref C) "__setattr__" = some (some (.builtin "object.__setattr__"))) (caC : findIn K (.ref C) "__class__" = some (some (.builtin "object.__class__"))) (cmC : mroIn K C (.type "object") = some true) (neC : findIn K (.ref C) "__ne__" = some (some (.builtin "object.__ne__"))) (nfC : notFirst K C (.ref C) = true) (nfLC : notFirst K C (.type "list") = true) (na0C : findIn K (.ref C) "_arities" = some none)
    (fa20 : findIn K (.ref C) "__init__" = some (some (.ref g20))) (fn20 : isFn K (.ref g20) = true)
    (l20 : K.lookup g20 = some ⟨oc20, od20, .func (fnOf "__init__" "Signs.__init__" (defArgs sInit) (defBody sInit) (defScope sInit) .none kV20 dc20 pm20 an20 cd20 ct20), sl20⟩) (d20 : codeIn K cd20 "Signs.__init__" = true) (k20 : keepIn K (.ref g20) = true)
    (fa21 : findIn K (.ref C) "names" = some (some (.ref pp21))) (fg21 : specialIn K (.ref pp21) "__get__" = some (some (.builtin "property.__get__"))) (ft21 : takesIn K (.ref pp21) = some true) (fr21 : recIn K pp21 "property" = some (.ref g21 :: rest21))
    (l21 : K.lookup g21 = some ⟨oc21, od21, .func (fnOf "names" "Signs.names" (defArgs sNames) (defBody sNames) (defScope sNames) .none kV21 dc21 pm21 an21 cd21 ct21), sl21⟩) (d21 : codeIn K cd21 "Signs.names" = true) (k21 : keepIn K (.ref g21) = true)
    (fa22 : findIn K (.ref C) "ways" = some (some (.ref pp22))) (fg22 : specialIn K (.ref pp22) "__get__" = some (some (.builtin "property.__get__"))) (ft22 : takesIn K (.ref pp22) = some true) (fr22 : recIn K pp22 "property" = some (.ref g22 :: rest22))
    (l22 : K.lookup g22 = some ⟨oc22, od22, .func (fnOf "ways" "Signs.ways" (defArgs sWays) (defBody sWays) (defScope sWays) .none kV22 dc22 pm22 an22 cd22 ct22), sl22⟩) (d22 : codeIn K cd22 "Signs.ways" = true) (k22 : keepIn K (.ref g22) = true)
    (fa23 : findIn K (.ref C) "arity" = some (some (.ref g23))) (fn23 : isFn K (.ref g23) = true)
    (l23 : K.lookup g23 = some ⟨oc23, od23, .func (fnOf "arity" "Signs.arity" (defArgs sArity) (defBody sArity) (defScope sArity) .none kV23 dc23 pm23 an23 cd23 ct23), sl23⟩) (d23 : codeIn K cd23 "Signs.arity" = true) (k23 : keepIn K (.ref g23) = true)
    (fa24 : findIn K (.ref C) "__contains__" = some (some (.ref g24))) (fn24 : isFn K (.ref g24) = true)
    (l24 : K.lookup g24 = some ⟨oc24, od24, .func (fnOf "__contains__" "Signs.__contains__" (defArgs sHas) (defBody sHas) (defScope sHas) .none kV24 dc24 pm24 an24 cd24 ct24), sl24⟩) (d24 : codeIn K cd24 "Signs.__contains__" = true) (k24 : keepIn K (.ref g24) = true)
    (fa25 : findIn K (.ref C) "__len__" = some (some (.ref g25))) (fn25 : isFn K (.ref g25) = true)
    (l25 : K.lookup g25 = some ⟨oc25, od25, .func (fnOf "__len__" "Signs.__len__" (defArgs sLen) (defBody sLen) (defScope sLen) .none kV25 dc25 pm25 an25 cd25 ct25), sl25⟩) (d25 : codeIn K cd25 "Signs.__len__" = true) (k25 : keepIn K (.ref g25) = true)
    (fa26 : findIn K (.ref C) "__eq__" = some (some (.ref g26))) (fn26 : isFn K (.ref g26) = true)
    (l26 : K.lookup g26 = some ⟨oc26, od26, .func (fnOf "__eq__" "Signs.__eq__" (defArgs sEq) (defBody sEq) (defScope sEq) .none kV26 dc26 pm26 an26 cd26 ct26), sl26⟩) (d26 : codeIn K cd26 "Signs.__eq__" = true) (k26 : keepIn K (.ref g26) = true)
    (aCO : nsIn K mainGlobals "Order" = some (some (.ref CO))) (kCO : keepIn K (.ref CO) = true) (mkCO : makesIn K CO = true) (pgCO : plainGet K CO Str.empty = true) (hdCO : hasDictIn K CO = true) (poCO : plainOver K CO = true) (saCO : findIn K (.ref CO) "__setattr__" = some (some (.builtin "object.__setattr__"))) (na0CO : findIn K (.ref CO) "signs" = some none) (na1CO : findIn K (.ref CO) "_names" = some none) (na2CO : findIn K (.ref CO) "_lots" = some none) (na3CO : findIn K (.ref CO) "_facts" = some none)
    (fa27 : findIn K (.ref CO) "__init__" = some (some (.ref g27))) (fn27 : isFn K (.ref g27) = true)
    (l27 : K.lookup g27 = some ⟨oc27, od27, .func (fnOf "__init__" "Order.__init__" (defArgs sOInit) (defBody sOInit) (defScope sOInit) .none kV27 dc27 pm27 an27 cd27 ct27), sl27⟩) (d27 : codeIn K cd27 "Order.__init__" = true) (k27 : keepIn K (.ref g27) = true)
    (fa28 : findIn K (.ref CO) "names" = some (some (.ref pp28))) (fg28 : specialIn K (.ref pp28) "__get__" = some (some (.builtin "property.__get__"))) (ft28 : takesIn K (.ref pp28) = some true) (fr28 : recIn K pp28 "property" = some (.ref g28 :: rest28))
    (l28 : K.lookup g28 = some ⟨oc28, od28, .func (fnOf "names" "Order.names" (defArgs sONames) (defBody sONames) (defScope sONames) .none kV28 dc28 pm28 an28 cd28 ct28), sl28⟩) (d28 : codeIn K cd28 "Order.names" = true) (k28 : keepIn K (.ref g28) = true)
    (fa29 : findIn K (.ref CO) "lots" = some (some (.ref pp29))) (fg29 : specialIn K (.ref pp29) "__get__" = some (some (.builtin "property.__get__"))) (ft29 : takesIn K (.ref pp29) = some true) (fr29 : recIn K pp29 "property" = some (.ref g29 :: rest29))
    (l29 : K.lookup g29 = some ⟨oc29, od29, .func (fnOf "lots" "Order.lots" (defArgs sOLots) (defBody sOLots) (defScope sOLots) .none kV29 dc29 pm29 an29 cd29 ct29), sl29⟩) (d29 : codeIn K cd29 "Order.lots" = true) (k29 : keepIn K (.ref g29) = true)
    (fa30 : findIn K (.ref CO) "__call__" = some (some (.ref g30))) (fn30 : isFn K (.ref g30) = true)
    (l30 : K.lookup g30 = some ⟨oc30, od30, .func (fnOf "__call__" "Order.__call__" (defArgs sOCall) (defBody sOCall) (defScope sOCall) .none kV30 dc30 pm30 an30 cd30 ct30), sl30⟩) (d30 : codeIn K cd30 "Order.__call__" = true) (k30 : keepIn K (.ref g30) = true)
    (aCN : nsIn K mainGlobals "Numbered" = some (some (.ref CN))) (kCN : keepIn K (.ref CN) = true) (mkCN : makesIn K CN = true) (pgCN : plainGet K CN Str.empty = true) (hdCN : hasDictIn K CN = true) (poCN : plainOver K CN = true) (saCN : findIn K (.ref CN) "__setattr__" = some (some (.builtin "object.__setattr__"))) (na0CN : findIn K (.ref CN) "terms" = some none) (na1CN : findIn K (.ref CN) "heads" = some none) (na2CN : findIn K (.ref CN) "places" = some none) (na3CN : findIn K (.ref CN) "_known" = some none)
    (fa31 : findIn K (.ref CN) "__init__" = some (some (.ref g31))) (fn31 : isFn K (.ref g31) = true)
    (l31 : K.lookup g31 = some ⟨oc31, od31, .func (fnOf "__init__" "Numbered.__init__" (defArgs sNInit) (defBody sNInit) (defScope sNInit) .none kV31 dc31 pm31 an31 cd31 ct31), sl31⟩) (d31 : codeIn K cd31 "Numbered.__init__" = true) (k31 : keepIn K (.ref g31) = true)
    (fa32 : findIn K (.ref CN) "take" = some (some (.ref g32))) (fn32 : isFn K (.ref g32) = true)
    (l32 : K.lookup g32 = some ⟨oc32, od32, .func (fnOf "take" "Numbered.take" (defArgs sTake_) (defBody sTake_) (defScope sTake_) .none kV32 dc32 pm32 an32 cd32 ct32), sl32⟩) (d32 : codeIn K cd32 "Numbered.take" = true) (k32 : keepIn K (.ref g32) = true)
    (fa33 : findIn K (.ref CN) "_take_whole" = some (some (.ref g33))) (fn33 : isFn K (.ref g33) = true)
    (gf33 : specialIn K (.ref g33) "__get__" = some (some (.builtin "function.__get__"))) (tk33 : takesIn K (.ref g33) = some false) (fi33 : fnIn K g33 = true)
    (l33 : K.lookup g33 = some ⟨oc33, od33, .func (fnOf "_take_whole" "Numbered._take_whole" (defArgs sTW) (defBody sTW) (defScope sTW) .none kV33 dc33 pm33 an33 cd33 ct33), sl33⟩) (d33 : codeIn K cd33 "Numbered._take_whole" = true) (k33 : keepIn K (.ref g33) = true)
    (fa34 : findIn K (.ref CN) "parts_of" = some (some (.ref g34))) (fn34 : isFn K (.ref g34) = true)
    (l34 : K.lookup g34 = some ⟨oc34, od34, .func (fnOf "parts_of" "Numbered.parts_of" (defArgs sPartsOf) (defBody sPartsOf) (defScope sPartsOf) .none kV34 dc34 pm34 an34 cd34 ct34), sl34⟩) (d34 : codeIn K cd34 "Numbered.parts_of" = true) (k34 : keepIn K (.ref g34) = true)
    (fa35 : findIn K (.ref CN) "first_unlike" = some (some (.ref g35))) (fn35 : isFn K (.ref g35) = true)
    (l35 : K.lookup g35 = some ⟨oc35, od35, .func (fnOf "first_unlike" "Numbered.first_unlike" (defArgs sFU) (defBody sFU) (defScope sFU) .none kV35 dc35 pm35 an35 cd35 ct35), sl35⟩) (d35 : codeIn K cd35 "Numbered.first_unlike" = true) (k35 : keepIn K (.ref g35) = true)
    (fa36 : findIn K (.ref CN) "left_over" = some (some (.ref g36))) (fn36 : isFn K (.ref g36) = true)
    (l36 : K.lookup g36 = some ⟨oc36, od36, .func (fnOf "left_over" "Numbered.left_over" (defArgs sLO) (defBody sLO) (defScope sLO) .none kV36 dc36 pm36 an36 cd36 ct36), sl36⟩) (d36 : codeIn K cd36 "Numbered.left_over" = true) (k36 : keepIn K (.ref g36) = true)
    (fa37 : findIn K (.ref CN) "at" = some (some (.ref g37))) (fn37 : isFn K (.ref g37) = true)
    (l37 : K.lookup g37 = some ⟨oc37, od37, .func (fnOf "at" "Numbered.at" (defArgs sNAt) (defBody sNAt) (defScope sNAt) .none kV37 dc37 pm37 an37 cd37 ct37), sl37⟩) (d37 : codeIn K cd37 "Numbered.at" = true) (k37 : keepIn K (.ref g37) = true)
    (aCP : nsIn K mainGlobals "Pair" = some (some (.ref CP))) (kCP : keepIn K (.ref CP) = true) (mkCP : makesIn K CP = true) (pgCP : plainGet K CP Str.empty = true) (hdCP : hasDictIn K CP = true) (poCP : plainOver K CP = true) (saCP : findIn K (.ref CP) "__setattr__" = some (some (.builtin "object.__setattr__"))) (na0CP : findIn K (.ref CP) "store" = some none) (na1CP : findIn K (.ref CP) "s" = some none) (na2CP : findIn K (.ref CP) "t" = some none) (na3CP : findIn K (.ref CP) "_rank" = some none) (na4CP : findIn K (.ref CP) "_with_lots" = some none)
    (fa38 : findIn K (.ref CP) "__init__" = some (some (.ref g38))) (fn38 : isFn K (.ref g38) = true)
    (l38 : K.lookup g38 = some ⟨oc38, od38, .func (fnOf "__init__" "Pair.__init__" (defArgs sPInit) (defBody sPInit) (defScope sPInit) .none kV38 dc38 pm38 an38 cd38 ct38), sl38⟩) (d38 : codeIn K cd38 "Pair.__init__" = true) (k38 : keepIn K (.ref g38) = true)
    (fa39 : findIn K (.ref CP) "case_of" = some (some (.ref g39))) (fn39 : isFn K (.ref g39) = true)
    (l39 : K.lookup g39 = some ⟨oc39, od39, .func (fnOf "case_of" "Pair.case_of" (defArgs sCase) (defBody sCase) (defScope sCase) .none kV39 dc39 pm39 an39 cd39 ct39), sl39⟩) (d39 : codeIn K cd39 "Pair.case_of" = true) (k39 : keepIn K (.ref g39) = true)
    (fa40 : findIn K (.ref CP) "with_arguments" = some (some (.ref g40))) (fn40 : isFn K (.ref g40) = true)
    (l40 : K.lookup g40 = some ⟨oc40, od40, .func (fnOf "with_arguments" "Pair.with_arguments" (defArgs sWArgs) (defBody sWArgs) (defScope sWArgs) .none kV40 dc40 pm40 an40 cd40 ct40), sl40⟩) (d40 : codeIn K cd40 "Pair.with_arguments" = true) (k40 : keepIn K (.ref g40) = true)
    (aCA : nsIn K mainGlobals "Above" = some (some (.ref CA))) (kCA : keepIn K (.ref CA) = true) (mkCA : makesIn K CA = true) (pgCA : plainGet K CA Str.empty = true) (hdCA : hasDictIn K CA = true) (poCA : plainOver K CA = true) (saCA : findIn K (.ref CA) "__setattr__" = some (some (.builtin "object.__setattr__"))) (na0CA : findIn K (.ref CA) "pair" = some none) (na1CA : findIn K (.ref CA) "store" = some none) (na2CA : findIn K (.ref CA) "_columns" = some none) (na3CA : findIn K (.ref CA) "_wanted" = some none) (na4CA : findIn K (.ref CA) "over" = some none)
    (fa41 : findIn K (.ref CA) "__init__" = some (some (.ref g41))) (fn41 : isFn K (.ref g41) = true)
    (l41 : K.lookup g41 = some ⟨oc41, od41, .func (fnOf "__init__" "Above.__init__" (defArgs sAInit) (defBody sAInit) (defScope sAInit) .none kV41 dc41 pm41 an41 cd41 ct41), sl41⟩) (d41 : codeIn K cd41 "Above.__init__" = true) (k41 : keepIn K (.ref g41) = true)
    (fa42 : findIn K (.ref CA) "holds" = some (some (.ref g42))) (fn42 : isFn K (.ref g42) = true)
    (l42 : K.lookup g42 = some ⟨oc42, od42, .func (fnOf "holds" "Above.holds" (defArgs sHolds) (defBody sHolds) (defScope sHolds) .none kV42 dc42 pm42 an42 cd42 ct42), sl42⟩) (d42 : codeIn K cd42 "Above.holds" = true) (k42 : keepIn K (.ref g42) = true)
    (fa43 : findIn K (.ref CA) "_fill" = some (some (.ref g43))) (fn43 : isFn K (.ref g43) = true)
    (l43 : K.lookup g43 = some ⟨oc43, od43, .func (fnOf "_fill" "Above._fill" (defArgs sFill) (defBody sFill) (defScope sFill) .none kV43 dc43 pm43 an43 cd43 ct43), sl43⟩) (d43 : codeIn K cd43 "Above._fill" = true) (k43 : keepIn K (.ref g43) = true)
    (fa44 : findIn K (.ref CA) "_by_case" = some (some (.ref g44))) (fn44 : isFn K (.ref g44) = true)
    (l44 : K.lookup g44 = some ⟨oc44, od44, .func (fnOf "_by_case" "Above._by_case" (defArgs sByCase) (defBody sByCase) (defScope sByCase) .none kV44 dc44 pm44 an44 cd44 ct44), sl44⟩) (d44 : codeIn K cd44 "Above._by_case" = true) (k44 : keepIn K (.ref g44) = true)
    (fa45 : findIn K (.ref CA) "_rows" = some (some (.ref g45))) (fn45 : isFn K (.ref g45) = true)
    (l45 : K.lookup g45 = some ⟨oc45, od45, .func (fnOf "_rows" "Above._rows" (defArgs sRows) (defBody sRows) (defScope sRows) .none kV45 dc45 pm45 an45 cd45 ct45), sl45⟩) (d45 : codeIn K cd45 "Above._rows" = true) (k45 : keepIn K (.ref g45) = true)
    (fa46 : findIn K (.ref CA) "_way" = some (some (.ref g46))) (fn46 : isFn K (.ref g46) = true)
    (l46 : K.lookup g46 = some ⟨oc46, od46, .func (fnOf "_way" "Above._way" (defArgs sWay) (defBody sWay) (defScope sWay) .none kV46 dc46 pm46 an46 cd46 ct46), sl46⟩) (d46 : codeIn K cd46 "Above._way" = true) (k46 : keepIn K (.ref g46) = true)
    (fa47 : findIn K (.ref CA) "_needed" = some (some (.ref g47))) (fn47 : isFn K (.ref g47) = true)
    (gf47 : specialIn K (.ref g47) "__get__" = some (some (.builtin "function.__get__"))) (tk47 : takesIn K (.ref g47) = some false) (fi47 : fnIn K g47 = true)
    (l47 : K.lookup g47 = some ⟨oc47, od47, .func (fnOf "_needed" "Above._needed" (defArgs sNeeded) (defBody sNeeded) (defScope sNeeded) .none kV47 dc47 pm47 an47 cd47 ct47), sl47⟩) (d47 : codeIn K cd47 "Above._needed" = true) (k47 : keepIn K (.ref g47) = true)
    (fa48 : findIn K (.ref CA) "_made" = some (some (.ref g48))) (fn48 : isFn K (.ref g48) = true)
    (gf48 : specialIn K (.ref g48) "__get__" = some (some (.builtin "function.__get__"))) (tk48 : takesIn K (.ref g48) = some false) (fi48 : fnIn K g48 = true)
    (l48 : K.lookup g48 = some ⟨oc48, od48, .func (fnOf "_made" "Above._made" (defArgs sMade_) (defBody sMade_) (defScope sMade_) .none kV48 dc48 pm48 an48 cd48 ct48), sl48⟩) (d48 : codeIn K cd48 "Above._made" = true) (k48 : keepIn K (.ref g48) = true)
    (fa49 : findIn K (.ref CA) "steps" = some (some (.ref g49))) (fn49 : isFn K (.ref g49) = true)
    (l49 : K.lookup g49 = some ⟨oc49, od49, .func (fnOf "steps" "Above.steps" (defArgs sASteps) (defBody sASteps) (defScope sASteps) .none kV49 dc49 pm49 an49 cd49 ct49), sl49⟩) (d49 : codeIn K cd49 "Above.steps" = true) (k49 : keepIn K (.ref g49) = true)
    (cgX : specialIn K (.builtin "object.__class__") "__get__" = some (some (.builtin "getset_descriptor.__get__"))) (ctX : takesIn K (.builtin "object.__class__") = some true)
    (fiX : fnIn K g30 = true)
    (z0 : nsIn K mainGlobals "super" = some none) (z1 : nsIn K mainGlobals "enumerate" = some none) (z2 : nsIn K mainGlobals "list" = some none) (z3 : nsIn K mainGlobals "isinstance" = some none) (z4 : nsIn K mainGlobals "int" = some none) (z5 : nsIn K mainGlobals "bool" = some none) (z6 : nsIn K mainGlobals "str" = some none) (z7 : nsIn K mainGlobals "tuple" = some none) (z8 : nsIn K mainGlobals "len" = some none) (z9 : nsIn K mainGlobals "all" = some none) (z10 : nsIn K mainGlobals "max" = some none) (z11 : nsIn K mainGlobals "abs" = some none) (z12 : nsIn K mainGlobals "min" = some none) (z13 : nsIn K mainGlobals "range" = some none) (z14 : nsIn K mainGlobals "repr" = some none) (z15 : nsIn K mainGlobals "sorted" = some none) (z16 : nsIn K mainGlobals "zip" = some none)
    (v1 : nsIn K mainGlobals "MOST_LETTERS" = some (some (.int n1 t1))) (v2 : nsIn K mainGlobals "MOST_SIGNS" = some (some (.int n2 t2))) (v3 : nsIn K mainGlobals "MOST_ARGUMENTS" = some (some (.int n3 t3))) (v4 : nsIn K mainGlobals "SMALL" = some (some (.str zS t4))) (v5 : nsIn K mainGlobals "CAPITAL" = some (some (.str zU t5))) (w1 : n1 = 8) (w2 : n2 = 5) (w3 : n3 = 3) (w4 : zS = Lc) (w5 : zU = Uc) (kb : lookB K C = true)
    : ∃ fd : FuncData, (∀ (s : Shared) (v : Value), BindsTo s fd ⟨[v], []⟩ [("script", v)]) ∧ ∀ base : Heap, K.In base → base.Ns mainGlobals mg → FnG l.prog w K mg base CX0 10 fa fd ["script"] (spLaw8 K) := by
  have e := hfa.symm.trans (mg_of X G a19)
  cases e
  subst w1 w2 w3 w4 w5
  have nn := fun {y : Str} (z : nsIn K mainGlobals y = some none) => mg_none_of X G z
  unfold lookB at kb
  simp only [Bool.and_eq_true, decide_eq_true_eq] at kb
  obtain ⟨b5, b6⟩ := kb
  have F0 := fun_mk (st := sWhole) l0 d0 k0
  have B0 := F0.binds (ps := ["value"]) fun _ _ _ _ _ _ us hl => match us, hl with | [_], _ => rfl
  have F1 := fun_mk (st := sWord) l1 d1 k1
  have B1 := F1.binds (ps := ["value", "letters"]) fun _ _ _ _ _ _ us hl => match us, hl with | [_, _], _ => rfl
  have F2 := fun_mk (st := sTupOf) l2 d2 k2
  have B2 := F2.binds (ps := ["value", "many"]) fun _ _ _ _ _ _ us hl => match us, hl with | [_, _], _ => rfl
  have F3 := fun_mk (st := sChoice) l3 d3 k3
  have B3 := F3.binds (ps := ["value", "names"]) fun _ _ _ _ _ _ us hl => match us, hl with | [_, _], _ => rfl
  have F4 := fun_mk (st := sIsSign) l4 d4 k4
  have B4 := F4.binds (ps := ["value"]) fun _ _ _ _ _ _ us hl => match us, hl with | [_], _ => rfl
  have F5 := fun_mk (st := sIsTerm) l5 d5 k5
  have B5 := F5.binds (ps := ["signs", "value"]) fun _ _ _ _ _ _ us hl => match us, hl with | [_, _], _ => rfl
  have F6 := fun_mk (st := sHead) l6 d6 k6
  have B6 := F6.binds (ps := ["signs", "value"]) fun _ _ _ _ _ _ us hl => match us, hl with | [_, _], _ => rfl
  have F7 := fun_mk (st := sLookT) l7 d7 k7
  have B7 := F7.binds (ps := ["signs", "s", "t"]) fun _ _ _ _ _ _ us hl => match us, hl with | [_, _, _], _ => rfl
  have F8 := fun_mk (st := sFactsOf) l8 d8 k8
  have B8 := F8.binds (ps := ["names", "lots", "ways"]) fun _ _ _ _ _ _ us hl => match us, hl with | [_, _, _], _ => rfl
  have F9 := fun_mk (st := sFolded) l9 d9 k9
  have B9 := F9.binds (ps := ["root", "children", "made"]) fun _ _ _ _ _ _ us hl => match us, hl with | [_, _, _], _ => rfl
  have F10 := fun_mk (st := sArgs) l10 d10 k10
  have B10 := F10.binds (ps := ["term"]) fun _ _ _ _ _ _ us hl => match us, hl with | [_], _ => rfl
  have F11 := fun_mk (st := sBits) l11 d11 k11
  have B11 := F11.binds (ps := ["numbers"]) fun _ _ _ _ _ _ us hl => match us, hl with | [_], _ => rfl
  have F12 := fun_mk (st := sIsAbove) l12 d12 k12
  have B12 := F12.binds (ps := ["pair"]) fun _ _ _ _ _ _ us hl => match us, hl with | [_], _ => rfl
  have F13 := fun_mk (st := sSteps) l13 d13 k13
  have B13 := F13.binds (ps := ["order", "s", "t"]) fun _ _ _ _ _ _ us hl => match us, hl with | [_, _, _], _ => rfl
  have F14 := fun_mk (st := sFeed) l14 d14 k14
  have B14 := F14.binds (ps := ["script", "k"]) fun _ _ _ _ _ _ us hl => match us, hl with | [_, _], _ => rfl
  have F15 := fun_mk (st := sTake) l15 d15 k15
  have B15 := F15.binds (ps := ["feed", "many"]) fun _ _ _ _ _ _ us hl => match us, hl with | [_, _], _ => rfl
  have F16 := fun_mk (st := sPick) l16 d16 k16
  have B16 := F16.binds (ps := ["feed", "some"]) fun _ _ _ _ _ _ us hl => match us, hl with | [_, _], _ => rfl
  have F17 := fun_mk (st := sWritten) l17 d17 k17
  have B17 := F17.binds (ps := []) fun _ _ _ _ _ _ us hl => match us, hl with | [], _ => rfl
  have F18 := fun_mk (st := sTower) l18 d18 k18
  have B18 := F18.binds (ps := []) fun _ _ _ _ _ _ us hl => match us, hl with | [], _ => rfl
  have F19 := fun_mk (st := sLaw8) l19 d19 k19
  have F20 := fun_mk (st := sInit) l20 d20 k20
  have B20 := F20.binds (ps := ["self", "pairs"]) fun _ _ _ _ _ _ us hl => match us, hl with | [_, _], _ => rfl
  have F21 := fun_mk (st := sNames) l21 d21 k21
  have B21 := F21.binds (ps := ["self"]) fun _ _ _ _ _ _ us hl => match us, hl with | [_], _ => rfl
  have F22 := fun_mk (st := sWays) l22 d22 k22
  have B22 := F22.binds (ps := ["self"]) fun _ _ _ _ _ _ us hl => match us, hl with | [_], _ => rfl
  have F23 := fun_mk (st := sArity) l23 d23 k23
  have B23 := F23.binds (ps := ["self", "name"]) fun _ _ _ _ _ _ us hl => match us, hl with | [_, _], _ => rfl
  have F24 := fun_mk (st := sHas) l24 d24 k24
  have B24 := F24.binds (ps := ["self", "name"]) fun _ _ _ _ _ _ us hl => match us, hl with | [_, _], _ => rfl
  have F25 := fun_mk (st := sLen) l25 d25 k25
  have B25 := F25.binds (ps := ["self"]) fun _ _ _ _ _ _ us hl => match us, hl with | [_], _ => rfl
  have F26 := fun_mk (st := sEq) l26 d26 k26
  have B26 := F26.binds (ps := ["self", "other"]) fun _ _ _ _ _ _ us hl => match us, hl with | [_, _], _ => rfl
  have F27 := fun_mk (st := sOInit) l27 d27 k27
  have B27 := F27.binds (ps := ["self", "signs", "names", "lots"]) fun _ _ _ _ _ _ us hl => match us, hl with | [_, _, _, _], _ => rfl
  have F28 := fun_mk (st := sONames) l28 d28 k28
  have B28 := F28.binds (ps := ["self"]) fun _ _ _ _ _ _ us hl => match us, hl with | [_], _ => rfl
  have F29 := fun_mk (st := sOLots) l29 d29 k29
  have B29 := F29.binds (ps := ["self"]) fun _ _ _ _ _ _ us hl => match us, hl with | [_], _ => rfl
  have F30 := fun_mk (st := sOCall) l30 d30 k30
  have B30 := F30.binds (ps := ["self", "s", "t"]) fun _ _ _ _ _ _ us hl => match us, hl with | [_, _, _], _ => rfl
  have F31 := fun_mk (st := sNInit) l31 d31 k31
  have B31 := F31.binds (ps := ["self"]) fun _ _ _ _ _ _ us hl => match us, hl with | [_], _ => rfl
  have F32 := fun_mk (st := sTake_) l32 d32 k32
  have B32 := F32.binds (ps := ["self", "term"]) fun _ _ _ _ _ _ us hl => match us, hl with | [_, _], _ => rfl
  have F33 := fun_mk (st := sTW) l33 d33 k33
  have B33 := F33.binds (ps := ["self", "term", "places"]) fun _ _ _ _ _ _ us hl => match us, hl with | [_, _, _], _ => rfl
  have F34 := fun_mk (st := sPartsOf) l34 d34 k34
  have B34 := F34.binds (ps := ["self", "number"]) fun _ _ _ _ _ _ us hl => match us, hl with | [_, _], _ => rfl
  have F35 := fun_mk (st := sFU) l35 d35 k35
  have B35 := F35.binds (ps := ["self", "u", "v"]) fun _ _ _ _ _ _ us hl => match us, hl with | [_, _, _], _ => rfl
  have F36 := fun_mk (st := sLO) l36 d36 k36
  have B36 := F36.binds (ps := ["self", "u", "v"]) fun _ _ _ _ _ _ us hl => match us, hl with | [_, _, _], _ => rfl
  have F37 := fun_mk (st := sNAt) l37 d37 k37
  have B37 := F37.binds (ps := ["self", "u", "i", "v", "j"]) fun _ _ _ _ _ _ us hl => match us, hl with | [_, _, _, _, _], _ => rfl
  have F38 := fun_mk (st := sPInit) l38 d38 k38
  have B38 := F38.binds (ps := ["self", "order", "s", "t"]) fun _ _ _ _ _ _ us hl => match us, hl with | [_, _, _, _], _ => rfl
  have F39 := fun_mk (st := sCase) l39 d39 k39
  have B39 := F39.binds (ps := ["self", "u", "v"]) fun _ _ _ _ _ _ us hl => match us, hl with | [_, _, _], _ => rfl
  have F40 := fun_mk (st := sWArgs) l40 d40 k40
  have B40 := F40.binds (ps := ["self", "u", "v"]) fun _ _ _ _ _ _ us hl => match us, hl with | [_, _, _], _ => rfl
  have F41 := fun_mk (st := sAInit) l41 d41 k41
  have B41 := F41.binds (ps := ["self", "pair"]) fun _ _ _ _ _ _ us hl => match us, hl with | [_, _], _ => rfl
  have F42 := fun_mk (st := sHolds) l42 d42 k42
  have B42 := F42.binds (ps := ["self", "u", "v"]) fun _ _ _ _ _ _ us hl => match us, hl with | [_, _, _], _ => rfl
  have F43 := fun_mk (st := sFill) l43 d43 k43
  have B43 := F43.binds (ps := ["self", "u"]) fun _ _ _ _ _ _ us hl => match us, hl with | [_, _], _ => rfl
  have F44 := fun_mk (st := sByCase) l44 d44 k44
  have B44 := F44.binds (ps := ["self", "u", "v"]) fun _ _ _ _ _ _ us hl => match us, hl with | [_, _, _], _ => rfl
  have F45 := fun_mk (st := sRows) l45 d45 k45
  have B45 := F45.binds (ps := ["self", "u", "v"]) fun _ _ _ _ _ _ us hl => match us, hl with | [_, _, _], _ => rfl
  have F46 := fun_mk (st := sWay) l46 d46 k46
  have B46 := F46.binds (ps := ["self", "u", "v"]) fun _ _ _ _ _ _ us hl => match us, hl with | [_, _, _], _ => rfl
  have F47 := fun_mk (st := sNeeded) l47 d47 k47
  have B47 := F47.binds (ps := ["self", "node"]) fun _ _ _ _ _ _ us hl => match us, hl with | [_, _], _ => rfl
  have F48 := fun_mk (st := sMade_) l48 d48 k48
  have B48 := F48.binds (ps := ["self", "node", "told"]) fun _ _ _ _ _ _ us hl => match us, hl with | [_, _, _], _ => rfl
  have F49 := fun_mk (st := sASteps) l49 d49 k49
  have B49 := F49.binds (ps := ["self"]) fun _ _ _ _ _ _ us hl => match us, hl with | [_], _ => rfl
  have TK : KTxt mg := ⟨(nn z3), (nn z4), (nn z5), (nn z6), (nn z7), (nn z8), (nn z9), ⟨t1, mg_of X G v1⟩⟩
  have DT : DTxt mg := ⟨(nn z8), (nn z10), (nn z11), (nn z4)⟩
  have LT : LTxt8 mg := ⟨(nn z2), (nn z14)⟩
  have NT : NTxt mg := ⟨(nn z3), (nn z6), (nn z8), (nn z7)⟩
  have KN : Kn K mg g0 g1 g2 _ _ _ := ⟨TK, F0, F1, F2, mg_of X G a0, mg_of X G a1, mg_of X G a2, ⟨t4, mg_of X G v4⟩, ⟨t3, mg_of X G v3⟩⟩
  have KE1 : Ke l.prog K mg cN cC cB cS eN eC eB eS := ⟨h0.e, h1.e, h2.e, h3.e, h0.g, h1.g, h2.g, h3.g, h0.r, h1.r, h2.r, h3.r, (nn z0), (nn z1), (nn z2), ⟨t2, mg_of X G v2⟩⟩
  have KEO : KeO l.prog K mg cA cL eA eL := ⟨h5.e, h6.e, h5.g, h6.g, h5.r, h6.r, (nn z0)⟩
  have KET : KeT l.prog K mg cT eT := ⟨h4.e, h4.g, h4.r, (nn z0)⟩
  have SC : SClx K C := ⟨⟨⟨pgC, hdC, poC, saC⟩, na0C⟩, caC, cgX, ctX, cmC, b5, b6⟩
  have OC : OCl K CO := ⟨⟨pgCO, hdCO, poCO, saCO⟩, na0CO, na1CO, na2CO, na3CO⟩
  have NC : NCl K CN := ⟨⟨pgCN, hdCN, poCN, saCN⟩, na0CN, na1CN, na2CN, na3CN⟩
  have PC : PCl K CP := ⟨⟨pgCP, hdCP, poCP, saCP⟩, na0CP, na1CP, na2CP, na3CP, na4CP⟩
  have AC : ACl K CA := ⟨⟨pgCA, hdCA, poCA, saCA⟩, na0CA, na1CA, na2CA, na3CA, na4CA⟩
  refine ⟨fnOf "law" "law" (defArgs sLaw8) (defBody sLaw8) (defScope sLaw8) .none kV19 dc19 pm19 an19 cd19 ct19, fun s v => .of_eq rfl, fun base _ _ => ?_⟩
  have hH : HasAt K C g24 _ := ⟨F24, fa24, fn24⟩
  have MK : MkS l.prog w K mg base cN cC cB C g20 _ := ⟨⟨mkC, fa20, fn20, kC⟩, ok_init F20 KN F4 (mg_of X G a4) KE1 SC.toSCl, B20, mg_of X G aC⟩
  have SM8 : SgM l.prog w K mg base C g25 pp21 g21 pp22 g22 g26 g24 _ _ _ _ _ := ⟨SC, fa25, fn25, ok_len F25 TK SC.toSCl, B25, ⟨fa21, fg21, ft21, _, fr21⟩, ok_names F21 (nn z2) SC.toSCl, B21, ⟨fa22, fg22, ft22, _, fr22⟩, ok_ways F22 (nn z15) SC.toSCl, B22, fa26, fn26, ok_eq F26 TK (nn z2) (mg_of X G aC) SC, B26, neC, fa24, fn24, ok_has F24 TK SC.toSCl, B24, nfC, nfLC⟩
  have AA : ArAt l.prog w K mg base cS C g23 _ := ⟨⟨fa23, fn23, k23⟩, ok_arity F23 TK KE1 SC.toSCl hH, B23⟩
  have GF : Cal l.prog w K mg base CX0 1 "_law_feed" g14 _ ["script", "k"] (spFeed K) := ⟨ok_feed F14 DT, mg_of X G a14, k14, B14⟩
  have GT : Cal l.prog w K mg base CX0 1 "_law_take" g15 _ ["feed", "many"] spTake := ⟨ok_take F15 DT, mg_of X G a15, k15, B15⟩
  have GP : Cal l.prog w K mg base CX0 2 "_law_pick" g16 _ ["feed", "some"] (spPick K) := ⟨ok_pick F16 DT F15 B15 (mg_of X G a15), mg_of X G a16, k16, B16⟩
  have GW : Cal l.prog w K mg base CX0 1 "is_word" g1 _ ["value", "letters"] (spWord K) := ⟨ok_word F1 TK, mg_of X G a1, k1, B1⟩
  have GH : Cal l.prog w K mg base CX0 3 "_has_head" g6 _ ["signs", "value"] (spHead K C) := ⟨ok_head F6 TK SC.toSCl hH AA, mg_of X G a6, k6, B6⟩
  have GI : Cal l.prog w K mg base CX0 4 "is_term" g5 _ ["signs", "value"] (spIsT K C) := ⟨ok_isTerm F5 TK GH GW ⟨t5, mg_of X G v5⟩, mg_of X G a5, k5, B5⟩
  have GC : Cal l.prog w K mg base CX0 1 "is_choice" g3 _ ["value", "names"] (spChoice K) := ⟨ok_choice F3 TK (nn z2), mg_of X G a3, k3, B3⟩
  have GFo : Cal l.prog w K mg base CX0 1 "_facts_of" g8 _ ["names", "lots", "ways"] (spFactsOf K) := ⟨ok_factsOf F8 (nn z1) (nn z15) (nn z7), mg_of X G a8, k8, B8⟩
  have MO : MkO l.prog w K mg base cA cL C CO g27 _ := ⟨⟨mkCO, fa27, fn27, kCO⟩, ok_oinit F27 TK KEO OC SM8 GC GFo (nn z2) (nn z15), B27, mg_of X G aCO⟩
  have GLk : Cal l.prog w K mg base (L2.CX l.prog w) 5 "look_at_terms" g7 _ ["signs", "s", "t"] (spLookT K cT C) := ⟨ok_lookT F7 KET GI, mg_of X G a7, k7, B7⟩
  have OM : OrM l.prog w K mg base C CO pp28 g28 pp29 g29 _ _ := ⟨OC, ⟨fa28, fg28, ft28, _, fr28⟩, ok_onames F28 (nn z2) OC, B28, ⟨fa29, fg29, ft29, _, fr29⟩, ok_olots F29 (nn z2) OC, B29⟩
  have FA : FnOk l.prog w K mg base CX0 1 g10 _ ["term"] (spArgs K) := ok_args F10 (nn z3) (nn z2) (nn z6)
  have FTW : FnOk l.prog w K mg base CX0 1 g33 _ ["self", "term", "places"] (spTW K CN (wordIn Uc)) := ok_TW F33 NT NC
  have FG : FnR l.prog w K mg base CX0 1 g33 (spTW K CN (wordIn Uc)) := (FTW.raw B33 .nil).imp fun vs H Q E h => by rw [List.append_nil]; exact h
  have FF : FnOk l.prog w K mg base CX0 2 g9 _ ["root", "children", "made"] (spFold K g10 g33 (spTW K CN (wordIn Uc))) := ok_folded (k := 0) F9 (nn z8) FA B10 k10 FG fi33
  have FTk : FnOk l.prog w K mg base CX0 3 g32 _ ["self", "term"] (spTakeN K CN (wordIn Uc)) := ok_takeN F32 NC ⟨⟨fa33, fn33, k33⟩, gf33, tk33, (by decide), fi33⟩ (mg_of X G a9) k9 B9 (mg_of X G a10) FF
  have NMx : NM l.prog w K mg base CN (wordIn Uc) g31 g32 _ _ := ⟨NC, ⟨mkCN, fa31, fn31, kCN⟩, mg_of X G aCN, ok_ninit F31 NC, B31, ⟨fa32, fn32, k32⟩, FTk, B32⟩
  have MP : PM l.prog w K mg base CN CP C CO (wordIn Uc) g38 _ := ⟨⟨mkCP, fa38, fn38, kCP⟩, mg_of X G aCP, ok_pinit F38 NMx PC OM (nn z1), B38⟩
  have PXx : PX l.prog w K mg base CN CP (wordIn Uc) g39 _ := ⟨PC, ⟨fa39, fn39, k39⟩, ok_case F39 NC PC, B39⟩
  have WAx : WX2 l.prog w K mg base CN CP (wordIn Uc) g40 _ := ⟨⟨fa40, fn40, k40⟩, ok_wargs F40 NC PC, B40⟩
  have NXx : NX l.prog w K mg base CN (wordIn Uc) g35 g36 g37 _ _ _ := ⟨⟨fa35, fn35, k35⟩, ok_FU F35 NC (nn z16), B35, ⟨fa36, fn36, k36⟩, ok_LO F36 NC (nn z2) (nn z13) (nn z8) (nn z1), B36, ⟨fa37, fn37, k37⟩, ok_NAt F37 NC, B37⟩
  have GB : Cal l.prog w K mg base CX0 1 "_bits" g11 _ ["numbers"] (spBits K) := ⟨ok_bits F11, mg_of X G a11, k11, B11⟩
  have HMx : HM l.prog w K mg base CN CP CA (wordIn Uc) g42 _ := ⟨⟨fa42, fn42, k42⟩, ok_holds F42 AC, B42⟩
  have RMx : RM l.prog w K mg base CN CP CA (wordIn Uc) g45 _ := ⟨⟨fa45, fn45, k45⟩, ok_rows F45 NC AC NXx HMx, B45⟩
  have BMx : BM l.prog w K mg base CN CP CA (wordIn Uc) g44 _ := ⟨⟨fa44, fn44, k44⟩, ok_byCase F44 NC AC NXx HMx PXx RMx (nn z8), B44⟩
  have FMx : FM l.prog w K mg base CN CP CA (wordIn Uc) g43 g34 _ _ := ⟨⟨fa43, fn43, k43⟩, ok_fill F43 NC AC BMx GB, B43, ⟨fa34, fn34, k34⟩, ok_partsOf F34 NC (nn z2), B34⟩
  have AMx : AM l.prog w K mg base CN CP CA (wordIn Uc) g41 _ := ⟨⟨mkCA, fa41, fn41, kCA⟩, mg_of X G aCA, ok_ainit F41 NC PC AC FMx GB (nn z15) (nn z13), B41⟩
  have GIa : Cal l.prog w K mg base CX0 7 "_is_above" g12 _ ["pair"] (spIsAbove K CN CP (wordIn Uc)) := ⟨ok_isAbove F12 PC AC AMx HMx, mg_of X G a12, k12, B12⟩
  have WMx : WM l.prog w K mg base CN CP CA (wordIn Uc) g46 _ := ⟨⟨fa46, fn46, k46⟩, ok_way F46 NC AC NXx HMx PXx RMx WAx (nn z1), B46⟩
  have FNe : FnOk l.prog w K mg base CX0 4 g47 _ ["self", "node"] (spNeeded K CN CP CA (wordIn Uc)) := ok_needed F47 AC WMx
  have FMd : FnOk l.prog w K mg base CX0 4 g48 _ ["self", "node", "told"] (spMade_ K CN CP CA (wordIn Uc)) := ok_made_ F48 AC WMx (nn z1) (nn z8)
  have RNe : FnR l.prog w K mg base CX0 4 g47 (spNeeded K CN CP CA (wordIn Uc)) := (FNe.raw B47 .nil).imp fun vs H Q E h => by rw [List.append_nil]; exact h
  have RMd : FnR l.prog w K mg base CX0 4 g48 (spMade_ K CN CP CA (wordIn Uc)) := (FMd.raw B48 .nil).imp fun vs H Q E h => by rw [List.append_nil]; exact h
  have GFd : Cal l.prog w K mg base CX0 5 "folded" g9 _ ["root", "children", "made"] (spFoldP K g47 g48 (spNeeded K CN CP CA (wordIn Uc)) (spMade_ K CN CP CA (wordIn Uc))) := ⟨ok_foldP (k := 3) F9 (nn z8) RNe fi47 RMd fi48, mg_of X G a9, k9, B9⟩
  have SMx : SM l.prog w K mg base CN CP CA (wordIn Uc) g49 _ := ⟨⟨fa49, fn49, k49⟩, ok_asteps F49 PC AC ⟨⟨fa47, fn47, k47⟩, gf47, tk47, (by decide), fi47⟩ ⟨⟨fa48, fn48, k48⟩, gf48, tk48, (by decide), fi48⟩ GFd, B49⟩
  have GSt : Cal l.prog w K mg base CX0 8 "steps" g13 _ ["order", "s", "t"] (spStepsG K C CO (wordIn Uc)) := ⟨ok_stepsG F13 OC PC AC GLk MP AMx HMx SMx, mg_of X G a13, k13, B13⟩
  have OCl8 : OrCall l.prog w K mg base C CO g30 g13 _ _ := ⟨⟨fa30, fn30, fiX⟩, ok_ocallG F30 OC GLk MP GIa, B30, GSt⟩
  have GWr : Cal l.prog w K mg base CX0 1 "_law_written" g17 _ [] (spWritten K) := ⟨ok_written F17, mg_of X G a17, k17, B17⟩
  have GTo : Cal l.prog w K mg base CX0 9 "_law_tower_right" g18 _ [] spTower := ⟨ok_tower F18 MK MO OCl8 (nn z13), mg_of X G a18, k18, B18⟩
  exact ok_law8 F19 LT MK MO OCl8 GF GP GWr GTo
theorem walk {l : OpenLaw} {q : Program} {loose : List Str} {XP : (Str → Option Value) → Heap → Prop} {YP : World → Heap → Prop} {d : DefRec} {K : Params → Frag} (hn : l.most = some 63) (hdf : d.params.defaults = []) (hY : ∀ (w : World) (h : Heap), YP w h → (K w.params).In h)
    (F : ∀ (w : World) (mg : Str → Option Value) (fa : Addr) (h : Heap), (K w.params).In h → h.Ns mainGlobals mg → mg d.name = some (.ref fa) →
      ∃ fd : FuncData, (∀ (s : Shared) (u : Value), BindsTo s fd ⟨[u], []⟩ [("script", u)]) ∧ ∀ base : Heap, (K w.params).In base → base.Ns mainGlobals mg → FnG l.prog w (K w.params) mg base CX0 10 fa fd ["script"] (spLaw8 (K w.params))) :
    WalkO q loose XP YP l.row.toRowW d [] (fun f vs => PySem.call f vs) :=
  walkG (n := 63) (k := 10) (x := "script") (CX := fun _ => CX0) (sp := fun w => spLaw8 (K w.params)) hn (by decide) hdf ⟨rfl, by decide, by decide⟩ hY F (fun _ _ a ns hl _ hS => ⟨a, ns, rfl, hS, fun _ => rfl⟩) fun _ _ _ _ _ z => z
end Sg

open PySem PySem.W PyProof.Rows
local macro_rules | `(tactic| walk_at "mkcl") => `(tactic| (
  refine' Sg.mkCl1 (by assumption) (by assumption) ?any ?top ?aC ?kC ?hC ?hbm ?sa ?iC ?tI ?lF ?hcd ?lc ?hv ?hfile ?lcell ?along ?subVE ?mro ?noF ?ga ?gg ?exC ?hdC ?tC ?ev ?bd ?kS ?kF ?kL ?kP;
  (case any => k_is); (case top => decide +kernel); (case aC => k_is); (case kC => k_is); (case hC => k_is); (case hbm => rfl); (case sa => k_is); (case iC => k_is); (case tI => k_is);
  (case lF => k_is); (case hcd => k_is); (case lc => k_is); (case hv => rfl); (case hfile => decide +kernel); (case lcell => k_is); (case along => kernel_rfl); (case subVE => k_is); (case mro => k_is);
  (case noF => (intro y hy; cases hy; try k_is)); (case ga => k_is); (case gg => k_is); (case exC => k_is); (case hdC => k_is); (case tC => k_is);
  (case ev => exact fun env => ⟨⟨_, rfl⟩, rfl⟩); (case bd => first | exact fun e v => ⟨rfl, rfl⟩ | exact fun e => rfl); (case kS => rfl); (case kF => rfl); (case kL => rfl); (case kP => (intro y hy; cases hy; try decide +kernel)); (all_goals exact (⟨0, 0, 0, 0⟩ : Pos))))
set_option maxRecDepth 100000 in
set_option maxHeartbeats 0 in
theorem PySem.Challenge.cw_shutbyrings_k08_known_comparisons_holds : PySem.Challenge.rw_shutbyrings_k08_known_comparisons.Holds := by
  w_on; o_law; k_head; (case hw => w_witness2)
  k_fill
  refine Sg.walk (l := PySem.Challenge.rw_shutbyrings_k08_known_comparisons) rfl rfl (fun w h Y => PySem.W.kIn_of Y) ?F
  case F =>
    intro w mg fa h KX G hmg
    refine' Sg.all_mk KX G hmg ?h0 ?h1 ?h2 ?h3 ?h4 ?h5 ?h6 ?a0 ?l0 ?d0 ?k0 ?a1 ?l1 ?d1 ?k1 ?a2 ?l2 ?d2 ?k2 ?a3 ?l3 ?d3 ?k3 ?a4 ?l4 ?d4 ?k4 ?a5 ?l5 ?d5 ?k5 ?a6 ?l6 ?d6 ?k6 ?a7 ?l7 ?d7 ?k7 ?a8 ?l8 ?d8 ?k8 ?a9 ?l9 ?d9 ?k9 ?a10 ?l10 ?d10 ?k10 ?a11 ?l11 ?d11 ?k11 ?a12 ?l12 ?d12 ?k12 ?a13 ?l13 ?d13 ?k13 ?a14 ?l14 ?d14 ?k14 ?a15 ?l15 ?d15 ?k15 ?a16 ?l16 ?d16 ?k16 ?a17 ?l17 ?d17 ?k17 ?a18 ?l18 ?d18 ?k18 ?a19 ?l19 ?d19 ?k19 ?aC ?kC ?mkC ?pgC ?hdC ?poC ?saC ?caC ?cmC ?neC ?nfC ?nfLC ?na0C ?fa20 ?fn20 ?l20 ?d20 ?k20 ?fa21 ?fg21 ?ft21 ?fr21 ?l21 ?d21 ?k21 ?fa22 ?fg22 ?ft22 ?fr22 ?l22 ?d22 ?k22 ?fa23 ?fn23 ?l23 ?d23 ?k23 ?fa24 ?fn24 ?l24 ?d24 ?k24 ?fa25 ?fn25 ?l25 ?d25 ?k25 ?fa26 ?fn26 ?l26 ?d26 ?k26 ?aCO ?kCO ?mkCO ?pgCO ?hdCO ?poCO ?saCO ?na0CO ?na1CO ?na2CO ?na3CO ?fa27 ?fn27 ?l27 ?d27 ?k27 ?fa28 ?fg28 ?ft28 ?fr28 ?l28 ?d28 ?k28 ?fa29 ?fg29 ?ft29 ?fr29 ?l29 ?d29 ?k29 ?fa30 ?fn30 ?l30 ?d30 ?k30 ?aCN ?kCN ?mkCN ?pgCN ?hdCN ?poCN ?saCN ?na0CN ?na1CN ?na2CN ?na3CN ?fa31 ?fn31 ?l31 ?d31 ?k31 ?fa32 ?fn32 ?l32 ?d32 ?k32 ?fa33 ?fn33 ?gf33 ?tk33 ?fi33 ?l33 ?d33 ?k33 ?fa34 ?fn34 ?l34 ?d34 ?k34 ?fa35 ?fn35 ?l35 ?d35 ?k35 ?fa36 ?fn36 ?l36 ?d36 ?k36 ?fa37 ?fn37 ?l37 ?d37 ?k37 ?aCP ?kCP ?mkCP ?pgCP ?hdCP ?poCP ?saCP ?na0CP ?na1CP ?na2CP ?na3CP ?na4CP ?fa38 ?fn38 ?l38 ?d38 ?k38 ?fa39 ?fn39 ?l39 ?d39 ?k39 ?fa40 ?fn40 ?l40 ?d40 ?k40 ?aCA ?kCA ?mkCA ?pgCA ?hdCA ?poCA ?saCA ?na0CA ?na1CA ?na2CA ?na3CA ?na4CA ?fa41 ?fn41 ?l41 ?d41 ?k41 ?fa42 ?fn42 ?l42 ?d42 ?k42 ?fa43 ?fn43 ?l43 ?d43 ?k43 ?fa44 ?fn44 ?l44 ?d44 ?k44 ?fa45 ?fn45 ?l45 ?d45 ?k45 ?fa46 ?fn46 ?l46 ?d46 ?k46 ?fa47 ?fn47 ?gf47 ?tk47 ?fi47 ?l47 ?d47 ?k47 ?fa48 ?fn48 ?gf48 ?tk48 ?fi48 ?l48 ?d48 ?k48 ?fa49 ?fn49 ?l49 ?d49 ?k49 ?cgX ?ctX ?fiX ?z0 ?z1 ?z2 ?z3 ?z4 ?z5 ?z6 ?z7 ?z8 ?z9 ?z10 ?z11 ?z12 ?z13 ?z14 ?z15 ?z16 ?v1 ?v2 ?v3 ?v4 ?v5 ?w1 ?w2 ?w3 ?w4 ?w5 ?kb
    (case h0 => walk_at "mkcl")
    (case h1 => walk_at "mkcl")
    (case h2 => walk_at "mkcl")
    (case h3 => walk_at "mkcl")
    (case h4 => walk_at "mkcl")
    (case h5 => walk_at "mkcl")
    (case h6 => walk_at "mkcl")
    (case a0 => k_is)
    (case l0 => k_is)
    (case d0 => k_is)
    (case k0 => k_is)
    (case a1 => k_is)
    (case l1 => k_is)
    (case d1 => k_is)
    (case k1 => k_is)
    (case a2 => k_is)
    (case l2 => k_is)
    (case d2 => k_is)
    (case k2 => k_is)
    (case a3 => k_is)
    (case l3 => k_is)
    (case d3 => k_is)
    (case k3 => k_is)
    (case a4 => k_is)
    (case l4 => k_is)
    (case d4 => k_is)
    (case k4 => k_is)
    (case a5 => k_is)
    (case l5 => k_is)
    (case d5 => k_is)
    (case k5 => k_is)
    (case a6 => k_is)
    (case l6 => k_is)
    (case d6 => k_is)
    (case k6 => k_is)
    (case a7 => k_is)
    (case l7 => k_is)
    (case d7 => k_is)
    (case k7 => k_is)
    (case a8 => k_is)
    (case l8 => k_is)
    (case d8 => k_is)
    (case k8 => k_is)
    (case a9 => k_is)
    (case l9 => k_is)
    (case d9 => k_is)
    (case k9 => k_is)
    (case a10 => k_is)
    (case l10 => k_is)
    (case d10 => k_is)
    (case k10 => k_is)
    (case a11 => k_is)
    (case l11 => k_is)
    (case d11 => k_is)
    (case k11 => k_is)
    (case a12 => k_is)
    (case l12 => k_is)
    (case d12 => k_is)
    (case k12 => k_is)
    (case a13 => k_is)
    (case l13 => k_is)
    (case d13 => k_is)
    (case k13 => k_is)
    (case a14 => k_is)
    (case l14 => k_is)
    (case d14 => k_is)
    (case k14 => k_is)
    (case a15 => k_is)
    (case l15 => k_is)
    (case d15 => k_is)
    (case k15 => k_is)
    (case a16 => k_is)
    (case l16 => k_is)
    (case d16 => k_is)
    (case k16 => k_is)
    (case a17 => k_is)
    (case l17 => k_is)
    (case d17 => k_is)
    (case k17 => k_is)
    (case a18 => k_is)
    (case l18 => k_is)
    (case d18 => k_is)
    (case k18 => k_is)
    (case a19 => k_is)
    (case l19 => k_is)
    (case d19 => k_is)
    (case k19 => k_is)
    (case aC => k_is)
    (case kC => k_is)
    (case mkC => k_is)
    (case pgC => k_is)
    (case hdC => k_is)
    (case poC => k_is)
    (case saC => k_is)
    (case caC => k_is)
    (case cmC => k_is)
    (case neC => k_is)
    (case nfC => k_is)
    (case nfLC => k_is)
    (case na0C => k_is)
    (case fa20 => k_is)
    (case fn20 => k_is)
    (case l20 => k_is)
    (case d20 => k_is)
    (case k20 => k_is)
    (case fa21 => k_is)
    (case fg21 => k_is)
    (case ft21 => k_is)
    (case fr21 => k_is)
    (case l21 => k_is)
    (case d21 => k_is)
    (case k21 => k_is)
    (case fa22 => k_is)
    (case fg22 => k_is)
    (case ft22 => k_is)
    (case fr22 => k_is)
    (case l22 => k_is)
    (case d22 => k_is)
    (case k22 => k_is)
    (case fa23 => k_is)
    (case fn23 => k_is)
    (case l23 => k_is)
    (case d23 => k_is)
    (case k23 => k_is)
    (case fa24 => k_is)
    (case fn24 => k_is)
    (case l24 => k_is)
    (case d24 => k_is)
    (case k24 => k_is)
    (case fa25 => k_is)
    (case fn25 => k_is)
    (case l25 => k_is)
    (case d25 => k_is)
    (case k25 => k_is)
    (case fa26 => k_is)
    (case fn26 => k_is)
    (case l26 => k_is)
    (case d26 => k_is)
    (case k26 => k_is)
    (case aCO => k_is)
    (case kCO => k_is)
    (case mkCO => k_is)
    (case pgCO => k_is)
    (case hdCO => k_is)
    (case poCO => k_is)
    (case saCO => k_is)
    (case na0CO => k_is)
    (case na1CO => k_is)
    (case na2CO => k_is)
    (case na3CO => k_is)
    (case fa27 => k_is)
    (case fn27 => k_is)
    (case l27 => k_is)
    (case d27 => k_is)
    (case k27 => k_is)
    (case fa28 => k_is)
    (case fg28 => k_is)
    (case ft28 => k_is)
    (case fr28 => k_is)
    (case l28 => k_is)
    (case d28 => k_is)
    (case k28 => k_is)
    (case fa29 => k_is)
    (case fg29 => k_is)
    (case ft29 => k_is)
    (case fr29 => k_is)
    (case l29 => k_is)
    (case d29 => k_is)
    (case k29 => k_is)
    (case fa30 => k_is)
    (case fn30 => k_is)
    (case l30 => k_is)
    (case d30 => k_is)
    (case k30 => k_is)
    (case aCN => k_is)
    (case kCN => k_is)
    (case mkCN => k_is)
    (case pgCN => k_is)
    (case hdCN => k_is)
    (case poCN => k_is)
    (case saCN => k_is)
    (case na0CN => k_is)
    (case na1CN => k_is)
    (case na2CN => k_is)
    (case na3CN => k_is)
    (case fa31 => k_is)
    (case fn31 => k_is)
    (case l31 => k_is)
    (case d31 => k_is)
    (case k31 => k_is)
    (case fa32 => k_is)
    (case fn32 => k_is)
    (case l32 => k_is)
    (case d32 => k_is)
    (case k32 => k_is)
    (case fa33 => k_is)
    (case fn33 => k_is)
    (case gf33 => k_is)
    (case tk33 => k_is)
    (case fi33 => k_is)
    (case l33 => k_is)
    (case d33 => k_is)
    (case k33 => k_is)
    (case fa34 => k_is)
    (case fn34 => k_is)
    (case l34 => k_is)
    (case d34 => k_is)
    (case k34 => k_is)
    (case fa35 => k_is)
    (case fn35 => k_is)
    (case l35 => k_is)
    (case d35 => k_is)
    (case k35 => k_is)
    (case fa36 => k_is)
    (case fn36 => k_is)
    (case l36 => k_is)
    (case d36 => k_is)
    (case k36 => k_is)
    (case fa37 => k_is)
    (case fn37 => k_is)
    (case l37 => k_is)
    (case d37 => k_is)
    (case k37 => k_is)
    (case aCP => k_is)
    (case kCP => k_is)
    (case mkCP => k_is)
    (case pgCP => k_is)
    (case hdCP => k_is)
    (case poCP => k_is)
    (case saCP => k_is)
    (case na0CP => k_is)
    (case na1CP => k_is)
    (case na2CP => k_is)
    (case na3CP => k_is)
    (case na4CP => k_is)
    (case fa38 => k_is)
    (case fn38 => k_is)
    (case l38 => k_is)
    (case d38 => k_is)
    (case k38 => k_is)
    (case fa39 => k_is)
    (case fn39 => k_is)
    (case l39 => k_is)
    (case d39 => k_is)
    (case k39 => k_is)
    (case fa40 => k_is)
    (case fn40 => k_is)
    (case l40 => k_is)
    (case d40 => k_is)
    (case k40 => k_is)
    (case aCA => k_is)
    (case kCA => k_is)
    (case mkCA => k_is)
    (case pgCA => k_is)
    (case hdCA => k_is)
    (case poCA => k_is)
    (case saCA => k_is)
    (case na0CA => k_is)
    (case na1CA => k_is)
    (case na2CA => k_is)
    (case na3CA => k_is)
    (case na4CA => k_is)
    (case fa41 => k_is)
    (case fn41 => k_is)
    (case l41 => k_is)
    (case d41 => k_is)
    (case k41 => k_is)
    (case fa42 => k_is)
    (case fn42 => k_is)
    (case l42 => k_is)
    (case d42 => k_is)
    (case k42 => k_is)
    (case fa43 => k_is)
    (case fn43 => k_is)
    (case l43 => k_is)
    (case d43 => k_is)
    (case k43 => k_is)
    (case fa44 => k_is)
    (case fn44 => k_is)
    (case l44 => k_is)
    (case d44 => k_is)
    (case k44 => k_is)
    (case fa45 => k_is)
    (case fn45 => k_is)
    (case l45 => k_is)
    (case d45 => k_is)
    (case k45 => k_is)
    (case fa46 => k_is)
    (case fn46 => k_is)
    (case l46 => k_is)
    (case d46 => k_is)
    (case k46 => k_is)
    (case fa47 => k_is)
    (case fn47 => k_is)
    (case gf47 => k_is)
    (case tk47 => k_is)
    (case fi47 => k_is)
    (case l47 => k_is)
    (case d47 => k_is)
    (case k47 => k_is)
    (case fa48 => k_is)
    (case fn48 => k_is)
    (case gf48 => k_is)
    (case tk48 => k_is)
    (case fi48 => k_is)
    (case l48 => k_is)
    (case d48 => k_is)
    (case k48 => k_is)
    (case fa49 => k_is)
    (case fn49 => k_is)
    (case l49 => k_is)
    (case d49 => k_is)
    (case k49 => k_is)
    (case cgX => k_is)
    (case ctX => k_is)
    (case z0 => k_is)
    (case z1 => k_is)
    (case z2 => k_is)
    (case z3 => k_is)
    (case z4 => k_is)
    (case z5 => k_is)
    (case z6 => k_is)
    (case z7 => k_is)
    (case z8 => k_is)
    (case z9 => k_is)
    (case z10 => k_is)
    (case z11 => k_is)
    (case z12 => k_is)
    (case z13 => k_is)
    (case z14 => k_is)
    (case z15 => k_is)
    (case z16 => k_is)
    (case fiX => first | k_is | kernel_rfl | rfl)
    (case v1 => k_is); (case v2 => k_is); (case v3 => k_is); (case v4 => k_is); (case v5 => k_is)
    (case w1 => rfl); (case w2 => rfl); (case w3 => rfl); (case w4 => decide +kernel); (case w5 => decide +kernel)
    (case kb => kernel_rfl)
