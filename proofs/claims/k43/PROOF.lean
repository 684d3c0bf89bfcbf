import PyProof.Rows.All
import Wide.All
import OpenK.AllK
import Wide.FinOn
import HandS.Base
import HandS.Call
import HandS.List
import HandS.Ends
import HandS.Words
import HandS.Exc
import HandS.ExcOwn
import HandS.ExcInit
import HandS.ExcField
import HandS.ExcIs
import HandS.WordsExc
import HandS.TryOnly
import HandS.TryMany
import KE.KExcIs
import PyProof.ReprRoads
import HandS.Wide
import HandS.IsInst
import HandS.Defaults
import HandS.Style
import HandS.Comp
import HandS.Flow
import HandS.Iter
import HandS.Zip
import HandS.CallLocal
import HandS.Dict
import HandS.Walk
import HandS.MakeKw
import HandS.Deep
import PyProof.InstNe
import PyProof.InstEq
import HandS.OwnEq
import PyProof.TupleOfSeq
import PyProof.Rows.SortWalk
import HandS.ExcValue
import PyProof.InstStore
import PyProof.ExcFactsAll.IndexError
import PyProof.ExcBaseAll.IndexError
import PyProof.ExcBaseAll.LookupError
import PyProof.ExcBaseAll.ArithmeticError
import PyProof.ExcBaseAll.RuntimeError
import KE.KExcInit
import KE.KTryMore
import PySem.Challenge.RW_besttelling_k43_walked_between_corners
set_option Elab.async false
set_option linter.all false
set_option maxRecDepth 100000
set_option maxHeartbeats 4000000
namespace BX
open PySem PySem.Spec PyProof.Rows L2
/-! ### several clauses «except x as n» -/
structure Clause where
  cls : Value
  slot : Nat
  ts : Addr → Value → Option Addr → TS
def wClauses (K : PySem.W.Frag) (Wout : WX) (D : Ends) : List Clause → WX
  | [] => Wout
  | c :: r => wAs K c.cls c.slot c.ts (wClauses K Wout D r) D
inductive ClausesOk (X : Cx) : List ExceptHandler → List Clause → Prop
  | nil : ClausesOk X [] []
  | cons {x n : Str} {c : Value} {i : Nat} {ts : Addr → Value → Option Addr → TS} {b₀ : Stmt} {suite : List Stmt} {np pos' : Pos} {hds : List ExceptHandler} {l : List Clause} (hi : X.N[i]? = some n) (hln : X.env.kindOf n = some .local) (hc : Names X x c)
      (hsu : ∀ (a : Addr) (oe : Obj) (cls : Value) (d : Option Addr) (pn : List (Addr × Obj)), Zc cls d oe → (∃ vs, oe.data = .fields vs) → PSs (X.suite a ((a, oe) :: pn)) (b₀ :: suite) (ts a cls d)) (r : ClausesOk X hds l) :
      ClausesOk X (.ExceptHandler (some (.Name x np)) (some n) (b₀ :: suite) pos' :: hds) (⟨c, i, ts⟩ :: l)
section
variable {X : Cx} {body : List Stmt} {h₀ : ExceptHandler} {hds : List ExceptHandler} {l : List Clause} {pos : Pos} {tb : WX → TS} {Wout : WX}
theorem ps_try_clauses (hs : X.stack = X.env :: X.outer) (hf : X.env.frame = some X.env.locals) (hN : X.N.Nodup) (tk : Takes X Wout)
    (hb : ∀ (W : WX) (pn : List (Addr × Obj)) (xe : Value → Shared → Prop), Takes (X.tr pn xe) W → PassesOwn (model X.prog X.w) X.A X.env xe → PSs (X.tr pn xe) body (tb W))
    (hh : ClausesOk X (h₀ :: hds) l) : PS X (.Try body (h₀ :: hds) [] [] pos) (fun D σ H => tb (wClauses X.K Wout D l) D σ H) := by
  refine ⟨fun pins s σ H D I h => ?_⟩
  have ok := I.ok
  have hfr : X.A.frames = some (X.env :: X.outer) := by rw [ok.frames, hs]
  refine wpAny_Try_except ?_
  refine wpAny_mono ((hb (wClauses X.K Wout D l) (X.pn ++ pins) (fun e s₁ => wpAny (model X.prog X.w) X.A (noteFrame e X.env) (fun _ s₂ => wpAny (model X.prog X.w) X.A (setFlight e none) (fun _ s₃ =>
    wpAny (model X.prog X.w) X.A (handleBy e X.env (h₀ :: hds)) (SP X pins D) X.xe s₃) X.xe s₂) X.xe s₁) (fun u s' xx => ?_) PassesOwn.looking).run [] s σ H D (I.toTry _) h) (fun f s1 hsp => ?_) (fun e s1 he => he)
  · obtain ⟨a, B, sI, pins', σ', H', cls, d, rfl, J', nb, up, sky, na, os, ag, ww⟩ := xx
    have J : Inv X pins σ' H' sI := J'.ofTry ok
    have sky' : Sky B (X.env :: X.outer) a (Zc cls d) X.env.locals s'.heap := by rw [← hs]; exact sky
    show wpAny (model X.prog X.w) X.A (noteFrame (.ref a) X.env) _ _ _
    refine Sky.land Zc.steady hfr hf sky' fun h3 fl3 up3 => ?_
    have J3 : Inv X pins σ' H' { s' with heap := h3 } := J.landed nb fl3.1 (up.trans up3) os ag
    obtain ⟨oe3, vs3, he3, hz3, hd3⟩ := fl3.there
    have nfr : a ∉ frs (X.env :: X.outer) := fun hm => by
      obtain ⟨_, o', e', hnf⟩ := fl3.2.2.1.mem hm
      rw [he3] at e'; cases e'
      exact hnf _ hd3
    have nL : a ≠ X.env.locals := fun z => nfr (List.mem_filterMap.mpr ⟨X.env, List.mem_cons_self, by rw [hf, z]⟩)
    have nF : a ∉ X.fs := fun hm => by
      obtain ⟨e, he, q⟩ := List.mem_filterMap.mp hm
      exact nfr (List.mem_filterMap.mpr ⟨e, List.mem_cons_of_mem _ he, q⟩)
    have S3 := J3.suite he3 hd3 na nL nF
    have go : ∀ {hds' : List ExceptHandler} {l' : List Clause}, ClausesOk X hds' l' → wClauses X.K Wout D l' cls d σ' H' →
        wpAny (model X.prog X.w) X.A (handleBy (.ref a) X.env hds') (SP X pins D) X.xe { s' with heap := h3 } := by
      intro hds' l' hk
      induction hk with
      | nil =>
        intro ww
        refine wpAny_handleBy_nil ?_
        obtain ⟨k1, k2, k3, oe, vs, T, oT, ts', he, hz, hd, h1, hr⟩ := id fl3
        unfold PySem.passOn
        refine wpAny_bind (wpAny_field he hd h1 ?_)
        rw [if_neg (show ¬ ((Value.ref T == Value.none) = true) from by simp)]
        have fin : wpAny (model X.prog X.w) X.A (setFlight (.ref a) X.env.frame) (fun _ s4 => wpAny (model X.prog X.w) X.A (throw (.ref a) : Sem Flow) (SP X pins D) X.xe s4) X.xe { s' with heap := h3 } := by
          rw [hf]
          refine HandSPX.setFlight_upZ fl3 fun h4 hh4 up4 => wpAny_throw (tk _ _ ?_)
          exact ⟨a, B, sI, pins, σ', H', cls, d, rfl, J, nb, (up.trans up3).trans up4, .inr (.inr (by rw [hs]; exact hh4)), na, os, ag, ww⟩
        first
          | exact wpAny_bind (wpAny_pure (wpAny_bind fin))
          | exact wpAny_bind fin
      | @cons x n c i ts b₀ suite np pos' hds2 l2 hi hln hc hsu r ih =>
        intro ww
        have hloc : Loc X.env.scope n := .inl hln
        obtain ⟨b, hb1, hyes, hno⟩ := ww
        refine wpAny_handleBy_cons (codeAny_handlers_test ?_) (by intro q; cases q)
        have LT : PySem.W.Looks (model X.prog X.w) h3 (typeOf (.ref a)) cls := fun A Q E s k q => wpAny_typeOf_ref (k _ _ he3) (by rw [hz3.1]; exact q)
        have LM := PySem.W.exm_one (M := model X.prog X.w) (J3.kIn) LT hb1
        have test : ∀ {Q : Value → Shared → Prop} {E : Value → Shared → Prop}, Q c { s' with heap := h3 } → wpAny (model X.prog X.w) (X.A.mark (some (.ref a))) (eval (.Name x np) X.env) Q E { s' with heap := h3 } := fun {Q E} q => by
          obtain ⟨hg, hdbg, hm | ⟨hm, hv, hnn⟩⟩ := hc
          · exact ld_glob (X := X.suite a ((a, oe3) :: (X.pn ++ pins))) S3 hg hm q hdbg
          · exact ld_blt (X := X.suite a ((a, oe3) :: (X.pn ++ pins))) S3 hg hm hv q hnn hdbg
        refine test (LM.here ?_)
        cases b with
        | true =>
          refine codeAny_handlers_suite_as ?_
          refine HandSPX.lands_againZ fl3 fun h4 fl4 up4 => ?_
          have J4 : Inv X pins σ' H' { s' with heap := h4 } := J.landed nb fl4.1 ((up.trans up3).trans up4) os ag
          obtain ⟨oe4, vs4, he4, hz4, hd4⟩ := fl4.there
          have S4 := J4.suite he4 hd4 na nL nF
          refine store_ok (X := X.suite a ((a, oe4) :: (X.pn ++ pins))) (v := .ref a) S4 hN hi hloc rfl (fun s5 S5 => ?_) (.inr hln)
          refine wpAny_mono ((hsu a oe4 cls d (X.pn ++ pins) hz4 ⟨_, hd4⟩).run [] s5 _ H' _ S5 (hyes rfl a na)) (fun f s6 hsp => ?_) (fun _ _ z => False.elim z)
          have end_ : ∀ {σ6 : L2.St} {H6 : Hp} {Q : Shared → Prop}, Inv (X.suite a ((a, oe4) :: (X.pn ++ pins))) [] σ6 H6 s6 → (∀ s7, Inv X pins (σ6.set i none) H6 s7 → Q s7) →
              wpAny (model X.prog X.w) X.A (do bindName X.env n .none; unbindBehindTheSuite X.env n pos') (fun _ s7 => Q s7) X.xe s6 := fun {σ6 H6 Q} S6 hq => gone_ok (S6.unsuite ok) hN hi hln hq
          cases f with
          | next =>
            obtain ⟨σ6, H6, S6, q6⟩ := hsp
            exact end_ S6 fun s7 J7 => ⟨_, _, J7, q6⟩
          | brk =>
            obtain ⟨σ6, H6, S6, q6⟩ := hsp
            exact end_ S6 fun s7 J7 => ⟨_, _, J7, q6⟩
          | cont =>
            obtain ⟨σ6, H6, S6, q6⟩ := hsp
            exact end_ S6 fun s7 J7 => ⟨_, _, J7, q6⟩
          | ret u =>
            obtain ⟨v6, σ6, H6, S6, r6, q6⟩ := hsp
            exact end_ S6 fun s7 J7 => ⟨_, _, _, J7, r6, q6⟩
        | false =>
          show wpAny _ X.A (handleBy (.ref a) X.env hds2) _ _ _
          exact ih (hno rfl)
    exact go hh ww
  · cases f with
    | next =>
      obtain ⟨σ', H', J', q⟩ := hsp
      exact wpAny_execs_nil ⟨σ', H', J'.ofTry ok, q⟩
    | brk =>
      obtain ⟨σ', H', J', q⟩ := hsp
      exact ⟨σ', H', J'.ofTry ok, q⟩
    | cont =>
      obtain ⟨σ', H', J', q⟩ := hsp
      exact ⟨σ', H', J'.ofTry ok, q⟩
    | ret u =>
      obtain ⟨v, σ', H', J', r, q⟩ := hsp
      exact ⟨v, σ', H', J'.ofTry ok, r, q⟩
end
/-! ### isinstance of a caught error, with or without fields -/
def rIsX (K : PySem.W.Frag) (D a : Addr) (cls : Value) (d : Option Addr) : List V → Hp → VK → Prop := fun xs H Q => ∃ (c : V) (u : Value) (b : Bool), xs = [.ref a, c] ∧ cls = .ref D ∧ ClsE c u ∧ (d = none ∨ ∃ dd fs, d = some dd ∧ H dd = some (.xd fs)) ∧ PySem.W.kitOne K (.ref D) u = some b ∧ Q (.bl b) H
where ClsE (c : V) (u : Value) : Prop := ∀ w, RelV c w → w = u
theorem call_isX {X : Cx} {a D : Addr} {oe : Obj} {cls : Value} {d : Option Addr} {pn : List (Addr × Obj)} (C : ExcC X.K D) (hz : Zc cls d oe) (hf : ∃ vs, oe.data = .fields vs) : CallR (X.suite a ((a, oe) :: pn)) (.builtin "isinstance") (rIsX X.K D a cls d) := by
  intro pins s σ H xs us Q I r h
  obtain ⟨c, u, b, rfl, rfl, hcv, hdd, e, q⟩ := h
  cases r with
  | cons rx rr =>
    cases rr with
    | cons rt rr =>
      cases rr
      cases rx
      have ec := hcv _ rt
      subst ec
      obtain ⟨hget, _⟩ := I.pin (a, oe) (List.mem_append.mpr (.inl List.mem_cons_self))
      obtain ⟨vs, hv⟩ := hf
      have hcl : (PySem.W.clsIn X.K D).isSome = true := by
        obtain ⟨cd, hc, _⟩ := PySem.W.any_some C.hd
        rw [hc]
        rfl
      have J : ∃ od, PySem.W.InstAt s.heap a oe D od := by
        obtain ⟨oc, od, oda, osl⟩ := oe
        obtain ⟨h1, h2⟩ := hz
        dsimp only at h1 h2 hv
        subst h1 h2 hv
        rcases hdd with rfl | ⟨dd, fs, rfl, hx⟩
        · exact ⟨none, hget, rfl, rfl, trivial⟩
        · obtain ⟨o, ho⟩ := objOk_get (I.hok dd _ hx)
          exact ⟨some o, hget, rfl, rfl, ho⟩
      obtain ⟨od, J⟩ := J
      exact PySem.W.kia_one (PySem.W.kitx_exc hcl C.hg C.hk C.hs C.ha C.hn C.ht C.hm) I.kIn J e (fun z => nomatch z) fun tk => ⟨.bl b, H, I.kept (t' := tk) fun _ _ z => z, rfl, q⟩
end BX

set_option Elab.async false
set_option linter.all false
set_option maxRecDepth 100000
set_option maxHeartbeats 4000000
namespace BX
open PySem PySem.Spec PyProof.Rows L2
/-! ### promises of defs that are called where nothing is being shown -/
structure FnOkG (P : Program) (w : World) (K : PySem.W.Frag) (mg : Str → Option Value) (base : Heap) (CX : CXT) (k : Nat) (f : Addr) (fd : FuncData) (ps : List Str) (sp : Sp) : Prop where
  len : ∀ vs H Q E, sp vs H Q E → vs.length = ps.length
  run : ∀ (A : Around) (outer : List Env) (s : Shared) (H : Hp) (args : Args) (us : List Value) (vs : List V) (Q : VK) (E : XK), Room k A → A.guards = some [] → Env0 P w K mg base A outer s H → BindsTo s fd args (ps.zip us) → Vals vs us → sp vs H Q E →
    codeAny (model P w) A (.call (.ref f) args) (CR CX outer P w H s Q E) s
section
variable {P : Program} {w : World} {K : PySem.W.Frag} {mg : Str → Option Value} {base : Heap} {CX : CXT} {k : Nat} {f : Addr} {fd : FuncData} {ps : List Str} {sp : Sp}
theorem FnOkG.of (F : FnOk P w K mg base CX k f fd ps sp) : FnOkG P w K mg base CX k f fd ps sp := ⟨F.len, fun A outer s H args us vs Q E hr _ e b r h => F.run A outer s H args us vs Q E hr e b r h⟩
theorem FnOkG.mono {j : Nat} (F : FnOkG P w K mg base CX j f fd ps sp) (h : j ≤ k) : FnOkG P w K mg base CX k f fd ps sp := ⟨F.len, fun A outer s H args us vs Q E hr => F.run A outer s H args us vs Q E (hr.mono h)⟩
/-- the body of such a def -/
theorem fn_ofG {name qual : Str} {params : Arguments} {body : List Stmt} {scope : Scope} {dV kV doc pm cdv ct oc : Value} {an od : Option Addr} {osl : Array (Option Value)} {N : List Str}
    (lk : K.lookup f = some ⟨oc, od, .func (PySem.W.fnOf name qual params body scope dV kV doc pm an cdv ct), osl⟩) (hcd : PySem.W.codeIn K cdv qual = true) (S : FnScope N ps scope) (len : ∀ vs H Q E, sp vs H Q E → vs.length = ps.length)
    (hbody : ∀ (A : Around) (outer : List Env) (s : Shared) (H : Hp) (vs : List V) (Q : VK) (E : XK), Room k (A.deeper (envOfC qual scope s.heap.objs.size f cdv)) → (A.deeper (envOfC qual scope s.heap.objs.size f cdv)).guards = some [] → sp vs H Q E →
      ∃ t, PSs (cxOf CX P w K mg base N qual scope f cdv A outer s H E) body t ∧ t { nx := fun _ H' => Q .non H', rt := Q } (start N vs) H) :
    FnOkG P w K mg base CX (k + 1) f (PySem.W.fnOf name qual params body scope dV kV doc pm an cdv ct) ps sp := by
  refine ⟨len, fun A outer s H args us vs Q E hr hgd e0 hb r hsp => ?_⟩
  have KX : K.In s.heap := e0.mod.kin.keeps fun b o e => (e0.bs b o e).1
  have lim : s.heap.NoLimit := e0.mod.nolimit.keeps fun b o e => (e0.bs b o e).1
  have hkind : ∀ y ∈ ps.zip us, scope.names.lookup y.1 = some .local ∨ (scope.names.lookup y.1 = some .cell ∧ ((cellsFrom (s.heap.objs.size + 1) scope.names []).lookup y.1).isSome = true) := fun ⟨n, v⟩ hy => by
    rcases S.par n (List.of_mem_zip hy).1 with q | q
    · exact .inl q
    · exact .inr ⟨q, PySem.W.cellsFrom_some _ _ _ (.inl q)⟩
  refine codeAny_call_function hr.depth (KX _ _ lk) rfl S.co S.gen rfl (PySem.W.codeRec_of KX hcd) (hb _ _ _ _ ?_)
  refine wpAny_newFunctionEnv_cells S.kind hkind fun env he s1 x => ?_
  subst he
  refine ⟨lim.keeps x.toInCall.keep, codeAny_func ?_⟩
  obtain ⟨t, ht, hq⟩ := hbody A outer s H vs Q E (hr.deeper _) hgd hsp
  have I : Inv (cxOf CX P w K mg base N qual scope f cdv A outer s H E) [] (start N vs) H s1 := inv_start S hr.hd e0 (len _ _ _ _ hsp) r x
  refine wpAny_mono (ht.run [] s1 (start N vs) H _ I hq) (fun fl s' hs => ?_) fun e s' hs => hs
  have fin : ∀ {σ' : L2.St} {H' : Hp} {v : V} {u : Value}, Inv (cxOf CX P w K mg base N qual scope f cdv A outer s H E) [] σ' H' s' → RelV v u → Q v H' → CE outer P w H s Q u s' :=
    fun {σ' H' v u} J rv q => ⟨v, H', J.os, J.bare, J.base, J.hok, rv, q⟩
  cases fl with
  | ret u =>
    obtain ⟨v, σ', H', J, rv, q⟩ := hs
    exact fin J rv q
  | next =>
    obtain ⟨σ', H', J, q⟩ := hs
    exact fin (v := V.non) (u := Value.none) J rfl q
  | brk =>
    obtain ⟨_, _, _, q⟩ := hs
    exact False.elim q
  | cont =>
    obtain ⟨_, _, _, q⟩ := hs
    exact False.elim q
theorem okG {x qual : Str} {st : Stmt} {N : List Str} (F : Fun K x qual st f fd) (S : FnScope N ps (defScope st)) (len : ∀ vs H Q E, sp vs H Q E → vs.length = ps.length)
    (hbody : ∀ (cdv : Value) (A : Around) (outer : List Env) (s : Shared) (H : Hp) (vs : List V) (Q : VK) (E : XK), Room k (A.deeper (envOfC qual (defScope st) s.heap.objs.size f cdv)) → (A.deeper (envOfC qual (defScope st) s.heap.objs.size f cdv)).guards = some [] → sp vs H Q E →
      ∃ t, PSs (cxOf CX0 P w K mg base N qual (defScope st) f cdv A outer s H E).nox (defBody st) t ∧ t { nx := fun _ H' => Q .non H', rt := Q } (start N vs) H) : FnOkG P w K mg base CX0 (k + 1) f fd ps sp := by
  obtain ⟨oc, od, kV, doc, pm, an, cdv, ct, osl, rfl, lk, hcd⟩ := F.ex
  refine fn_ofG lk hcd S len fun A outer s H vs Q E hr hgd hsp => ?_
  obtain ⟨t, h, q⟩ := hbody cdv A outer s H vs Q E hr hgd hsp
  exact ⟨t, h.nox, q⟩
end
section
variable {X : Cx} {CX : CXT} {k : Nat} {f : Addr} {fd : FuncData} {ps : List Str} {sp : Sp} {E : XK} {x : Str} {p pos : Pos} {e : Expr} {es : List Expr} {t : TA} {ds : List Value} {dvs : List V}
theorem run_fnG {pins : List (Addr × Obj)} {σ : L2.St} {H : Hp} {s : Shared} {Q : VK} {us : List Value} {vs : List V} (F : FnOkG X.prog X.w X.K X.mg X.base CX k f fd ps sp) (hr : Room k X.A) (hgd : X.A.guards = some []) (hb : Binds X.K fd ps ds) (hd : Vals dvs ds) (hx : Passes CX X E)
    (I : Inv X pins σ H s) (r : Vals vs us) (h : sp (vs ++ dvs) H Q E) : wpAny (model X.prog X.w) X.A (call (.ref f) us) (EP X pins σ Q) X.xe s := by
  have r2 : Vals (vs ++ dvs) (us ++ ds) := r.append hd
  have hl : (us ++ ds).length = ps.length := by rw [← r2.length]; exact F.len _ _ _ _ h
  refine wpAny_call (codeAny_mono (F.run X.A X.stack s H ⟨us, []⟩ (us ++ ds) (vs ++ dvs) Q E hr hgd I.env0 (hb s us I.kIn hl) r2 h) fun r s' hq => ?_)
  cases r with
  | error e => exact hx pins σ H s e s' I hq
  | ok fl =>
    cases fl with
    | ret u => exact I.after hq
    | next => exact False.elim hq
    | brk => exact False.elim hq
    | cont => exact False.elim hq
theorem pe_callG (F : FnOkG X.prog X.w X.K X.mg X.base CX k f fd ps sp) (hr : Room k X.A) (hgd : X.A.guards = some []) (hg : Gl X x) (hm : X.mg x = some (.ref f)) (hk : PySem.W.keepIn X.K (.ref f) = true) (hb : Binds X.K fd ps ds) (hd : Vals dvs ds) (hx : Passes CX X E)
    (ha : PA X (e :: es) t) (hdb : (x == ("__debug__" : Str)) = false := by decide) (he : starEach (e :: es) X.env = (false, eval e X.env) :: starEach es X.env := by rfl) (hpl : (backTo pos (starEach es X.env)).any (·.1) = false := by rfl) :
    PE X (.Call (.Name x p) (e :: es) [] pos) (tCall sp dvs E t) := by
  refine ⟨fun pins s σ H Q I h => ?_⟩
  refine wpAny_Call_Name_kw (ld_glob I hg hm ?_ hdb)
  refine PySem.W.callWith_K (h₀ := X.base) I.ok.mod.kin hk (thn (ha.run pos pins s σ H _ I h) fun us s1 ⟨vs, H1, I1, r, q⟩ => ⟨I1.kIn, ?_⟩) he hpl
  exact run_fnG F hr hgd hb hd hx I1 r q
end
/-! ### repr -/
/-- data, or the empty dict -/
def Dq (K : PySem.W.Frag) (H : Hp) (v : V) (d : PyData) : Prop := Dp K H v d ∨ ∃ a, v = .ref a ∧ H a = some (.dK []) ∧ d = .dict []
mutual
theorem noDict {K : PySem.W.Frag} {H : Hp} : ∀ (d : PyData) (v : V), Dp K H v d → d.hasDict = false
  | .none, _, _ => rfl
  | .bool _, _, _ => rfl
  | .int _, _, _ => rfl
  | .str _, _, _ => rfl
  | .list ds, _, h => by
    cases h with
    | lst _ ha => exact noDicts ds _ ha
  | .tuple ds, _, h => by
    cases h with
    | tup _ ha => exact noDicts ds _ ha
  | .dict _, _, h => by cases h
theorem noDicts {K : PySem.W.Frag} {H : Hp} : ∀ (ds : List PyData) (vs : List V), DpAll K H vs ds → PyData.hasDictAll ds = false
  | [], _, _ => rfl
  | d :: ds, _, h => by
    cases h with
    | cons h1 h2 =>
      show (PyData.hasDict d || PyData.hasDictAll ds) = false
      rw [noDict d _ h1, noDicts ds _ h2]
      rfl
end
def rRepr (K : PySem.W.Frag) : List V → Hp → VK → Prop := fun xs H Q => ∃ x d, xs = [x] ∧ Dq K H x d ∧ d.showable = true ∧ d.depth ≤ 64 ∧ d.shown.length ≤ sizeLine ∧ Q (.str d.shown) H
theorem call_reprD {X : Cx} (hgd : X.A.guards = some []) (hu : X.A.units + 80 < cLine) : CallR X (.builtin "repr") (rRepr X.K) := by
  intro pins s σ H xs us Q I r h
  obtain ⟨x, d, rfl, hd, hs, hdp, hsz, q⟩ := h
  cases r with
  | @cons _ u _ _ ru rn =>
    cases rn
    have up : ∀ {a : Addr} {as : List Addr}, Reads s.heap (.ref a) d as → (d.hasDict = true → sysModules ∉ as) → wpAny (model X.prog X.w) X.A (call (.builtin "repr") [.ref a]) (EP X pins σ Q) X.xe s := fun {a as} rd hsm =>
      repr_of_reads' rd hs hsm hgd (by omega) (fun _ _ z => z) (fun h' u tk hk => ⟨.str d.shown, H, I.kept (t' := tk) hk, ⟨_, rfl⟩, q⟩) hsz
    rcases hd with hd | ⟨a, rfl, ha, rfl⟩
    · have nd := noDict d x hd
      cases hd with
      | non => cases (show u = Value.none from ru); exact P.repr_of_none ⟨.str (PyData.shown .none), H, I.tok _, ⟨_, rfl⟩, q⟩
      | bl b => cases (show u = Value.bool b from ru); exact P.repr_of_bool ⟨.str (PyData.shown (.bool b)), H, I.tok _, ⟨_, rfl⟩, q⟩
      | int i => obtain ⟨t, e⟩ := (show ∃ t, u = Value.int i t from ru); cases e; exact P.repr_of_int (of_decide_eq_true hs) ⟨.str (PyData.shown (.int i)), H, I.tok _, ⟨_, rfl⟩, q⟩
      | str y => obtain ⟨t, e⟩ := (show ∃ t, u = Value.str y t from ru); cases e; exact P.repr_of_str ⟨.str (PyData.shown (.str y)), H, I.tok _, ⟨_, rfl⟩, q⟩ hsz
      | @lst a xs ds h1 h2 =>
        cases (show u = Value.ref a from ru)
        obtain ⟨as, rd⟩ := Dp.reads I _ _ _ (Dp.lst h1 h2) (show RelV (.ref a) (.ref a) from rfl)
        exact up rd (fun z => by rw [nd] at z; cases z)
      | @tup a xs ds h1 h2 =>
        cases (show u = Value.ref a from ru)
        obtain ⟨as, rd⟩ := Dp.reads I _ _ _ (Dp.tup h1 h2) (show RelV (.ref a) (.ref a) from rfl)
        exact up rd (fun z => by rw [nd] at z; cases z)
    · cases (show u = Value.ref a from ru)
      obtain ⟨_, hns, vs, hkv, o, es, ep, h1, h2, h3, h4, h5, _⟩ := (show ObjOk X.prog X.w H s.heap a (.dK []) from I.hok a _ ha)
      cases hkv
      have he : es.toList = [] := List.eq_nil_of_length_eq_zero h5.length
      refine up (as := a :: [] ++ []) (Reads.dict h1 h2.1 h3 (by rw [he]; exact .nil) (by rw [he]; exact .nil)) (fun _ hm => ?_)
      have ea : sysModules = a := by simpa using hm
      rw [← ea] at hns
      exact absurd hns (by decide +kernel)
end BX

namespace Fr
theorem fmod_abs (a : Int) {b : Int} (h : b ≠ 0) : (a.fmod b).natAbs < b.natAbs := by
  by_cases hb : 0 < b
  · have h1 := Int.fmod_lt_of_pos a hb
    have h2 := Int.fmod_nonneg_of_pos a hb
    omega
  · have hb' : 0 < -b := by omega
    have e := Int.neg_fmod_neg (-a) (-b)
    rw [Int.neg_neg, Int.neg_neg] at e
    have h1 := Int.fmod_lt_of_pos (-a) hb'
    have h2 := Int.fmod_nonneg_of_pos (-a) hb'
    omega
theorem gcd_step (a b : Int) : Int.gcd b (a.fmod b) = Int.gcd a b := by
  rw [Int.fmod_def, Int.mul_comm, Int.gcd_sub_mul_right_right, Int.gcd_comm]
theorem gcd_pos {t b : Int} (h : b ≠ 0) : (0 : Int) < (Int.gcd t b : Int) := by
  have : 0 < Int.gcd t b := Int.gcd_pos_of_ne_zero_right t h
  omega
theorem low_num {t b : Int} (hb : 0 < b) : t.fdiv (Int.gcd t b) = (Rat.divInt t b).num := by
  rw [Rat.num_divInt, Int.sign_eq_one_of_pos hb, Int.one_mul, Int.gcd_comm b t, Int.fdiv_eq_ediv_of_nonneg _ (by omega)]
theorem low_den {t b : Int} (hb : 0 < b) : b.fdiv (Int.gcd t b) = ((Rat.divInt t b).den : Int) := by
  rw [Rat.den_divInt, if_neg (by omega), Int.gcd_comm b t, Int.fdiv_eq_ediv_of_nonneg _ (by omega), Int.natCast_ediv]
  congr 1
  omega
theorem lowN_num {t b : Int} (hb : b < 0) : t.fdiv (-(Int.gcd t b : Int)) = (Rat.divInt t b).num := by
  have e := Int.neg_fdiv_neg (-t) (Int.gcd t b : Int)
  rw [Int.neg_neg] at e
  rw [e, Rat.num_divInt, Int.sign_eq_neg_one_of_neg hb, Int.gcd_comm b t, Int.fdiv_eq_ediv_of_nonneg _ (by omega), Int.neg_mul, Int.one_mul]
theorem lowN_den {t b : Int} (hb : b < 0) : b.fdiv (-(Int.gcd t b : Int)) = ((Rat.divInt t b).den : Int) := by
  have e := Int.neg_fdiv_neg (-b) (Int.gcd t b : Int)
  rw [Int.neg_neg] at e
  rw [e, Rat.den_divInt, if_neg (by omega), Int.gcd_comm b t, Int.fdiv_eq_ediv_of_nonneg _ (by omega), Int.natCast_ediv]
  congr 1
  omega
/-- top and bottom below 2 ^ n -/
def Bd (n : Nat) (q : Rat) : Prop := q.num.natAbs < 2 ^ n ∧ q.den < 2 ^ n
theorem Bd.mono {n m : Nat} {q : Rat} (h : Bd n q) (l : n ≤ m) : Bd m q :=
  ⟨Nat.lt_of_lt_of_le h.1 (Nat.pow_le_pow_right (by decide) l), Nat.lt_of_lt_of_le h.2 (Nat.pow_le_pow_right (by decide) l)⟩
theorem bd_low {t b : Int} {n : Nat} (ht : t.natAbs < 2 ^ n) (hb : b.natAbs < 2 ^ n) (h : b ≠ 0) : Bd n (Rat.divInt t b) := by
  constructor
  · rw [Rat.num_divInt]
    have h1 : (b.sign * t).natAbs = t.natAbs := by
      rw [Int.natAbs_mul, Int.natAbs_sign_of_ne_zero h, Nat.one_mul]
    have h2 : (b.sign * t / (b.gcd t : Int)).natAbs ≤ (b.sign * t).natAbs := Int.natAbs_ediv_le_natAbs _ _
    omega
  · rw [Rat.den_divInt, if_neg h]
    exact Nat.lt_of_le_of_lt (Nat.div_le_self _ _) hb
theorem den_pos (q : Rat) : (0 : Int) < (q.den : Int) := by
  have := q.den_pos
  omega
theorem den_ne (q : Rat) : (q.den : Int) ≠ 0 := Int.ne_of_gt (den_pos q)
theorem add_eq (a b : Rat) : Rat.divInt (a.num * b.den + b.num * a.den) (a.den * b.den) = a + b := by
  rw [← Rat.divInt_add_divInt _ _ (den_ne a) (den_ne b), Rat.num_divInt_den, Rat.num_divInt_den]
theorem sub_eq (a b : Rat) : Rat.divInt (a.num * b.den - b.num * a.den) (a.den * b.den) = a - b := by
  rw [Rat.sub_def, Rat.normalize_eq_mkRat, ← Int.natCast_mul]
  rfl
theorem mul_eq (a b : Rat) : Rat.divInt (a.num * b.num) (a.den * b.den) = a * b := by
  rw [← Rat.divInt_mul_divInt, Rat.num_divInt_den, Rat.num_divInt_den]
theorem div_eq (a b : Rat) : Rat.divInt (a.num * b.den) (a.den * b.num) = a / b := by
  rw [Rat.div_def, Rat.inv_def, ← Rat.divInt_mul_divInt, Rat.num_divInt_den]
theorem mul_bd {i j : Int} {n m : Nat} (hi : i.natAbs < 2 ^ n) (hj : j.natAbs < 2 ^ m) : (i * j).natAbs < 2 ^ (n + m) := by
  rw [Int.natAbs_mul, Nat.pow_add]
  exact Nat.mul_lt_mul'' hi hj
theorem add_bd {i j : Int} {n : Nat} (hi : i.natAbs < 2 ^ n) (hj : j.natAbs < 2 ^ n) : (i + j).natAbs < 2 ^ (n + 1) := by
  rw [Nat.pow_succ]
  omega
theorem sub_bd {i j : Int} {n : Nat} (hi : i.natAbs < 2 ^ n) (hj : j.natAbs < 2 ^ n) : (i - j).natAbs < 2 ^ (n + 1) := by
  rw [Nat.pow_succ]
  omega
theorem Bd.dn {n : Nat} {q : Rat} (h : Bd n q) : (q.den : Int).natAbs < 2 ^ n := by
  rw [Int.natAbs_natCast]
  exact h.2
theorem up {i : Int} {n m : Nat} (h : i.natAbs < 2 ^ n) (l : n ≤ m) : i.natAbs < 2 ^ m := Nat.lt_of_lt_of_le h (Nat.pow_le_pow_right (by decide) l)
theorem dd_ne (a b : Rat) : (a.den : Int) * (b.den : Int) ≠ 0 := Int.mul_ne_zero (den_ne a) (den_ne b)
theorem bd_add {a b : Rat} {n m : Nat} (ha : Bd n a) (hb : Bd m b) : Bd (n + m + 1) (a + b) := by
  rw [← add_eq]
  refine bd_low ?_ (up (mul_bd ha.dn hb.dn) (Nat.le_succ _)) (dd_ne a b)
  have h2 := mul_bd hb.1 ha.dn
  rw [Nat.add_comm m n] at h2
  exact add_bd (mul_bd ha.1 hb.dn) h2
theorem bd_sub {a b : Rat} {n m : Nat} (ha : Bd n a) (hb : Bd m b) : Bd (n + m + 1) (a - b) := by
  rw [← sub_eq]
  refine bd_low ?_ (up (mul_bd ha.dn hb.dn) (Nat.le_succ _)) (dd_ne a b)
  have h2 := mul_bd hb.1 ha.dn
  rw [Nat.add_comm m n] at h2
  exact sub_bd (mul_bd ha.1 hb.dn) h2
theorem bd_mul {a b : Rat} {n m : Nat} (ha : Bd n a) (hb : Bd m b) : Bd (n + m) (a * b) := by
  rw [← mul_eq]
  exact bd_low (mul_bd ha.1 hb.1) (mul_bd ha.dn hb.dn) (dd_ne a b)
theorem ratio_gcd (q : Rat) : Int.gcd q.num q.den = 1 := by
  have := q.reduced
  rw [Int.gcd, Int.natAbs_natCast]
  exact this
theorem foldl_add (l : List Rat) : ∀ a : Rat, l.foldl (· + ·) a = a + l.sum := by
  induction l with
  | nil => intro a; rw [List.foldl_nil, List.sum_nil, Rat.add_zero]
  | cons x r ih => intro a; rw [List.foldl_cons, ih, List.sum_cons, Rat.add_assoc]
theorem sum_rev (l : List Rat) : l.reverse.sum = l.sum := by
  induction l with
  | nil => rfl
  | cons x r ih => rw [List.reverse_cons, List.sum_append, ih, List.sum_cons, List.sum_cons, List.sum_nil, Rat.add_zero, Rat.add_comm]
theorem div_self' {a : Rat} (h : a ≠ 0) : a / a = 1 := by
  rw [Rat.div_def]
  exact Rat.mul_inv_cancel a h
end Fr

set_option Elab.async false
set_option linter.all false
set_option maxRecDepth 100000
set_option maxHeartbeats 2000000
namespace Co
open PySem PySem.Spec PyProof.Rows L2
open Fr (Bd)
/-! ### // by any number but nought -/
def CDivZ (_ j : Int) : Prop := j ≠ 0 ∧ j.natAbs.log2 < 9000
theorem op_fdivZ {X : Cx} : OpR X (binaryOp .FloorDiv) (rI CDivZ fun i j => .int (i.fdiv j)) := opI fun i j _ _ _ _ _ hc q => floordiv_int hc.1 q (.inl (PyProof.noPylong_of_log2 hc.2))
theorem divZ {i j : Int} {n : Nat} (h : j ≠ 0) (hb : j.natAbs < 2 ^ n) (h0 : 0 < n) (h9 : n ≤ 9000) : CDivZ i j := ⟨h, Nat.lt_of_lt_of_le (PySem.Flt.log2_lt_of h0 hb) h9⟩
theorem same_new {H : Hp} {p : Addr} (h : H p = none) (o : HO) : Same H (upd H p o) := fun b u q => by rw [upd_ne (ne_of_none q h)]; exact q
theorem seqT {K : PySem.W.Frag} {H H' : Hp} {a : Addr} {xs : List V} (e : Same H H') (h : SqT K H a xs) : SqT K H' a xs := by
  rcases h with (h | ⟨o, h⟩) | h
  · exact .inl (.inl (e _ _ h))
  · exact .inl (.inr ⟨o, e _ _ h⟩)
  · exact .inr h
/-- what stands in a fraction's tuple -/
def rp (q : Rat) : List V := [.int q.num, .int (q.den : Int)]
def spDiv : Sp := fun vs H Q _ => ∃ a b : Int, vs = [.int a, .int b] ∧ Q (.int (Int.gcd a b : Int)) H
def spLow : Sp := fun vs H Q _ => ∃ (t b : Int) (n : Nat), vs = [.int t, .int b] ∧ t.natAbs < 2 ^ n ∧ b.natAbs < 2 ^ n ∧ b ≠ 0 ∧ n ≤ 8950 ∧ ∀ p, H p = none → Q (.ref p) (upd H p (.tup (rp (Rat.divInt t b))))
theorem gcd_bd {t b : Int} {n : Nat} (h : b ≠ 0) (hb : b.natAbs < 2 ^ n) : (Int.gcd t b : Int).natAbs < 2 ^ n := by
  rw [Int.natAbs_natCast]
  exact Nat.lt_of_le_of_lt (Nat.le_of_dvd (by omega) (Int.gcd_dvd_natAbs_right t b)) hb
theorem wmul {i j : Int} {n m : Nat} (hi : i.natAbs < 2 ^ n) (hj : j.natAbs < 2 ^ m) (h : n + m ≤ 9000) : CMulW i j :=
  wide_mul (a := n + 1) (b := m + 1) (Fr.up hi (Nat.le_succ _)) (Fr.up hj (Nat.le_succ _)) (Nat.succ_pos _) (Nat.succ_pos _) (by omega)
theorem at0 (q : Rat) : atI (rp q) 0 = some (.int q.num) := atI_nat (j := 0) rfl
theorem at1 (q : Rat) : atI (rp q) 1 = some (.int (q.den : Int)) := atI_nat (j := 1) rfl
/-- a fraction made of two -/
def spBin (K : PySem.W.Frag) (g : Rat → Rat → Rat) : Sp := fun vs H Q _ => ∃ (a b : Addr) (x y : Rat) (n m : Nat), vs = [.ref a, .ref b] ∧ SqT K H a (rp x) ∧ SqT K H b (rp y) ∧ Bd n x ∧ Bd m y ∧ n + m ≤ 8900 ∧ ∀ p, H p = none → Q (.ref p) (upd H p (.tup (rp (g x y))))
def spUnder (K : PySem.W.Frag) : Sp := fun vs H Q _ => ∃ (a b : Addr) (x y : Rat) (n m : Nat), vs = [.ref a, .ref b] ∧ SqT K H a (rp x) ∧ SqT K H b (rp y) ∧ Bd n x ∧ Bd m y ∧ n + m ≤ 8900 ∧ Q (.bl (decide (x.num * y.den < y.num * x.den))) H
theorem abs_eq (x : Int) : (if x < 0 then -x else x) = (x.natAbs : Int) := by split <;> omega
theorem tyT {K : PySem.W.Frag} {H : Hp} {a : Addr} {xs : List V} (h : SqT K H a xs) : TyX K H (.ref a) (.type "tuple") := by
  rcases h with (h | ⟨o, h⟩) | ⟨o, its, n, e, c, _⟩
  · exact .base (.tup h)
  · exact .fTuple h
  · exact .kTuple e c
/-- what the module leaves of the built-in names -/
structure Blt (mg : Str → Option Value) : Prop where
  abs_ : mg "abs" = none
  isinstance_ : mg "isinstance" = none
  int_ : mg "int" = none
  bool_ : mg "bool" = none
  tuple_ : mg "tuple" = none
  list_ : mg "list" = none
  len_ : mg "len" = none
  range_ : mg "range" = none
  str_ : mg "str" = none
  repr_ : mg "repr" = none
  sum_ : mg "sum" = none
  all_ : mg "all" = none
  any_ : mg "any" = none
  enumerate_ : mg "enumerate" = none
  zip_ : mg "zip" = none
  min_ : mg "min" = none
  max_ : mg "max" = none
  sorted_ : mg "sorted" = none
  ValueError_ : mg "ValueError" = none
  ZeroDivisionError_ : mg "ZeroDivisionError" = none
  OverflowError_ : mg "OverflowError" = none
  IndexError_ : mg "IndexError" = none
  LookupError_ : mg "LookupError" = none
  ArithmeticError_ : mg "ArithmeticError" = none
  KeyError_ : mg "KeyError" = none
  RuntimeError_ : mg "RuntimeError" = none
/-- a list of fractions: its items, and what they are worth -/
structure FrL (K : PySem.W.Frag) (H : Hp) (refs : List V) (qs : List Rat) : Prop where
  len : refs.length = qs.length
  at_ : ∀ (i : Nat) (v : V), refs[i]? = some v → ∃ (a : Addr) (q : Rat), qs[i]? = some q ∧ v = .ref a ∧ SqT K H a (rp q) ∧ Bd 100 q
theorem FrL.keep {K : PySem.W.Frag} {H H' : Hp} {refs : List V} {qs : List Rat} (h : FrL K H refs qs) (k : ∀ a xs, SqT K H a xs → SqT K H' a xs) : FrL K H' refs qs :=
  ⟨h.len, fun i v e => let ⟨a, q, e1, e2, e3, e4⟩ := h.at_ i v e; ⟨a, q, e1, e2, k _ _ e3, e4⟩⟩
theorem FrL.same {K : PySem.W.Frag} {H H' : Hp} {refs : List V} {qs : List Rat} (h : FrL K H refs qs) (e : Same H H') : FrL K H' refs qs := h.keep fun _ _ => seqT e
theorem FrL.nil {K : PySem.W.Frag} {H : Hp} : FrL K H [] [] := ⟨rfl, fun i v e => by simp at e⟩
theorem FrL.snoc {K : PySem.W.Frag} {H : Hp} {refs : List V} {qs : List Rat} {a : Addr} {q : Rat} (h : FrL K H refs qs) (ha : SqT K H a (rp q)) (hb : Bd 100 q) : FrL K H (refs ++ [.ref a]) (qs ++ [q]) := by
  refine ⟨by rw [List.length_append, List.length_append, h.len]; rfl, fun i v e => ?_⟩
  by_cases hi : i < refs.length
  · rw [List.getElem?_append_left hi] at e
    obtain ⟨a', q', e1, e2, e3, e4⟩ := h.at_ i v e
    exact ⟨a', q', by rw [List.getElem?_append_left (by rw [← h.len]; exact hi)]; exact e1, e2, e3, e4⟩
  · rw [List.getElem?_append_right (by omega)] at e
    have e0 : i - refs.length = 0 := by
      cases z : i - refs.length with
      | zero => rfl
      | succ j => rw [z] at e; simp at e
    rw [e0] at e
    have ev : (V.ref a) = v := Option.some.inj e
    refine ⟨a, q, ?_, ev.symm, ha, hb⟩
    rw [List.getElem?_append_right (by rw [← h.len]; omega), ← h.len, e0]
    rfl
theorem keep_lst {K : PySem.W.Frag} {H : Hp} {l : Addr} {ys zs : List V} (hl : H l = some (.lst ys)) : ∀ a xs, SqT K H a xs → SqT K (upd H l (.lst zs)) a xs := fun a xs h => by
  rcases h with (h | ⟨o, h⟩) | h
  · exact .inl (.inl (by rw [upd_ne (ne_of h hl (by intro z; cases z))]; exact h))
  · exact .inl (.inr ⟨o, by rw [upd_ne (ne_of h hl (by intro z; cases z))]; exact h⟩)
  · exact .inr h
theorem sum_snoc {qs : List Rat} {i : Nat} {q : Rat} (h : qs[i]? = some q) : (qs.take (i + 1)).sum = (qs.take i).sum + q := by
  rw [List.take_add_one, h, List.sum_append]
  show _ + ([q] : List Rat).sum = _
  rw [List.sum_cons, List.sum_nil, Rat.add_zero]
def spLeft : Sp := fun vs H Q _ => ∃ c : Int, vs = [.int c] ∧ ∀ p n, H p = none → Q (.ref p) (upd H p (.lst [.int n]))
def spDigit : Sp := fun vs H Q _ => ∃ (l : Addr) (n m : Int), vs = [.ref l, .int m] ∧ H l = some (.lst [.int n]) ∧ 0 < m ∧ m.natAbs < 2 ^ 200 ∧ ∀ d n' : Int, 0 ≤ d → d < m → Q (.int d) (upd H l (.lst [.int n']))
theorem lt100 {i : Int} (h : i.natAbs ≤ 10 ^ 20) : i.natAbs < 2 ^ 100 := Nat.lt_of_le_of_lt h (by decide)
/-- a fraction as data -/
def dR (q : Rat) : PyData := .tuple [.int q.num, .int (q.den : Int)]
theorem dp_r {K : PySem.W.Frag} {H : Hp} {a : Addr} {q : Rat} (h : SqT K H a (rp q)) : Dp K H (.ref a) (dR q) := .tup h (.cons (.int _) (.cons (.int _) .nil))
theorem dR_lay (q : Rat) : (dR q).canLay0 = true := rfl
theorem dR_depth (q : Rat) : (dR q).depth = 1 := rfl
theorem dR_shaped (q : Rat) : SeqAt.shaped (dR q) = true := rfl
theorem FrL.dp {K : PySem.W.Frag} {H : Hp} : ∀ {refs : List V} {qs : List Rat}, FrL K H refs qs → DpAll K H refs (qs.map dR)
  | [], [], _ => .nil
  | [], _ :: _, h => by have := h.len; simp at this
  | _ :: _, [], h => by have := h.len; simp at this
  | v :: refs, q :: qs, h => by
    obtain ⟨a, q', e1, rfl, e3, _⟩ := h.at_ 0 v rfl
    have e : q = q' := Option.some.inj e1
    subst e
    refine .cons (dp_r e3) (FrL.dp ⟨by have := h.len; simpa using this, fun i v e => ?_⟩)
    exact h.at_ (i + 1) v e
theorem lays : ∀ qs : List Rat, PyData.canLayAll0 (qs.map dR) = true
  | [] => rfl
  | q :: qs => by
    show (PyData.canLay0 (dR q) && PyData.canLayAll0 (qs.map dR)) = true
    rw [lays qs]
    rfl
theorem deps : ∀ qs : List Rat, PyData.depthAll (qs.map dR) ≤ 1
  | [] => by decide
  | q :: qs => by
    have := deps qs
    show max (PyData.depth (dR q)) (PyData.depthAll (qs.map dR)) ≤ 1
    rw [dR_depth]
    omega
theorem list_lay (qs : List Rat) : (PyData.list (qs.map dR)).canLay0 = true := lays qs
theorem list_shaped (qs : List Rat) : SeqAt.shaped (.list (qs.map dR)) = true := by
  unfold SeqAt.shaped
  rw [list_lay, Bool.true_and]
  refine decide_eq_true ?_
  have := deps qs
  show PyData.depthAll (qs.map dR) + 1 ≤ 64
  omega
theorem FrL.rev {K : PySem.W.Frag} {H : Hp} {refs : List V} {qs : List Rat} (h : FrL K H refs qs) : FrL K H refs.reverse qs.reverse := by
  refine ⟨by rw [List.length_reverse, List.length_reverse, h.len], fun i v e => ?_⟩
  have hi : i < refs.length := by
    have := (List.getElem?_eq_some_iff.mp e).1
    rw [List.length_reverse] at this
    exact this
  rw [List.getElem?_reverse hi] at e
  obtain ⟨a, q, e1, e2, e3, e4⟩ := h.at_ _ v e
  refine ⟨a, q, ?_, e2, e3, e4⟩
  rw [List.getElem?_reverse (by rw [← h.len]; exact hi), ← h.len]
  exact e1
theorem cut_mem {xs : List V} {lo hi : Option Int} {x : V} (h : x ∈ cutV xs lo hi) : x ∈ xs := List.mem_of_mem_drop (List.mem_of_mem_take h)
theorem FrL.mem {K : PySem.W.Frag} {H : Hp} {refs : List V} {qs : List Rat} {v : V} (h : FrL K H refs qs) (hv : v ∈ refs) : ∃ (a : Addr) (q : Rat), v = .ref a ∧ SqT K H a (rp q) ∧ Bd 100 q := by
  obtain ⟨i, hi, e⟩ := List.getElem_of_mem hv
  obtain ⟨a, q, _, e2, e3, e4⟩ := h.at_ i v (by rw [List.getElem?_eq_getElem hi, e])
  exact ⟨a, q, e2, e3, e4⟩
theorem int_of {ns : List Int} {x : V} {lo hi : Option Int} {z : Int} {i : Nat} (h : (cutV (ns.map V.int) lo hi ++ [V.int z])[i]? = some x) : ∃ c : Int, x = .int c := by
  have hm := List.mem_of_getElem? h
  rcases List.mem_append.mp hm with hm | hm
  · obtain ⟨c, _, e⟩ := List.mem_map.mp (cut_mem hm)
    exact ⟨c, e.symm⟩
  · exact ⟨z, by simpa using hm⟩
/-- an error of the class at S is what «except S» names -/
theorem exm_self {K : PySem.W.Frag} {S : Addr} (h1 : PySem.W.subIn K (.ref S) (.type "BaseException") = some true) (h2 : PySem.W.isClsIn K S = true) (h3 : PySem.W.typeIn K (.ref S) = some (.type "type")) (h4 : PySem.W.subIn K (.ref S) (.ref S) = some true) :
    PySem.W.exmOne K (.ref S) (.ref S) = some true := by
  have e1 : (PySem.W.subIn K (.ref S) (.type "BaseException") == some true) = true := by rw [h1] <;> rfl
  have e2 : ((PySem.W.clsIn K S).isSome && PySem.W.typeIn K (.ref S) == some (.type "type")) = true := by
    have h2' : (PySem.W.clsIn K S).isSome = true := h2
    rw [h2', h3] <;> rfl
  show (if (PySem.W.subIn K (.ref S) (.type "BaseException") == some true) = true then (if ((PySem.W.clsIn K S).isSome && PySem.W.typeIn K (.ref S) == some (.type "type")) = true then PySem.W.subIn K (.ref S) (.ref S) else none) else none) = some true
  rw [if_pos e1, if_pos e2]
  exact h4
end Co

set_option Elab.async false
set_option linter.all false
set_option maxRecDepth 100000
set_option maxHeartbeats 4000000
namespace EXB
open PySem PySem.Spec PyProof.Rows L2
/-- what the written part says of an own error class over B -/
structure ExC (K : PySem.W.Frag) (C : Addr) (newId : String) (bmB : List Value) : Prop where
  cls : ∃ nm q N bs sn sub ab col dd k0 k1 k2 k3 k5, K.lookup C = some (excClassObj nm q C N bs bmB true sn sub ab col dd k0 k1 k2 k3 k5 newId)
  exC : PySem.W.subIn K (.ref C) (.type "BaseException") = some true
  tyC : PySem.W.typeIn K (.ref C) = some (.type "type")
  kC : PySem.W.keepIn K (.ref C) = true
section
variable {X : Cx} {pins : List (Addr × Obj)} {σ : L2.St} {H : Hp} {s : Shared} {a C : Addr} {A : Around} {E : Value → Shared → Prop} {B newId initId : String} {bmB : List Value}
/-- B.__init__(self, ..): nothing of it is told -/
theorem einit_ok {us : List Value} {Q : Value → Shared → Prop} (Fb : ExcBaseFacts B newId initId bmB) (T : ExC X.K C newId bmB) (I : Inv X pins σ H s) (e : H a = some (exo a C none)) (hl : us.length ≤ sizeLine) (h : ∀ s', Inv X pins σ H s' → Q .none s') :
    wpAny (model X.prog X.w) A (call (.builtin initId) (.ref a :: us)) Q E s := by
  obtain ⟨nm, q, N, bs, sn, sub, ab, col, dd, k0, k1, k2, k3, k5, hC⟩ := T.cls
  obtain ⟨t1, ho⟩ := exo_at I.hok e
  obtain ⟨hp, g, d, t, os⟩ := s
  refine wpAny_call (PySem.HandSPX.init_base Fb (fun Y => rfl) (I.kIn _ _ hC) ho hl fun h' t2 k hx => ?_)
  have J := I.write (t' := t) (x := a) (e := a) (o := exo a C none) (by rw [e]; exact True.intro) (.inl rfl) k ⟨_, hx⟩ (exo_ok hx)
  have eu : upd H a (exo a C none) = H := by
    funext b
    by_cases hb : b = a
    · rw [hb, upd_same, e]
    · rw [upd_ne hb]
  rw [eu] at J
  exact h _ J
end
def tExI (K : PySem.W.Frag) (newId : String) (bmB : List Value) (ta : TA) : TE := fun σ H Q => ta σ H fun vs H1 => ∃ (a C : Addr) (ws : List V), vs = .ref a :: ws ∧ ws.length ≤ 1000 ∧ ExC K C newId bmB ∧ H1 a = some (exo a C none) ∧ Q .non H1
section
variable {X : Cx} {e : Expr} {es : List Expr} {ta : TA} {p p1 p2 pos : Pos} {B newId initId : String} {bmB : List Value}
theorem typ_ZD : typeOf (.type "ZeroDivisionError") = pure (.type "type") := by kernel_rfl
theorem pe_zdinit {pl : Sem Bool} (hg : Gl X "ZeroDivisionError") (hm : X.mg "ZeroDivisionError" = none) (vV : PySem.W.findCls X.K (.type "ZeroDivisionError") (.type "type") "__init__" = some (.val (.builtin "ZeroDivisionError.__init__"))) (ha : PA X (e :: es) ta)
    (hc : eval (.Call (.Attribute (.Name "ZeroDivisionError" p1) "__init__" p2) (e :: es) [] pos) X.env = (do
      let ov ← eval (.Name "ZeroDivisionError" p1) X.env
      standAt p2.atName
      let (f, first) ← holding [ov] (getMethod ov "__init__" pl)
      callWith pos f first (backTo pos (starEach (e :: es) X.env)) (backToKw pos (keywordEach [] X.env))) := by rfl)
    (he : starEach (e :: es) X.env = (false, eval e X.env) :: starEach es X.env := by rfl) (hpl : (backTo pos (starEach es X.env)).any (·.1) = false := by rfl) :
    PE X (.Call (.Attribute (.Name "ZeroDivisionError" p1) "__init__" p2) (e :: es) [] pos) (tExI X.K "ZeroDivisionError.__new__" [.type "ZeroDivisionError", .type "ArithmeticError", .type "Exception", .type "BaseException", .type "object"] ta) := by
  refine ⟨fun pins s σ H Q I h => ?_⟩
  refine PySem.W.methodCall_KW (ld_blt I hg hm PyProof.Rows.Boot.«ZeroDivisionError» ?_ (by decide) (by decide)) hc
  obtain ⟨m, fr⟩ := I.fr
  refine PySem.W.method_type fr I.ok.mod.kin typ_ZD (by decide +kernel) vV (by decide +kernel) ?_
  show wpAny _ _ (callWith pos (Value.builtin "ZeroDivisionError.__init__") [] (backTo pos (starEach (e :: es) X.env)) []) _ _ _
  refine PyProof.Rows.callWith_method1 (thn (ha.run pos pins _ σ H _ (I.tok _) h) fun us s1 ⟨vs, H1, I1, r1, a, C, ws, ev, hl, T, ea, q⟩ => ?_) he hpl
  subst ev
  cases r1 with
  | @cons _ u0 _ ur ra rw' =>
    obtain rfl : u0 = Value.ref a := ra
    have hlen : ur.length ≤ sizeLine := by
      rw [← Paired.length rw', sizeLine_eq]
      omega
    exact einit_ok PySem.F.excBase_ZeroDivisionError T I1 ea hlen fun s' J => ⟨.non, H1, J, rfl, q⟩
/-- the end of C(..), no field: the exception is let go -/
theorem mk_endN {pins : List (Addr × Obj)} {σ : L2.St} {H1 H2 : Hp} {Q : XK} {hp hp2 h2 : Heap} {g1 g2 : Array GenState} {d1 d2 : Drawn} {t1 t2 : Nat} {os1 os2 : OsState} {a C : Addr} (T : Raises X (.ref C)) (I1 : Inv X pins σ H1 ⟨hp, g1, d1, t1, os1⟩)
    (ha : hp.objs.size ≤ a) (k : ∀ b o, hp.get? b = some o → hp2.get? b = some o) (un : Un (frs X.stack) [] (upd H1 a (exo a C none)) H2 hp2 h2) (hok : HOk X.prog X.w H2 h2) (ho : os2 = os1) (hb : AllBare g2)
    (ea : H2 a = some (exo a C none)) (q : Q (.ref C) none (del H2 a)) : MkP X pins σ Q (.ref a) ⟨h2, g2, d2, t2, os2⟩ := by
  obtain ⟨t0, hoe⟩ := exo_at hok ea
  have hn : H1 a = none := I1.hok.fresh ha
  obtain ⟨G, g1', g2'⟩ := restrict h2 fun b => decide (b ≠ a)
  have gk : ∀ b, b ≠ a → G.get? b = h2.get? b := fun b hb => g1' b (decide_eq_true hb)
  have ge : G.get? a = none := g2' a (by simp)
  have nha : ∀ {b : Addr} {o : Obj}, hp.get? b = some o → b ≠ a := fun {b o} z => Nat.ne_of_lt (Nat.lt_of_lt_of_le (Heap.lt_size z) ha)
  have up : ∀ {b : Addr}, b ≠ a → H1 b = none → upd H1 a (exo a C none) b = none := fun {b} hb n => by rw [upd_ne hb]; exact n
  have U : Un (frs X.stack) [] H1 (del H2 a) hp G := {
    keep := fun b o z n hf hx => by
      rw [gk b (nha z)]
      exact un.keep b o (k b o z) (up (nha z) n) hf hx
    slot := fun b o z n hf hx => by
      rw [gk b (nha z)]
      exact un.slot b o (k b o z) (up (nha z) n) hf hx
    free := fun b o z n hx => by
      rw [del_ne (nha z)]
      exact un.free b o (k b o z) (up (nha z) n) hx
    there := fun b o z hx => by
      rw [gk b (nha z)]
      exact un.there b o (k b o z) hx
    tups := fun b xs z => by
      rw [del_ne (ne_of_none z hn)]
      exact un.tups b xs (by rw [upd_ne (ne_of_none z hn)]; exact z)
    frzs := fun b o v z => by
      rw [del_ne (ne_of_none z hn)]
      exact un.frzs b o v (by rw [upd_ne (ne_of_none z hn)]; exact z)
    tbls := fun b ps z => by
      rw [del_ne (ne_of_none z hn)]
      exact un.tbls b ps (by rw [upd_ne (ne_of_none z hn)]; exact z) }
  have hok3 : HOk X.prog X.w (del H2 a) G := fun b o z => by
    have hba : b ≠ a := fun e => by
      rw [e, del_same] at z
      cases z
    rw [del_ne hba] at z
    have noa : ∀ {c : Addr}, H2 c = some (.own b) → c ≠ a := fun {c} hc => at_ne ea hc exo_own
    exact (hok b o z).stay (fun c v hc y => by
        have hca : c ≠ a := by
          rcases hc with hc | hc
          · rw [hc]
            exact hba
          · exact noa hc
        rw [gk c hca]
        exact y)
      (fun c hc => by rw [del_ne (noa hc)]; exact hc) (fun c xs hc => by rw [del_ne (at_ne ea hc exo_tup)]; exact hc)
  have J : Inv X pins σ (del H2 a) ⟨G, g2, d2, t2, os2⟩ := I1.call' (ch := []) ho U hok3 hb (fun b z => absurd z (by simp))
  refine ⟨a, _, _, ⟨G, g2, d2, t2, os2⟩, _, .ref C, none, rfl, J, fun b o z => ?_, ge, hoe, ⟨rfl, rfl⟩, rfl, rfl, del_same, rfl, hb, T, q⟩
  by_cases hba : b = a
  · have z' : G.get? b = some o := z
    rw [hba, ge] at z'
    cases z'
  · exact (gk b hba).symm.trans z
/-- the promise of an __init__ that makes no field -/
def spEi (C : Addr) : Sp := fun vs H Q _ => ∃ a, vs = [.ref a] ∧ H a = some (exo a C none) ∧ Q .non H
/-- C(), C's __init__ making no field -/
theorem pmk_exN {x : Str} {C fI : Addr} {k : Nat} {fd : FuncData} {ps : List Str} (Fb : ExcBaseFacts B newId initId bmB) (T : ExC X.K C newId bmB) (iC : PySem.W.findIn X.K (.ref C) "__init__" = some (some (.ref fI))) (tI : PySem.W.typeIn X.K (.ref fI) = some (.type "function"))
    (F1 : FnOk X.prog X.w X.K X.mg X.base CX0 k fI fd ps (spEi C)) (hr : Room (k + 1) X.A) (hb : Binds X.K fd ps []) (hg : Gl X x) (hm : X.mg x = some (.ref C))
    (hdb : (x == ("__debug__" : Str)) = false := by decide) :
    PMk X (.Call (.Name x p) [] [] pos) (fun _ H Q => Q (.ref C) none H) := by
  intro pins s σ H Q I h
  obtain ⟨nm, q, N, bs, sn, sub, ab, col, dd, k0, k1, k2, k3, k5, hC⟩ := T.cls
  refine wpAny_Call_Name_kw (ld_glob I hg hm ?_ hdb)
  refine PySem.W.callWith_K0 I.kIn T.kC ?_
  show wpAny _ _ (call (.ref C) []) _ _ _
  obtain ⟨hp, g, dr, tk, os⟩ := s
  have hsz : hp.objs.size ≤ hp.objs.size + 1 := Nat.le_succ _
  have hn : H (hp.objs.size + 1) = none := I.hok.fresh hsz
  have kk : ∀ b o, hp.get? b = some o → ((hp.push (PySem.W.kdv_tup [])).push (PySem.HandSPX.excO C hp.objs.size)).get? b = some o := fun b o e => Heap.get?_push_of_some _ (Heap.get?_push_of_some _ e)
  have hget : ((hp.push (PySem.W.kdv_tup [])).push (PySem.HandSPX.excO C hp.objs.size)).get? (hp.objs.size + 1) = some (PySem.HandSPX.excO C hp.objs.size) := by heap_get
  have I2 : Inv X pins σ (upd H (hp.objs.size + 1) (exo (hp.objs.size + 1) C none)) ⟨(hp.push (PySem.W.kdv_tup [])).push (PySem.HandSPX.excO C hp.objs.size), g, dr, tk, os⟩ :=
    I.laid (t' := tk) (a := hp.objs.size + 1) (o := exo (hp.objs.size + 1) C none) (h' := (hp.push (PySem.W.kdv_tup [])).push (PySem.HandSPX.excO C hp.objs.size)) kk hsz (exo_ok hget)
  have r2 : Vals [V.ref (hp.objs.size + 1)] [Value.ref (hp.objs.size + 1)] := .cons rfl .nil
  have hq : spEi C [V.ref (hp.objs.size + 1)] (upd H (hp.objs.size + 1) (exo (hp.objs.size + 1) C none)) (fun v H2 => v = .non ∧ H2 = upd H (hp.objs.size + 1) (exo (hp.objs.size + 1) C none)) (fun _ _ _ => False) :=
    ⟨_, rfl, upd_same, rfl, rfl⟩
  have hl : ([Value.ref (hp.objs.size + 1)] ++ []).length = ps.length := by
    have e := r2.length
    rw [F1.len _ _ _ _ hq] at e
    exact e.symm
  refine wpAny_call (PySem.HandSPX.call_own Fb (fun Y => rfl) (I.kIn _ _ hC) (PySem.W.looks_findIn I.kIn iC) (fun self => PySem.W.bind_fn I.kIn self tI) (Nat.zero_le _)
    (codeAny_mono (F1.run _ X.stack _ _ ⟨[Value.ref (hp.objs.size + 1)], []⟩ [Value.ref (hp.objs.size + 1)] _ _ (fun _ _ _ => False) (hr.make C [] []) (I2.env0.make C [] []) (hb _ [Value.ref (hp.objs.size + 1)] I2.kIn hl) r2 hq) fun r s' hq' => ?_))
  cases r with
  | error er => exact False.elim hq'
  | ok fl =>
    cases fl with
    | ret u =>
      obtain ⟨v, H2, os2, bare2, un2, hok2, rv, ev, eH⟩ := hq'
      subst ev
      subst eH
      obtain ⟨h2, g2, d2, t2, os'⟩ := s'
      refine ⟨rv, mk_endN (raises_own T.exC T.tyC) I hsz kk un2 hok2 os2 bare2 upd_same ?_⟩
      have eD : del (upd H (hp.objs.size + 1) (exo (hp.objs.size + 1) C none)) (hp.objs.size + 1) = H := by
        funext b
        by_cases hb : b = hp.objs.size + 1
        · rw [hb, del_same]
          exact hn.symm
        · rw [del_ne hb, upd_ne hb]
      rw [eD]
      exact h
    | next => exact False.elim hq'
    | brk => exact False.elim hq'
    | cont => exact False.elim hq'
end
/-! ### an own error over ValueError with one field -/
/-- the promise of an __init__ that makes the field f -/
def spE1 (C : Addr) (f : Str) : Sp := fun vs H Q _ => ∃ a v, vs = [.ref a, v] ∧ H a = some (exo a C none) ∧ ∀ dx, H dx = none → dx ≠ a → Q .non (upd (upd H dx (exd dx [(f, v)])) a (exo a C (some dx)))
/-- the same of two fields -/
def spE2 (C : Addr) (f g : Str) : Sp := fun vs H Q _ => ∃ a v u, vs = [.ref a, v, u] ∧ H a = some (exo a C none) ∧ ∀ dx, H dx = none → dx ≠ a → Q .non (upd (upd H dx (exd dx [(g, u), (f, v)])) a (exo a C (some dx)))
theorem heap_out {H : Hp} {a dx C : Addr} {fs : List (Str × V)} (ha : H a = none) (hd : dx ≠ a) : upd (del (upd (upd (upd H a (exo a C none)) dx (exd dx fs)) a (exo a C (some dx))) a) dx (.xd fs) = upd H dx (.xd fs) := by
  funext b
  by_cases h1 : b = dx
  · rw [h1, upd_same, upd_same]
  · rw [upd_ne h1, upd_ne h1]
    by_cases h2 : b = a
    · rw [h2, del_same, ha]
    · rw [del_ne h2, upd_ne h2, upd_ne h1, upd_ne h2]
theorem mk1 {C : Addr} {f : Str} {H : Hp} {v : V} {Q : XK} (h : ∀ dx, H dx = none → Q (.ref C) (some dx) (upd H dx (.xd [(f, v)]))) :
    [v].length ≤ 1000 ∧ ∀ a, H a = none → spE1 C f (.ref a :: ([v] ++ [])) (upd H a (exo a C none)) (fun v H2 => v = .non ∧ ∃ (d : Addr) (fs : List (Str × V)), H2 a = some (exo a C (some d)) ∧ H2 d = some (exd d fs) ∧ H d = none ∧ Q (.ref C) (some d) (upd (del H2 a) d (.xd fs))) (fun _ _ _ => False) := by
  refine ⟨by show 1 ≤ 1000; decide, fun a ha => ⟨a, v, rfl, upd_same, fun dx hdx hne => ?_⟩⟩
  have h0 : H dx = none := by rw [upd_ne hne] at hdx; exact hdx
  refine ⟨rfl, dx, [(f, v)], upd_same, by rw [upd_ne hne, upd_same], h0, ?_⟩
  rw [heap_out ha hne]
  exact h dx h0
theorem mk2 {C : Addr} {f g : Str} {H : Hp} {v u : V} {Q : XK} (h : ∀ dx, H dx = none → Q (.ref C) (some dx) (upd H dx (.xd [(g, u), (f, v)]))) :
    [v, u].length ≤ 1000 ∧ ∀ a, H a = none → spE2 C f g (.ref a :: ([v, u] ++ [])) (upd H a (exo a C none)) (fun v H2 => v = .non ∧ ∃ (d : Addr) (fs : List (Str × V)), H2 a = some (exo a C (some d)) ∧ H2 d = some (exd d fs) ∧ H d = none ∧ Q (.ref C) (some d) (upd (del H2 a) d (.xd fs))) (fun _ _ _ => False) := by
  refine ⟨by show 2 ≤ 1000; decide, fun a ha => ⟨a, v, u, rfl, upd_same, fun dx hdx hne => ?_⟩⟩
  have h0 : H dx = none := by rw [upd_ne hne] at hdx; exact hdx
  refine ⟨rfl, dx, [(g, u), (f, v)], upd_same, by rw [upd_ne hne, upd_same], h0, ?_⟩
  rw [heap_out ha hne]
  exact h dx h0
end EXB

set_option Elab.async false
set_option linter.all false
set_option maxRecDepth 100000
set_option maxHeartbeats 4000000
namespace BX
open PySem PySem.Spec PyProof.Rows L2
section
variable {X : Cx} {CX : CXT} {k : Nat} {f : Addr} {fd : FuncData} {ps ks : List Str} {sp : Sp} {E : L2.St → XK} {x : Str} {p pos : Pos} {e : Expr} {es : List Expr} {kws : List Keyword} {t tk : TA} {ds : List Value} {dvs : List V}
/-- a call with any arguments, what it raises being wished for at the caller's slots -/
theorem run_any {pins : List (Addr × Obj)} {σ : L2.St} {H : Hp} {s : Shared} {Q : VK} {us bs : List Value} {kw : List (Str × Value)} {vs : List V} (F : FnOkG X.prog X.w X.K X.mg X.base CX k f fd ps sp) (hr : Room k X.A) (hgd : X.A.guards = some []) (hx : PassesAt CX X σ (E σ))
    (I : Inv X pins σ H s) (hb : BindsTo s fd ⟨us, kw⟩ (ps.zip bs)) (r : Vals vs bs) (h : sp vs H Q (E σ)) : wpAny (model X.prog X.w) X.A (call (.ref f) us kw) (EP X pins σ Q) X.xe s := by
  refine wpAny_call (codeAny_mono (F.run X.A X.stack s H ⟨us, kw⟩ bs vs Q (E σ) hr hgd I.env0 hb r h) fun r s' hq => ?_)
  cases r with
  | error e => exact hx pins H s e s' I hq
  | ok fl =>
    cases fl with
    | ret u => exact I.after hq
    | next => exact False.elim hq
    | brk => exact False.elim hq
    | cont => exact False.elim hq
def tCallD (sp : Sp) (dvs : List V) (E : L2.St → XK) (t : TA) : TE := fun σ H Q => t σ H fun vs H1 => sp (vs ++ dvs) H1 Q (E σ)
/-- f(e, ..), the defaults behind them -/
theorem pe_callD (F : FnOkG X.prog X.w X.K X.mg X.base CX k f fd ps sp) (hr : Room k X.A) (hgd : X.A.guards = some []) (hg : Gl X x) (hm : X.mg x = some (.ref f)) (hk : PySem.W.keepIn X.K (.ref f) = true) (hb : Binds X.K fd ps ds) (hd : Vals dvs ds) (hx : ∀ σ, PassesAt CX X σ (E σ))
    (ha : PA X (e :: es) t) (hdb : (x == ("__debug__" : Str)) = false := by decide) (he : starEach (e :: es) X.env = (false, eval e X.env) :: starEach es X.env := by rfl) (hpl : (backTo pos (starEach es X.env)).any (·.1) = false := by rfl) :
    PE X (.Call (.Name x p) (e :: es) [] pos) (tCallD sp dvs E t) := by
  refine ⟨fun pins s σ H Q I h => ?_⟩
  refine wpAny_Call_Name_kw (ld_glob I hg hm ?_ hdb)
  refine PySem.W.callWith_K (h₀ := X.base) I.ok.mod.kin hk (thn (ha.run pos pins s σ H _ I h) fun us s1 ⟨vs, H1, I1, r, q⟩ => ⟨I1.kIn, ?_⟩) he hpl
  have r2 : Vals (vs ++ dvs) (us ++ ds) := r.append hd
  exact run_any F hr hgd (hx σ) I1 (hb s1 us I1.kIn (by rw [← r2.length]; exact F.len _ _ _ _ q)) r2 q
def tCallW (sp : Sp) (E : L2.St → XK) (tk : TA) : TE := fun σ H Q => tk σ H fun zs H1 => sp zs H1 Q (E σ)
/-- f(k = v, ..), all parameters by their names, in their order -/
theorem pe_callW (F : FnOkG X.prog X.w X.K X.mg X.base CX k f fd ps sp) (hr : Room k X.A) (hgd : X.A.guards = some []) (hg : Gl X x) (hm : X.mg x = some (.ref f)) (hk : PySem.W.keepIn X.K (.ref f) = true)
    (hb : ∀ (s : Shared) (ws : List Value), X.K.In s.heap → ws.length = ps.length → BindsTo s fd ⟨[], ps.zip ws⟩ (ps.zip ws)) (hx : ∀ σ, PassesAt CX X σ (E σ))
    (hkw : PK X kws tk) (hall : (backToKw pos (keywordEach kws X.env)).all (·.1.isSome) = true := by rfl) (hks : (backToKw pos (keywordEach kws X.env)).filterMap (·.1) = ps := by rfl)
    (hdb : (x == ("__debug__" : Str)) = false := by decide) (hpl : ((backTo pos (starEach [] X.env)).any (·.1) || (backToKw pos (keywordEach kws X.env)).any (·.1.isNone)) = false := by rfl) :
    PE X (.Call (.Name x p) [] kws pos) (tCallW sp E tk) := by
  refine ⟨fun pins s σ H Q I h => ?_⟩
  refine wpAny_Call_Name_kw (ld_glob I hg hm ?_ hdb)
  refine PySem.W.callWith_KW0 (h₀ := X.base) I.ok.mod.kin hk hall (thn (hkw.run pos pins s σ H _ I h) fun ws s2 ⟨zs, H2, I2, rz, q2⟩ => ⟨I2.kIn, ?_⟩) hpl
  rw [hks]
  exact run_any F hr hgd (hx σ) I2 (hb s2 ws I2.kIn (by rw [← rz.length]; exact F.len _ _ _ _ q2)) rz q2
end
end BX

set_option Elab.async false
set_option linter.all false
set_option maxRecDepth 100000
set_option maxHeartbeats 4000000
namespace BX
open PySem PySem.Spec PyProof.Rows L2
/-- the law's call, of a promise that holds where nothing is being shown -/
theorem law_callG {P : Program} {w : World} {K : PySem.W.Frag} {mg mb : Str → Option Value} {CX : CXT} {k : Nat} {fa a : Addr} {fd : FuncData} {x : Str} {sp : Sp} {s₁ : Shared} {vs : List Value} {ns : List Int}
    (KX : K.In s₁.heap) (hns : s₁.heap.Ns mainGlobals mg) (hb : s₁.heap.Ns builtinsNs mb) (hbb : ∀ x : Str, x ≠ "__name__" → mb x = bootBuiltins x) (hlim : s₁.heap.NoLimit) (hg : s₁.gens = #[])
    (ha : s₁.heap.get? a = some { cls := .type "list", data := .seq vs.toArray }) (hi : IntsAre vs ns) (hl : ns.length ≤ sizeLine) (hr : Room k callerA)
    (F : ∀ base : Heap, K.In base → base.Ns mainGlobals mg → FnOkG P w K mg base CX k fa fd [x] sp) (hbind : ∀ (s : Shared) (u : Value), BindsTo s fd ⟨[u], []⟩ [(x, u)])
    (hsp : ∀ H : Hp, Only H → SqL K H a (ns.map V.int) → sp [.ref a] H (fun v _ => v = .bl true) fun _ _ _ => False)
    (hCX : ∀ H e s', CX [] H s₁ (fun _ _ _ => False) e s' → False) :
    codeAny (model P w) callerA (.call (.ref fa) ⟨[.ref a], []⟩) (fun r s' => r = .ok (.ret (.bool true)) ∧ OldK s₁.heap s'.heap ∧ s'.os = s₁.os ∧ AllBare s'.gens) s₁ := by
  have rv := vals_ints hi
  have lenV := hi.length
  have core : ∀ H : Hp, Only H → SqL K H a (ns.map V.int) → HOk P w H s₁.heap → (∀ b, H b ≠ none → b = a) → (H a ≠ none → K.lookup a = none) →
      codeAny (model P w) callerA (.call (.ref fa) ⟨[.ref a], []⟩) (fun r s' => r = .ok (.ret (.bool true)) ∧ OldK s₁.heap s'.heap ∧ s'.os = s₁.os ∧ AllBare s'.gens) s₁ := by
    intro H hO hS hok hA hK
    have noA : ∀ {b : Addr} {o : Obj} {es : Array DictEntry} {ep : Nat}, s₁.heap.get? b = some o → o.data = .dict es ep → H b = none := fun {b o es ep} e dd => by
      cases q : H b with
      | none => rfl
      | some u =>
        have e' : b = a := hA b (by rw [q]; simp)
        rw [e', ha] at e
        cases e
        cases dd
    have nsK : ∀ {b : Addr} {m : Str → Option Value}, s₁.heap.Ns b m → (hidT s₁.heap H).Ns b m := fun {b m} ⟨o, es, ep, e, dd, r⟩ => ⟨o, es, ep, hidT_get e (noA e dd), dd, r⟩
    have hKb : K.In (hidT s₁.heap H) := fun b o e => hidT_get (KX b o e) (by
      cases q : H b with
      | none => rfl
      | some u =>
        have e' : b = a := hA b (by rw [q]; simp)
        rw [e'] at e q
        rw [hK (by rw [q]; simp)] at e
        cases e)
    have hM : Mod K mg (hidT s₁.heap H) := ⟨hKb, nsK hns, ⟨mb, nsK hb, hbb⟩, let ⟨mc, h1, h2⟩ := hlim; ⟨mc, nsK h1, h2⟩⟩
    have e0 : Env0 P w K mg (hidT s₁.heap H) callerA [] s₁ H := ⟨rfl, hM, fun b o e => of_hidT e, Nat.le_of_eq (hidT_size _ _), trivial, fun b hb => absurd (show b ∈ ([] : List Addr) from hb) (by simp), hok, .of_eq hg⟩
    refine codeAny_mono ((F _ hKb (nsK hns)).run callerA [] s₁ H ⟨[.ref a], []⟩ [.ref a] [.ref a] _ _ hr rfl e0 (hbind s₁ (.ref a)) (.cons rfl .nil) (hsp H hO hS)) fun r s' h => ?_
    cases r with
    | error e => exact (hCX H e s' h).elim
    | ok fl =>
      cases fl with
      | next => exact False.elim h
      | brk => exact False.elim h
      | cont => exact False.elim h
      | ret u =>
        obtain ⟨v, H', os, bare, un, hok', r', q⟩ := h
        have q' : v = .bl true := q
        subst q'
        obtain rfl : u = Value.bool true := r'
        refine ⟨rfl, OldK.of_keep fun b o e => ?_, os, bare⟩
        cases q : H b with
        | none => exact un.keep b o e q (by intro z; exact absurd (show b ∈ ([] : List Addr) from z) (by simp)) (by simp)
        | some u =>
          rcases hO b with z | ⟨ob, xs, z⟩
          · rw [q] at z; cases z
          · obtain ⟨e1, _⟩ := hok b _ z
            obtain ⟨e2, _⟩ := hok' b _ (un.frzs b ob _ z)
            rw [e] at e1; cases e1
            exact e2
  cases hk : K.lookup a with
  | some o =>
    have e := KX a o hk
    rw [ha] at e
    cases e
    refine core (fun _ => none) (fun _ => .inl rfl) (.inr ⟨_, vs.toArray, _, hk, rfl, rfl, rfl, by rw [List.size_toArray, lenV]; exact hl, by simpa using rv⟩) (fun b u z => by have z' : (none : Option HO) = some u := z; cases z') (fun b z => absurd rfl z) fun z => absurd rfl z
  | none =>
    refine core (fun b => if b = a then some (.frz { cls := .type "list", data := .seq vs.toArray } (.lst (ns.map V.int))) else none) (fun b => ?_) (.inl (.inr ⟨{ cls := .type "list", data := .seq vs.toArray }, if_pos rfl⟩)) (fun b u z => ?_) (fun b z => ?_) fun _ => hk
    · by_cases hb : b = a
      · exact .inr ⟨_, _, if_pos hb⟩
      · exact .inl (if_neg hb)
    · by_cases hb : b = a
      · have z' := (if_pos hb).symm.trans z
        cases z'
        subst hb
        exact ⟨ha, by rw [List.length_map]; exact hl, vs, _, rv, ha⟩
      · have z' := (if_neg hb).symm.trans z
        cases z'
    · by_cases hb : b = a
      · exact hb
      · exact absurd (if_neg hb) z
theorem walk_ofG {l : PySem.W.OpenLaw} {n k : Nat} {q : Program} {loose : List Str} {XP : (Str → Option Value) → Heap → Prop} {YP : World → Heap → Prop} {d : DefRec} {K : Params → PySem.W.Frag} {CX : World → CXT} {sp : World → Sp} {x : Str}
    (hn : l.most = some n) (hn2 : n ≤ sizeLine) (hdf : d.params.defaults = []) (hr : Room k callerA) (hY : ∀ (w : World) (h : Heap), YP w h → (K w.params).In h)
    (F : ∀ (w : World) (mg : Str → Option Value) (fa : Addr) (h : Heap), (K w.params).In h → h.Ns mainGlobals mg → mg d.name = some (.ref fa) →
      ∃ fd : FuncData, (∀ (s : Shared) (u : Value), BindsTo s fd ⟨[u], []⟩ [(x, u)]) ∧
        ∀ base : Heap, (K w.params).In base → base.Ns mainGlobals mg → FnOkG l.prog w (K w.params) mg base (CX w) k fa fd [x] (sp w))
    (hsp : ∀ (w : World) (H : Hp) (a : Addr) (ns : List Int), ns.length ≤ n → Only H → SqL (K w.params) H a (ns.map V.int) → sp w [.ref a] H (fun v _ => v = .bl true) fun _ _ _ => False)
    (hCX : ∀ (w : World) (H : Hp) (s : Shared) (e : Value) (s' : Shared), CX w [] H s (fun _ _ _ => False) e s' → False) :
    PySem.W.WalkO q loose XP YP l.row.toRowW d [] (fun f vs => PySem.call f vs) := by
  refine Att.attach_call hn hdf fun w s₀ s₁ mg mb fa o pm cd doc a vs ns G Y ho hd hcd hmg hobj hints hlen hg => ?_
  have KX := hY w _ Y
  obtain ⟨fd, hb, hF⟩ := F w mg fa _ KX G.T.g hmg
  exact law_callG KX G.T.g G.T.b G.T.builtins G.T.nolimit hg hobj hints (Nat.le_trans hlen hn2) hr hF hb (fun H hO hS => hsp w H a ns hlen hO hS) fun H e s' => hCX w H s₁ e s'
end BX

set_option Elab.async false
set_option linter.all false
set_option maxRecDepth 100000
set_option maxHeartbeats 4000000
namespace Ru
open PySem PySem.Spec PyProof.Rows L2 BX EXB Co
open Fr (Bd)
/-! ### rows of fractions -/
/-- cells and what they are worth, below 2 ^ n -/
structure FrN (K : PySem.W.Frag) (H : Hp) (n : Nat) (cs : List V) (qs : List Rat) : Prop where
  len : cs.length = qs.length
  at_ : ∀ (i : Nat) (v : V), cs[i]? = some v → ∃ (a : Addr) (q : Rat), qs[i]? = some q ∧ v = .ref a ∧ SqT K H a (rp q) ∧ Bd n q
section
variable {K : PySem.W.Frag} {H H' : Hp} {n : Nat} {cs : List V} {qs : List Rat}
theorem FrN.keep (h : FrN K H n cs qs) (k : ∀ a xs, SqT K H a xs → SqT K H' a xs) : FrN K H' n cs qs :=
  ⟨h.len, fun i v e => let ⟨a, q, e1, e2, e3, e4⟩ := h.at_ i v e; ⟨a, q, e1, e2, k _ _ e3, e4⟩⟩
theorem FrN.same (h : FrN K H n cs qs) (e : Same H H') : FrN K H' n cs qs := h.keep fun _ _ => seqT e
theorem FrN.mono {m : Nat} (h : FrN K H n cs qs) (l : n ≤ m) : FrN K H m cs qs :=
  ⟨h.len, fun i v e => let ⟨a, q, e1, e2, e3, e4⟩ := h.at_ i v e; ⟨a, q, e1, e2, e3, e4.mono l⟩⟩
theorem FrN.nil : FrN K H n [] [] := ⟨rfl, fun i v e => by simp at e⟩
theorem FrN.snoc {a : Addr} {q : Rat} (h : FrN K H n cs qs) (ha : SqT K H a (rp q)) (hb : Bd n q) : FrN K H n (cs ++ [.ref a]) (qs ++ [q]) := by
  refine ⟨by rw [List.length_append, List.length_append, h.len]; rfl, fun i v e => ?_⟩
  by_cases hi : i < cs.length
  · rw [List.getElem?_append_left hi] at e
    obtain ⟨a', q', e1, e2, e3, e4⟩ := h.at_ i v e
    exact ⟨a', q', by rw [List.getElem?_append_left (by rw [← h.len]; exact hi)]; exact e1, e2, e3, e4⟩
  · rw [List.getElem?_append_right (by omega)] at e
    have e0 : i - cs.length = 0 := by
      cases z : i - cs.length with
      | zero => rfl
      | succ j => rw [z] at e; simp at e
    rw [e0] at e
    have ev : (V.ref a) = v := Option.some.inj e
    refine ⟨a, q, ?_, ev.symm, ha, hb⟩
    rw [List.getElem?_append_right (by rw [← h.len]; omega), ← h.len, e0]
    rfl
theorem FrN.set {a : Addr} {q : Rat} {j : Nat} (h : FrN K H n cs qs) (ha : SqT K H a (rp q)) (hb : Bd n q) : FrN K H n (cs.set j (.ref a)) (qs.set j q) := by
  refine ⟨by rw [List.length_set, List.length_set, h.len], fun i v e => ?_⟩
  by_cases hij : j = i
  · subst hij
    have hj : j < cs.length := by
      have := (List.getElem?_eq_some_iff.mp e).1
      rw [List.length_set] at this
      exact this
    rw [List.getElem?_set_self hj] at e
    exact ⟨a, q, List.getElem?_set_self (by rw [← h.len]; exact hj), (Option.some.inj e).symm, ha, hb⟩
  · rw [List.getElem?_set_ne hij] at e
    obtain ⟨a', q', e1, e2, e3, e4⟩ := h.at_ i v e
    exact ⟨a', q', by rw [List.getElem?_set_ne hij]; exact e1, e2, e3, e4⟩
theorem FrN.dp : ∀ {cs : List V} {qs : List Rat}, FrN K H n cs qs → DpAll K H cs (qs.map dR)
  | [], [], _ => .nil
  | [], _ :: _, h => by have := h.len; simp at this
  | _ :: _, [], h => by have := h.len; simp at this
  | v :: cs, q :: qs, h => by
    obtain ⟨a, q', e1, rfl, e3, _⟩ := h.at_ 0 v rfl
    have e : q = q' := Option.some.inj e1
    subst e
    exact .cons (dp_r e3) (FrN.dp ⟨by have := h.len; simpa using this, fun i v e => h.at_ (i + 1) v e⟩)
end
/-- all but ex stays -/
def SameB (ex : Addr) (H H' : Hp) : Prop := ∀ b o, b ≠ ex → H b = some o → H' b = some o
theorem SameB.of {ex : Addr} {H H' : Hp} (h : Same H H') : SameB ex H H' := fun b o _ e => h b o e
theorem SameB.trans {ex : Addr} {H H1 H2 : Hp} (a : SameB ex H H1) (b : SameB ex H1 H2) : SameB ex H H2 := fun c o hc h => b c o hc (a c o hc h)
theorem SameB.upd {ex : Addr} {H : Hp} {o : HO} : SameB ex H (upd H ex o) := fun b u hb e => by rw [upd_ne hb]; exact e
theorem SameB.tup {K : PySem.W.Frag} {ex : Addr} {H H' : Hp} {ys : List V} (h : SameB ex H H') (hx : H ex = some (.lst ys)) : ∀ a xs, SqT K H a xs → SqT K H' a xs := fun a xs z => by
  rcases z with (z | ⟨o, z⟩) | z
  · exact .inl (.inl (h _ _ (ne_of z hx (by intro w; cases w)) z))
  · exact .inl (.inr ⟨o, h _ _ (ne_of z hx (by intro w; cases w)) z⟩)
  · exact .inr z
/-- what stands in the rows rs is worth rss -/
def RowsAt (K : PySem.W.Frag) (H : Hp) (n : Nat) (rs : List Addr) (rss : List (List Rat)) : Prop := rs.length = rss.length ∧ ∀ (j : Nat) (r : Addr), rs[j]? = some r → ∃ cs qs, rss[j]? = some qs ∧ H r = some (.lst cs) ∧ FrN K H n cs qs
theorem RowsAt.keep {K : PySem.W.Frag} {H H' : Hp} {n : Nat} {rs : List Addr} {rss : List (List Rat)} {ex : Addr} {ys : List V} (h : RowsAt K H n rs rss) (s : SameB ex H H') (hx : H ex = some (.lst ys)) (hn : ex ∉ rs) : RowsAt K H' n rs rss := by
  refine ⟨h.1, fun j r e => ?_⟩
  obtain ⟨cs, qs, e1, e2, e3⟩ := h.2 j r e
  exact ⟨cs, qs, e1, s r _ (fun z => hn (by rw [← z]; exact List.mem_of_getElem? e)) e2, e3.keep (s.tup hx)⟩
theorem RowsAt.same {K : PySem.W.Frag} {H H' : Hp} {n : Nat} {rs : List Addr} {rss : List (List Rat)} (h : RowsAt K H n rs rss) (s : Same H H') : RowsAt K H' n rs rss := by
  refine ⟨h.1, fun j r e => ?_⟩
  obtain ⟨cs, qs, e1, e2, e3⟩ := h.2 j r e
  exact ⟨cs, qs, e1, s r _ e2, e3.same s⟩
theorem RowsAt.nil {K : PySem.W.Frag} {H : Hp} {n : Nat} : RowsAt K H n [] [] := ⟨rfl, fun j r e => by simp at e⟩
theorem RowsAt.snoc {K : PySem.W.Frag} {H : Hp} {n : Nat} {rs : List Addr} {rss : List (List Rat)} {r : Addr} {cs : List V} {qs : List Rat} (h : RowsAt K H n rs rss) (hr : H r = some (.lst cs)) (hf : FrN K H n cs qs) : RowsAt K H n (rs ++ [r]) (rss ++ [qs]) := by
  refine ⟨by rw [List.length_append, List.length_append, h.1]; rfl, fun j x e => ?_⟩
  by_cases hj : j < rs.length
  · rw [List.getElem?_append_left hj] at e
    obtain ⟨cs', qs', e1, e2, e3⟩ := h.2 j x e
    exact ⟨cs', qs', by rw [List.getElem?_append_left (by rw [← h.1]; exact hj)]; exact e1, e2, e3⟩
  · rw [List.getElem?_append_right (by omega)] at e
    have e0 : j - rs.length = 0 := by
      cases z : j - rs.length with
      | zero => rfl
      | succ i => rw [z] at e; simp at e
    rw [e0] at e
    have ev : r = x := Option.some.inj e
    subst ev
    refine ⟨cs, qs, ?_, hr, hf⟩
    rw [List.getElem?_append_right (by rw [← h.1]; omega), ← h.1, e0]
    rfl
theorem RowsAt.dp {K : PySem.W.Frag} {H : Hp} {n : Nat} : ∀ {rs : List Addr} {rss : List (List Rat)}, RowsAt K H n rs rss → DpAll K H (rs.map V.ref) (rss.map fun qs => PyData.list (qs.map dR))
  | [], [], _ => .nil
  | [], _ :: _, h => by have := h.1; simp at this
  | _ :: _, [], h => by have := h.1; simp at this
  | r :: rs, q :: rss, h => by
    obtain ⟨cs, qs, e1, e2, e3⟩ := h.2 0 r rfl
    have e : q = qs := Option.some.inj e1
    subst e
    exact .cons (.lst (SqL.of e2) e3.dp) (RowsAt.dp ⟨by have := h.1; simpa using this, fun j x e => h.2 (j + 1) x e⟩)
/-- rows as data -/
def dRows (rss : List (List Rat)) : PyData := .list (rss.map fun qs => PyData.list (qs.map dR))
theorem rows_lays : ∀ rss : List (List Rat), PyData.canLayAll0 (rss.map fun qs => PyData.list (qs.map dR)) = true
  | [] => rfl
  | q :: rss => by
    show (PyData.canLayAll0 (q.map dR) && PyData.canLayAll0 (rss.map fun qs => PyData.list (qs.map dR))) = true
    rw [rows_lays rss, lays q]
    rfl
theorem rows_deps : ∀ rss : List (List Rat), PyData.depthAll (rss.map fun qs => PyData.list (qs.map dR)) ≤ 2
  | [] => by decide
  | q :: rss => by
    have h1 := rows_deps rss
    have h2 := deps q
    show max (PyData.depthAll (q.map dR) + 1) (PyData.depthAll (rss.map fun qs => PyData.list (qs.map dR))) ≤ 2
    omega
theorem dRows_lay (rss : List (List Rat)) : (dRows rss).canLay0 = true := rows_lays rss
theorem dRows_shaped (rss : List (List Rat)) : SeqAt.shaped (dRows rss) = true := by
  unfold SeqAt.shaped
  rw [dRows_lay, Bool.true_and]
  refine decide_eq_true ?_
  have := rows_deps rss
  show PyData.depthAll (rss.map fun qs => PyData.list (qs.map dR)) + 1 ≤ 64
  omega
/-- a new list of new rows, beside what stood in H0 (but ex) -/
structure New (K : PySem.W.Frag) (H0 H : Hp) (ex D : Addr) (rs : List Addr) (rss : List (List Rat)) (n : Nat) : Prop where
  at_ : H D = some (.lst (rs.map V.ref))
  nd : rs.Nodup
  ne : D ∉ rs
  fresh : ∀ x ∈ rs, H0 x = none
  fD : H0 D = none
  nx : ex ∉ rs
  keep : SameB ex H0 H
  rows : RowsAt K H n rs rss
theorem New.start {K : PySem.W.Frag} {H : Hp} {ex D : Addr} {n : Nat} (hD : H D = none) : New K H (upd H D (.lst [])) ex D [] [] n :=
  ⟨upd_same, List.nodup_nil, by simp, fun x hx => by simp at hx, hD, by simp, SameB.of (same_new hD _), RowsAt.nil⟩
/-- a step beside the list: what is new is laid, ex may change -/
theorem New.step {K : PySem.W.Frag} {H0 H H1 : Hp} {ex D : Addr} {rs : List Addr} {rss : List (List Rat)} {n : Nat} {ys : List V} (h : New K H0 H ex D rs rss n) (s : SameB ex H H1) (hx : H ex = some (.lst ys)) (hDx : D ≠ ex) : New K H0 H1 ex D rs rss n :=
  ⟨s D _ hDx h.at_, h.nd, h.ne, h.fresh, h.fD, h.nx, h.keep.trans s, h.rows.keep s hx h.nx⟩
theorem New.stepS {K : PySem.W.Frag} {H0 H H1 : Hp} {ex D : Addr} {rs : List Addr} {rss : List (List Rat)} {n : Nat} (h : New K H0 H ex D rs rss n) (s : Same H H1) : New K H0 H1 ex D rs rss n :=
  ⟨s D _ h.at_, h.nd, h.ne, h.fresh, h.fD, h.nx, h.keep.trans (SameB.of s), h.rows.same s⟩
/-- one row more -/
theorem New.push {K : PySem.W.Frag} {H0 H H1 : Hp} {ex D l : Addr} {rs : List Addr} {rss : List (List Rat)} {n : Nat} {cs : List V} {qs : List Rat} (h0 : New K H0 H ex D rs rss n) (h : New K H0 H1 ex D rs rss n) (hl0 : H l = none) (hl : H1 l = some (.lst cs)) (hf : FrN K H1 n cs qs) (hle : l ≠ ex) :
    New K H0 (upd H1 D (.lst (rs.map V.ref ++ [V.ref l]))) ex D (rs ++ [l]) (rss ++ [qs]) n := by
  have hlD : l ≠ D := fun e => by
    rw [e, h0.at_] at hl0
    cases hl0
  have hlr : l ∉ rs := fun hm => by
    obtain ⟨j, hj, e⟩ := List.getElem_of_mem hm
    obtain ⟨cs', qs', _, e2, _⟩ := h0.rows.2 j l (by rw [List.getElem?_eq_getElem hj, e])
    rw [hl0] at e2
    cases e2
  have hl00 : H0 l = none := by
    cases e : H0 l with
    | none => rfl
    | some o =>
      rw [h0.keep l o hle e] at hl0
      cases hl0
  have sD : SameB D H1 (upd H1 D (.lst (rs.map V.ref ++ [V.ref l]))) := SameB.upd
  refine ⟨by rw [upd_same, List.map_append]; rfl, ?_, ?_, ?_, h.fD, ?_, ?_, ?_⟩
  · rw [List.nodup_append]
    refine ⟨h.nd, by simp, fun a ha b hb => ?_⟩
    have : b = l := by simpa using hb
    rw [this]
    exact fun e => hlr (by rw [← e]; exact ha)
  · intro hm
    rcases List.mem_append.mp hm with hm | hm
    · exact h.ne hm
    · have : D = l := by simpa using hm
      exact hlD this.symm
  · intro x hx
    rcases List.mem_append.mp hx with hx | hx
    · exact h.fresh x hx
    · have : x = l := by simpa using hx
      rw [this]
      exact hl00
  · intro hm
    rcases List.mem_append.mp hm with hm | hm
    · exact h.nx hm
    · have : ex = l := by simpa using hm
      exact hle this.symm
  · intro b o hb e
    rw [upd_ne (ne_of_none e h.fD)]
    exact h.keep b o hb e
  · exact (h.rows.keep sD h.at_ h.ne).snoc (by rw [upd_ne hlD]; exact hl) (hf.keep (sD.tup h.at_))
/-- list(x), by values -/
def rListOf (K : PySem.W.Frag) : List V → Hp → VK → Prop := fun xs H Q => ∃ p ys, xs = [V.ref p] ∧ (SqL K H p ys ∨ SqT K H p ys) ∧ ∀ l : Addr, H l = none → Q (V.ref l) (upd H l (.lst ys))
/-! ### rules -/
def RowOk (m : Nat) (qs : List Rat) : Prop := qs.length = m ∧ (∀ q ∈ qs, 0 ≤ q) ∧ qs.sum = 1
structure Good (rss : List (List Rat)) (m : Nat) : Prop where
  w1 : 1 ≤ rss.length
  w5 : rss.length ≤ 5
  m1 : 1 ≤ m
  m30 : m ≤ 30
  row : ∀ qs ∈ rss, RowOk m qs
/-- a list of rows that stands -/
def RwL (K : PySem.W.Frag) (H : Hp) (a : Addr) (rs : List Addr) (rss : List (List Rat)) (n : Nat) : Prop := H a = some (.lst (rs.map V.ref)) ∧ RowsAt K H n rs rss
theorem RwL.same {K : PySem.W.Frag} {H H' : Hp} {a : Addr} {rs : List Addr} {rss : List (List Rat)} {n : Nat} (h : RwL K H a rs rss n) (s : Same H H') : RwL K H' a rs rss n := ⟨s _ _ h.1, h.2.same s⟩
theorem RwL.dp {K : PySem.W.Frag} {H : Hp} {a : Addr} {rs : List Addr} {rss : List (List Rat)} {n : Nat} (h : RwL K H a rs rss n) : Dp K H (.ref a) (dRows rss) := .lst (SqL.of h.1) h.2.dp
theorem New.rwl {K : PySem.W.Frag} {H0 H : Hp} {ex D : Addr} {rs : List Addr} {rss : List (List Rat)} {n : Nat} (h : New K H0 H ex D rs rss n) : RwL K H D rs rss n := ⟨h.at_, h.rows⟩
/-- a new list of new rows -/
def Fresh (K : PySem.W.Frag) (H H' : Hp) (D : Addr) (rs : List Addr) (rss : List (List Rat)) (n : Nat) : Prop := RwL K H' D rs rss n ∧ rs.Nodup ∧ D ∉ rs ∧ H D = none ∧ (∀ x ∈ rs, H x = none) ∧ Same H H'
/-- an instance of the class at C, of these rows -/
def IsRule (K : PySem.W.Frag) (H : Hp) (C x : Addr) (rss : List (List Rat)) (n : Nat) : Prop := ∃ dx ra rs, H x = some (.ins C dx [("own_rows", .ref ra)]) ∧ RwL K H ra rs rss n
theorem IsRule.same {K : PySem.W.Frag} {H H' : Hp} {C x : Addr} {rss : List (List Rat)} {n : Nat} (h : IsRule K H C x rss n) (s : Same H H') : IsRule K H' C x rss n :=
  let ⟨dx, ra, rs, e1, e2⟩ := h; ⟨dx, ra, rs, s _ _ e1, e2.same s⟩
theorem New.toFresh {K : PySem.W.Frag} {H0 H : Hp} {D : Addr} {rs : List Addr} {rss : List (List Rat)} {n : Nat} (h : New K H0 H D D rs rss n) : Fresh K H0 H D rs rss n :=
  ⟨h.rwl, h.nd, h.ne, h.fD, h.fresh, fun b o e => h.keep b o (ne_of_none e h.fD) e⟩
/-! ### the mathematics of rules -/
theorem sum_nonneg' : ∀ {qs : List Rat}, (∀ q ∈ qs, 0 ≤ q) → 0 ≤ qs.sum
  | [], _ => by rw [List.sum_nil]; exact Rat.le_refl
  | q :: qs, h => by
    rw [List.sum_cons]
    exact Rat.add_nonneg (h q (List.mem_cons_self ..)) (sum_nonneg' fun x hx => h x (List.mem_cons_of_mem _ hx))
/-- shares of two rows side by side -/
def rowB (row second : List Rat) : List Rat := row.flatMap fun s => second.map fun o => s * o
theorem sum_map_mul (s : Rat) : ∀ l : List Rat, (l.map fun o => s * o).sum = s * l.sum
  | [] => by rw [List.map_nil, List.sum_nil, Rat.mul_zero]
  | x :: l => by rw [List.map_cons, List.sum_cons, List.sum_cons, sum_map_mul s l, Rat.mul_add]
theorem rowB_sum : ∀ (row second : List Rat), (rowB row second).sum = row.sum * second.sum
  | [], second => by show ([] : List Rat).sum = _; rw [List.sum_nil, Rat.zero_mul]
  | s :: row, second => by
    show ((second.map fun o => s * o) ++ rowB row second).sum = _
    rw [List.sum_append, sum_map_mul, rowB_sum row second, List.sum_cons, Rat.add_mul]
theorem rowB_len : ∀ (row second : List Rat), (rowB row second).length = row.length * second.length
  | [], second => by show 0 = _; rw [List.length_nil, Nat.zero_mul]
  | s :: row, second => by
    show ((second.map fun o => s * o) ++ rowB row second).length = _
    rw [List.length_append, List.length_map, rowB_len row second, List.length_cons, Nat.succ_mul, Nat.add_comm]
theorem rowB_ok {m k : Nat} {row second : List Rat} (h1 : RowOk m row) (h2 : RowOk k second) : RowOk (m * k) (rowB row second) := by
  refine ⟨by rw [rowB_len, h1.1, h2.1], fun q hq => ?_, by rw [rowB_sum, h1.2.2, h2.2.2, Rat.mul_one]⟩
  obtain ⟨s, hs, hq⟩ := List.mem_flatMap.mp hq
  obtain ⟨o, ho, rfl⟩ := List.mem_map.mp hq
  exact Rat.mul_nonneg (h1.2.1 s hs) (h2.2.1 o ho)
/-- words of one group are one -/
def grp : List Rat → List Nat → List Rat → List Rat
  | s :: row, g :: gs, told => grp row gs (told.set g (told.getD g 0 + s))
  | _, _, told => told
theorem grp_len : ∀ (row : List Rat) (gs : List Nat) (told : List Rat), (grp row gs told).length = told.length
  | [], _, _ => by rw [grp] <;> simp
  | _ :: _, [], _ => by rw [grp] <;> simp
  | s :: row, g :: gs, told => by rw [grp, grp_len row gs, List.length_set]
theorem set_sum : ∀ (l : List Rat) (g : Nat) (s : Rat), g < l.length → (l.set g (l.getD g 0 + s)).sum = l.sum + s
  | [], g, s, h => by simp at h
  | x :: l, 0, s, h => by
    show ((x + s) :: l).sum = _
    rw [List.sum_cons, List.sum_cons, Rat.add_assoc, Rat.add_assoc, Rat.add_comm s]
  | x :: l, g + 1, s, h => by
    show (x :: l.set g (l.getD g 0 + s)).sum = _
    rw [List.sum_cons, List.sum_cons, set_sum l g s (by simpa using h), Rat.add_assoc]
theorem grp_sum : ∀ (row : List Rat) (gs : List Nat) (told : List Rat), row.length = gs.length → (∀ g ∈ gs, g < told.length) → (grp row gs told).sum = told.sum + row.sum
  | [], [], told, _, _ => by show told.sum = _; rw [List.sum_nil, Rat.add_zero]
  | [], _ :: _, _, h, _ => by simp at h
  | _ :: _, [], _, h, _ => by simp at h
  | s :: row, g :: gs, told, h, hg => by
    rw [grp, grp_sum row gs _ (by simpa using h) (fun x hx => by rw [List.length_set]; exact hg x (List.mem_cons_of_mem _ hx)), set_sum told g s (hg g (List.mem_cons_self ..)), List.sum_cons, Rat.add_assoc]
theorem grp_nonneg : ∀ (row : List Rat) (gs : List Nat) (told : List Rat), (∀ q ∈ row, 0 ≤ q) → (∀ q ∈ told, 0 ≤ q) → ∀ q ∈ grp row gs told, 0 ≤ q
  | [], _, _, _, ht => by rw [grp]; exact ht; simp
  | _ :: _, [], _, _, ht => by rw [grp]; exact ht; simp
  | s :: row, g :: gs, told, hr, ht => by
    rw [grp]
    refine grp_nonneg row gs _ (fun q hq => hr q (List.mem_cons_of_mem _ hq)) fun q hq => ?_
    have hx : 0 ≤ told.getD g 0 := by
      by_cases h : g < told.length
      · rw [List.getD_eq_getElem?_getD, List.getElem?_eq_getElem h]
        exact ht _ (List.getElem_mem h)
      · rw [List.getD_eq_getElem?_getD, List.getElem?_eq_none (by omega)]
        exact Rat.le_refl
    rcases List.mem_or_eq_of_mem_set hq with hq | rfl
    · exact ht q hq
    · exact Rat.add_nonneg hx (hr s (List.mem_cons_self ..))
theorem grp_ok {m many : Nat} {row : List Rat} {gs : List Nat} (h : RowOk m row) (hl : gs.length = m) (hg : ∀ g ∈ gs, g < many) : RowOk many (grp row gs (List.replicate many 0)) := by
  have z : ∀ k : Nat, (List.replicate k (0 : Rat)).sum = 0 := fun k => by
    induction k with
    | zero => rfl
    | succ k ih => rw [List.replicate_succ, List.sum_cons, ih, Rat.add_zero]
  refine ⟨by rw [grp_len, List.length_replicate], grp_nonneg row gs _ h.2.1 fun q hq => ?_, ?_⟩
  · rw [List.eq_of_mem_replicate hq]
    exact Rat.le_refl
  · rw [grp_sum row gs _ (by rw [h.1, hl]) (fun g hgm => by rw [List.length_replicate]; exact hg g hgm), z, Rat.zero_add]
    exact h.2.2
/-- the row of the world i among w -/
def unit (w i : Nat) : List Rat := (List.range w).map fun j => if j = i then 1 else 0
theorem unit_sum : ∀ (w i : Nat), (unit w i).sum = if i < w then 1 else 0
  | 0, i => rfl
  | w + 1, i => by
    unfold unit
    rw [List.range_succ, List.map_append, List.sum_append]
    have ih := unit_sum w i
    unfold unit at ih
    rw [ih]
    show _ + ([if w = i then (1 : Rat) else 0]).sum = _
    rw [List.sum_cons, List.sum_nil, Rat.add_zero]
    by_cases h1 : i < w
    · rw [if_pos h1, if_neg (by omega), if_pos (by omega), Rat.add_zero]
    · by_cases h2 : w = i
      · rw [if_neg h1, if_pos h2, if_pos (by omega), Rat.zero_add]
      · rw [if_neg h1, if_neg h2, if_neg (by omega), Rat.zero_add]
theorem unit_ok {w i : Nat} (h : i < w) : RowOk w (unit w i) := by
  refine ⟨by unfold unit; rw [List.length_map, List.length_range], fun q hq => ?_, by rw [unit_sum, if_pos h]⟩
  obtain ⟨j, _, rfl⟩ := List.mem_map.mp hq
  split
  · decide
  · exact Rat.le_refl
end Ru

set_option Elab.async false
set_option linter.all false
set_option maxRecDepth 100000
set_option maxHeartbeats 4000000
namespace BX
open PySem PySem.Spec PyProof.Rows L2
def tMakeD (C : Addr) (sp : Sp) (dvs : List V) (E : L2.St → XK) (t : TA) : TE := fun σ H Q => t σ H fun vs H1 => ∀ x dx, H1 x = none → H1 dx = none → dx ≠ x → sp (.ref x :: (vs ++ dvs)) (upd (upd H1 dx (.own x)) x (.ins C dx [])) (fun v H2 => v = .non ∧ Q (.ref x) H2) (E σ)
section
variable {X : Cx} {CX : CXT} {k : Nat} {f C : Addr} {fd : FuncData} {ps : List Str} {sp : Sp} {E : L2.St → XK} {x : Str} {p pos : Pos} {e : Expr} {es : List Expr} {t : TA} {ds : List Value} {dvs : List V}
/-- C(e, ..), what its __init__ raises being wished for at the caller's slots -/
theorem pe_makeD (M : Mk X.K C f) (F : FnOk X.prog X.w X.K X.mg X.base CX k f fd ps sp) (hr : Room (k + 1) X.A) (hg : Gl X x) (hm : X.mg x = some (.ref C)) (hb : Binds X.K fd ps ds) (hd : Vals dvs ds) (hx : ∀ σ, PassesAt CX X σ (E σ))
    (ha : PA X (e :: es) t) (hdb : (x == ("__debug__" : Str)) = false := by decide) (he : starEach (e :: es) X.env = (false, eval e X.env) :: starEach es X.env := by rfl) (hpl : (backTo pos (starEach es X.env)).any (·.1) = false := by rfl) :
    PE X (.Call (.Name x p) (e :: es) [] pos) (tMakeD C sp dvs E t) := by
  refine ⟨fun pins s σ H Q I h => ?_⟩
  refine wpAny_Call_Name_kw (ld_glob I hg hm ?_ hdb)
  refine PySem.W.callWith_K (h₀ := X.base) I.ok.mod.kin M.kp (thn (ha.run pos pins s σ H _ I h) fun us s1 ⟨vs, H1, I1, r, q⟩ => ⟨I1.kIn, ?_⟩) he hpl
  have hq := q (s1.heap.objs.size + 1) s1.heap.objs.size (I1.hok.fresh (Nat.le_succ _)) (I1.hok.fresh (Nat.le_refl _)) (Nat.ne_of_lt (Nat.lt_succ_self _))
  have I2 := Inv.made (C := C) I1
  have r2 : Vals (V.ref (s1.heap.objs.size + 1) :: (vs ++ dvs)) (Value.ref (s1.heap.objs.size + 1) :: (us ++ ds)) := .cons rfl (r.append hd)
  have hl : (Value.ref (s1.heap.objs.size + 1) :: us ++ ds).length = ps.length := by
    have z := r2.length
    rw [F.len _ _ _ _ hq] at z
    exact z.symm
  refine wpAny_call (make_map (f := f) I1.kIn M.makes M.init (beq_iff_eq.mp M.fn) (codeAny_mono (F.run _ X.stack _ _ ⟨Value.ref (s1.heap.objs.size + 1) :: us, []⟩ (Value.ref (s1.heap.objs.size + 1) :: (us ++ ds)) _ _ (E σ) (hr.make C us [])
    (I2.env0.make C us []) (hb _ (Value.ref (s1.heap.objs.size + 1) :: us) I2.kIn hl) r2 hq) fun r s' hq' => ?_))
  cases r with
  | error er => exact hx σ pins _ _ er s' I2 hq'
  | ok fl =>
    cases fl with
    | ret u =>
      obtain ⟨v, H', I3, rv, ev, q3⟩ := I2.after hq'
      subst ev
      exact ⟨rv, ⟨V.ref (s1.heap.objs.size + 1), H', I3, rfl, q3⟩⟩
    | next => exact False.elim hq'
    | brk => exact False.elim hq'
    | cont => exact False.elim hq'
end
end BX

set_option Elab.async false
set_option linter.all false
set_option maxRecDepth 100000
set_option maxHeartbeats 4000000
namespace Rs
open PySem PySem.Spec PyProof.Rows L2 BX EXB Co Ru
open Fr (Bd)
theorem upd_swap {H : Hp} {a dx : Addr} {A B A' : HO} (h : dx ≠ a) : upd (upd (upd H dx A) a B) dx A' = upd (upd H dx A') a B := by
  funext b
  by_cases h1 : b = dx
  · rw [h1, upd_same, upd_ne h, upd_same]
  · rw [upd_ne h1]
    by_cases h2 : b = a
    · rw [h2, upd_same, upd_same]
    · rw [upd_ne h2, upd_ne h2, upd_ne h1, upd_ne h1]
abbrev Rsp := Option (List V)
def Rv (H : Hp) (v : V) : Rsp → Prop
  | none => v = .non
  | some ws => ∃ p, v = .ref p ∧ H p = some (.lst ws)
def Ret (Q : VK) (H : Hp) (r : Rsp) : Prop := ∀ v H', Same H H' → Rv H' v r → Q v H'
theorem Rv.same {H H' : Hp} {v : V} {r : Rsp} (h : Rv H v r) (s : Same H H') : Rv H' v r := by
  cases r with
  | none => exact h
  | some ws => obtain ⟨p, e1, e2⟩ := h; exact ⟨p, e1, s _ _ e2⟩
theorem tYes_of {σ : L2.St} {H : Hp} {A B : Hp → Prop} (h : A H) : tYes σ H (fun b H3 => if b = true then A H3 else B H3) := by
  show (if true = true then A H else B H)
  rw [if_pos rfl]
  exact h
def dV : V → PyData
  | .str s => .str s
  | .int i => .int i
  | .bl b => .bool b
  | _ => .none
def datR : Rsp → PyData
  | none => .none
  | some ws => .list (ws.map dV)
def Flat (v : V) : Prop := ((∃ s, v = .str s) ∨ (∃ i, v = .int i) ∨ (∃ b, v = .bl b) ∨ v = .non) ∧ (dV v).canLay0 = true
def Okr : Rsp → Prop
  | none => True
  | some ws => ∀ v ∈ ws, Flat v
theorem flat_dp {K : PySem.W.Frag} {H : Hp} {v : V} (h : Flat v) : Dp K H v (dV v) := by
  rcases h.1 with ⟨s, rfl⟩ | ⟨i, rfl⟩ | ⟨b, rfl⟩ | rfl
  · exact .str _
  · exact .int _
  · exact .bl _
  · exact .non
theorem flats_dp {K : PySem.W.Frag} {H : Hp} : ∀ ws : List V, (∀ v ∈ ws, Flat v) → DpAll K H ws (ws.map dV)
  | [], _ => .nil
  | v :: ws, h => .cons (flat_dp (h v (List.mem_cons_self ..))) (flats_dp ws fun x hx => h x (List.mem_cons_of_mem _ hx))
theorem flats_lay : ∀ ws : List V, (∀ v ∈ ws, Flat v) → PyData.canLayAll0 (ws.map dV) = true
  | [], _ => rfl
  | v :: ws, h => by
    show (PyData.canLay0 (dV v) && PyData.canLayAll0 (ws.map dV)) = true
    rw [(h v (List.mem_cons_self ..)).2, flats_lay ws fun x hx => h x (List.mem_cons_of_mem _ hx)]
    rfl
theorem flats_dep : ∀ ws : List V, PyData.depthAll (ws.map dV) ≤ 1
  | [] => by decide
  | v :: ws => by
    have h := flats_dep ws
    show max (PyData.depth (dV v)) (PyData.depthAll (ws.map dV)) ≤ 1
    have : PyData.depth (dV v) = 0 := by cases v <;> rfl
    omega
theorem Rv.dp {K : PySem.W.Frag} {H : Hp} {v : V} {r : Rsp} (ok : Okr r) (h : Rv H v r) : Dp K H v (datR r) := by
  cases r with
  | none => cases (show v = .non from h); exact .non
  | some ws =>
    obtain ⟨p, rfl, hp⟩ := h
    exact .lst (SqL.of hp) (flats_dp ws ok)
theorem datR_lay {r : Rsp} (ok : Okr r) : (datR r).canLay0 = true := by
  cases r with
  | none => rfl
  | some ws => exact flats_lay ws ok
theorem datR_sh {r : Rsp} (ok : Okr r) : SeqAt.shaped (datR r) = true := by
  unfold SeqAt.shaped
  rw [datR_lay ok, Bool.true_and]
  refine decide_eq_true ?_
  cases r with
  | none => decide
  | some ws =>
    have := flats_dep ws
    show PyData.depthAll (ws.map dV) + 1 ≤ 64
    omega
theorem fl_str {s : Str} (h : (PyData.str s).canLay0 = true) : Flat (.str s) := ⟨.inl ⟨s, rfl⟩, h⟩
theorem fl_int (i : Int) : Flat (.int i) := ⟨.inr (.inl ⟨i, rfl⟩), rfl⟩
theorem fl_bl (b : Bool) : Flat (.bl b) := ⟨.inr (.inr (.inl ⟨b, rfl⟩)), rfl⟩
theorem fl_non : Flat .non := ⟨.inr (.inr (.inr rfl)), rfl⟩
theorem okr3 {a b c : V} (ha : Flat a) (hb : Flat b) (hc : Flat c) : Okr (some [a, b, c]) := by
  intro v hv
  rcases List.mem_cons.mp hv with rfl | hv
  · exact ha
  rcases List.mem_cons.mp hv with rfl | hv
  · exact hb
  rw [List.mem_singleton.mp hv]
  exact hc
theorem cut_len {xs : List V} {n : Nat} {lo hi : Option Int} (h : xs.length ≤ n) : (cutV xs lo hi).length ≤ n := Nat.le_trans (cutV_length xs lo hi) h
/-- the law's shares: of m words, small -/
def spShares (K : PySem.W.Frag) : Sp := fun vs H Q _ => ∃ (l : Addr) (z : Int) (m : Nat), vs = [.ref l, .int (m : Int)] ∧ H l = some (.lst [.int z]) ∧ 1 ≤ m ∧ m ≤ 30 ∧
  ∀ D cs qs z' H', SameB l H H' → H' l = some (.lst [.int z']) → H D = none → D ≠ l → H' D = some (.lst cs) → FrN K H' 8 cs qs → RowOk m qs → Q (.ref D) H'
def spRowsL (K : PySem.W.Frag) : Sp := fun vs H Q _ => ∃ (l : Addr) (z : Int) (ww up : Nat), vs = [.ref l, .int (ww : Int), .int (up : Int)] ∧ H l = some (.lst [.int z]) ∧ 1 ≤ ww ∧ ww ≤ 5 ∧ 1 ≤ up ∧ up ≤ 30 ∧
  ∀ D rs rss m z' H', New K H H' l D rs rss 8 → D ≠ l → H' l = some (.lst [.int z']) → Good rss m → rss.length = ww → m ≤ up → Q (.ref D) H'
/-- xs[i] by values, i from 0 on -/
def rGet0 (K : PySem.W.Frag) : V → V → Hp → VK → Prop := fun o i H Q => ∃ (p : Addr) (xs : List V) (j : Nat) (v : V), o = .ref p ∧ i = .int (j : Int) ∧ SqL K H p xs ∧ xs[j]? = some v ∧ Q v H
theorem pget_list {X : Cx} : PGet X (rGet0 X.K) := by
  intro pins s σ H o i ov iv Q I ro ri h
  obtain ⟨p, xs, j, z, rfl, rfl, hq, he, q⟩ := h
  cases ro
  obtain ⟨t, rfl⟩ := ri
  obtain ⟨its, r, pl, hz⟩ := I.list hq
  obtain ⟨w, ew, rw'⟩ := r.get he
  have hj : j < xs.length := (List.getElem?_eq_some_iff.mp he).1
  have hn := line63
  exact wpAny_getItem_list pl.isList (by omega) (by omega) (by rw [Int.toNat_natCast]; simpa using ew) ⟨z, H, I, rw', q⟩
def shq (ns : List Int) : List Rat := ns.map fun x => Rat.divInt x ns.sum
theorem sum_divInt (S : Int) : ∀ ns : List Int, (ns.map fun x => Rat.divInt x S).sum = Rat.divInt ns.sum S
  | [] => by rw [List.map_nil, List.sum_nil, List.sum_nil, Rat.zero_divInt]
  | x :: ns => by
    rw [List.map_cons, List.sum_cons, List.sum_cons, sum_divInt S ns]
    by_cases h : S = 0
    · subst h
      rw [Rat.divInt_zero, Rat.divInt_zero, Rat.divInt_zero, Rat.add_zero]
    · rw [Rat.divInt_add_divInt _ _ h h, ← Int.add_mul, Rat.divInt_mul_right h]
theorem divInt_nn {x S : Int} (hx : 0 ≤ x) (hS : 0 < S) : 0 ≤ Rat.divInt x S := by
  rw [← Rat.num_nonneg, ← Fr.low_num hS]
  exact Int.fdiv_nonneg hx (by omega)
theorem divInt_one {S : Int} (hS : 0 < S) : Rat.divInt S S = 1 := by
  have h := Rat.divInt_mul_right (n := 1) (d := 1) (a := S) (by omega)
  rw [Int.one_mul] at h
  rw [h]
  rfl
theorem shq_ok {ns : List Int} {m : Nat} (hl : ns.length = m) (h0 : ∀ x ∈ ns, 0 ≤ x) (hS : 0 < ns.sum) : RowOk m (shq ns) := by
  refine ⟨by unfold shq; rw [List.length_map, hl], fun q hq => ?_, ?_⟩
  · obtain ⟨x, hx, rfl⟩ := List.mem_map.mp hq
    exact divInt_nn (h0 x hx) hS
  · unfold shq
    rw [sum_divInt, divInt_one hS]
theorem sum_le : ∀ (ns : List Int) (b : Int), (∀ x ∈ ns, x ≤ b) → ns.sum ≤ b * ns.length
  | [], b, _ => by simp
  | x :: ns, b, h => by
    have h1 := sum_le ns b fun y hy => h y (List.mem_cons_of_mem _ hy)
    have h2 := h x (List.mem_cons_self ..)
    rw [List.sum_cons, List.length_cons, Int.natCast_succ, Int.mul_add]
    omega
theorem sum_nn : ∀ (ns : List Int), (∀ x ∈ ns, 0 ≤ x) → 0 ≤ ns.sum
  | [], _ => by simp
  | x :: ns, h => by
    have h1 := sum_nn ns fun y hy => h y (List.mem_cons_of_mem _ hy)
    have h2 := h x (List.mem_cons_self ..)
    rw [List.sum_cons]
    omega
theorem set_sumI : ∀ (l : List Int) (g : Nat) (x : Int), l[g]? = some x → (l.set g (x + 1)).sum = l.sum + 1
  | [], g, x, h => by simp at h
  | y :: l, 0, x, h => by
    have e : y = x := Option.some.inj h
    subst e
    show ((y + 1) :: l).sum = _
    rw [List.sum_cons, List.sum_cons]
    omega
  | y :: l, g + 1, x, h => by
    show (y :: l.set g (x + 1)).sum = _
    rw [List.sum_cons, List.sum_cons, set_sumI l g x h]
    omega
theorem tab_at {d : Int} (h0 : 0 ≤ d) (h6 : d < 6) : ∃ v : Int, atI [V.int 0, V.int 1, V.int 1, V.int 2, V.int 3, V.int 5] d = some (V.int v) ∧ 0 ≤ v ∧ v ≤ 5 := by
  have : d = 0 ∨ d = 1 ∨ d = 2 ∨ d = 3 ∨ d = 4 ∨ d = 5 := by omega
  rcases this with rfl | rfl | rfl | rfl | rfl | rfl
  · exact ⟨_, atI_nat (j := 0) rfl, by decide, by decide⟩
  · exact ⟨_, atI_nat (j := 1) rfl, by decide, by decide⟩
  · exact ⟨_, atI_nat (j := 2) rfl, by decide, by decide⟩
  · exact ⟨_, atI_nat (j := 3) rfl, by decide, by decide⟩
  · exact ⟨_, atI_nat (j := 4) rfl, by decide, by decide⟩
  · exact ⟨_, atI_nat (j := 5) rfl, by decide, by decide⟩
theorem ne_num {K : PySem.W.Frag} {H : Hp} {l : Addr} {z : Int} {a : Addr} {rs : List Addr} {rss : List (List Rat)} {n : Nat} (hl : H l = some (.lst [.int z])) (h : RwL K H a rs rss n) : a ≠ l := fun e => by
  have := h.1
  rw [e, hl] at this
  cases rs with
  | nil => cases this
  | cons r rs => cases this
theorem nr_num {K : PySem.W.Frag} {H : Hp} {l : Addr} {z : Int} {rs : List Addr} {rss : List (List Rat)} {n : Nat} (hl : H l = some (.lst [.int z])) (h : RowsAt K H n rs rss) : l ∉ rs := fun hm => by
  obtain ⟨j, hj, e⟩ := List.getElem_of_mem hm
  obtain ⟨cs, qs, e1, e2, e3⟩ := h.2 j l (by rw [List.getElem?_eq_getElem hj, e])
  rw [hl] at e2
  cases e2
  obtain ⟨a, q, _, e, _⟩ := e3.at_ 0 _ rfl
  cases e
theorem RwL.keepB {K : PySem.W.Frag} {H H' : Hp} {l : Addr} {z : Int} {a : Addr} {rs : List Addr} {rss : List (List Rat)} {n : Nat} (h : RwL K H a rs rss n) (hl : H l = some (.lst [.int z])) (s : SameB l H H') : RwL K H' a rs rss n :=
  ⟨s _ _ (ne_num hl h) h.1, h.2.keep s hl (nr_num hl h.2)⟩
theorem IsRule.keepB {K : PySem.W.Frag} {H H' : Hp} {C x l : Addr} {z : Int} {rss : List (List Rat)} {n : Nat} (h : IsRule K H C x rss n) (hl : H l = some (.lst [.int z])) (s : SameB l H H') : IsRule K H' C x rss n := by
  obtain ⟨dx, ra, rs, e1, e2⟩ := h
  exact ⟨dx, ra, rs, s _ _ (ne_of e1 hl (by intro w; cases w)) e1, RwL.keepB e2 hl s⟩
theorem New.pre {K : PySem.W.Frag} {H00 H0 H : Hp} {ex D : Addr} {rs : List Addr} {rss : List (List Rat)} {n : Nat} (h : New K H0 H ex D rs rss n) (s : SameB ex H00 H0) (hD : D ≠ ex) : New K H00 H ex D rs rss n := by
  refine ⟨h.at_, h.nd, h.ne, fun x hx => ?_, ?_, h.nx, s.trans h.keep, h.rows⟩
  · cases e : H00 x with
    | none => rfl
    | some o =>
      have := s x o (fun z => h.nx (by rw [← z]; exact hx)) e
      rw [h.fresh x hx] at this
      cases this
  · cases e : H00 D with
    | none => rfl
    | some o =>
      have := s D o hD e
      rw [h.fD] at this
      cases this
theorem RwL.ins {K : PySem.W.Frag} {H : Hp} {a x C dx : Addr} {fs gs : List (Str × V)} {rs : List Addr} {rss : List (List Rat)} {n : Nat} (h : RwL K H a rs rss n) (hx : H x = some (.ins C dx fs)) : RwL K (upd H x (.ins C dx gs)) a rs rss n := by
  have st : ∀ b xs, SqT K H b xs → SqT K (upd H x (.ins C dx gs)) b xs := fun b xs z => by
    rcases z with (z | ⟨o, z⟩) | z
    · exact .inl (.inl (by rw [upd_ne (ne_of z hx (by intro w; cases w))]; exact z))
    · exact .inl (.inr ⟨o, by rw [upd_ne (ne_of z hx (by intro w; cases w))]; exact z⟩)
    · exact .inr z
  refine ⟨by rw [upd_ne (ne_of h.1 hx (by intro w; cases w))]; exact h.1, h.2.1, fun j r e => ?_⟩
  obtain ⟨cs, qs, e1, e2, e3⟩ := h.2.2 j r e
  exact ⟨cs, qs, e1, by rw [upd_ne (ne_of e2 hx (by intro w; cases w))]; exact e2, e3.keep st⟩
/-- len(o), o an instance with its own __len__ -/
def rLenO (C : Addr) (sp : Sp) : List V → Hp → VK → Prop := fun xs H Q => ∃ (x dx : Addr) (fs : List (Str × V)), xs = [.ref x] ∧ H x = some (.ins C dx fs) ∧ sp [.ref x] H (fun v H' => ∃ n : Nat, v = .int (n : Int) ∧ n < 1000 ∧ Q (.int (n : Int)) H') (fun _ _ _ => False)
theorem call_lenO {X : Cx} {C f : Addr} {fd : FuncData} {k : Nat} {sp : Sp} (hs : PySem.W.findIn X.K (.ref C) "__len__" = some (some (.ref f))) (hf : PySem.W.isFn X.K (.ref f) = true) (F : FnOk X.prog X.w X.K X.mg X.base CX0 k f fd ["self"] sp) (hr : Room (k + 1) X.A) (hb : Binds X.K fd ["self"] []) : CallR X (.builtin "len") (rLenO C sp) := by
  intro pins s σ H xs us Q I r h
  obtain ⟨x, dx, fs, rfl, hx, hq⟩ := h
  cases r with
  | @cons _ u _ _ ru rn =>
    cases rn
    cases (show u = Value.ref x from ru)
    obtain ⟨mA, J, _⟩ := ins_get I.hok hx
    obtain ⟨od, J, _⟩ := J.look
    obtain ⟨m, hF⟩ := I.fr
    refine PySem.W.len_K hF I.ok.mod.kin J hs hf ?_
    have e0 : Env0 X.prog X.w X.K X.mg X.base X.A.in1 X.stack s H := by
      have e := I.env0
      exact ⟨e.frames, e.mod, e.bs, e.bsz, e.funs, e.frf, e.hok, e.bare⟩
    have r2 : Vals [V.ref x] [Value.ref x] := .cons rfl .nil
    refine wpAny_call (codeAny_mono (F.run X.A.in1 X.stack s H ⟨[.ref x], []⟩ [.ref x] [.ref x] _ (fun _ _ _ => False) hr.in1 e0 (by
      have := hb s [.ref x] I.kIn rfl
      simpa using this) r2 hq) fun r s' hq' => ?_)
    cases r with
    | error e => exact False.elim hq'
    | ok fl =>
      cases fl with
      | ret u =>
        obtain ⟨z, H', I', rz, n, ez, hn, q⟩ := I.after hq'
        subst ez
        obtain ⟨t, rfl⟩ := (show ∃ t, u = Value.int (n : Int) t from rz)
        exact ⟨⟨by omega, by omega⟩, .int (n : Int), H', I'.tok _, ⟨_, rfl⟩, q⟩
      | next => exact False.elim hq'
      | brk => exact False.elim hq'
      | cont => exact False.elim hq'
theorem sum_snoc' {qs : List Rat} {i : Nat} {q : Rat} (h : qs[i]? = some q) : (qs.take (i + 1)).sum = (qs.take i).sum + q := Co.sum_snoc h
def spTotal (K : PySem.W.Frag) : Sp := fun vs H Q _ => ∃ (l : Addr) (cs : List V) (qs : List Rat) (n : Nat), vs = [.ref l, .non] ∧ SqL K H l cs ∧ FrN K H n cs qs ∧ (n + 1) * qs.length + 1 ≤ 8700 ∧ ∀ r H', Same H H' → SqT K H' r (rp qs.sum) → Q (.ref r) H'
def spCopied (K : PySem.W.Frag) : Sp := fun vs H Q _ => ∃ (a : Addr) (rs : List Addr) (rss : List (List Rat)) (n : Nat), vs = [.ref a] ∧ RwL K H a rs rss n ∧ rss.length ≤ 100 ∧ ∀ D rs' H', Fresh K H H' D rs' rss n → Q (.ref D) H'
theorem eqv_dR (a b : Rat) : PyData.eqv (dR a) (dR b) = decide (a = b) := by
  show PyData.eqv (.tuple [.int a.num, .int (a.den : Int)]) (.tuple [.int b.num, .int (b.den : Int)]) = _
  simp only [PyData.eqv, PyData.eqvAll, Bool.and_true]
  by_cases h : a = b
  · subst h
    simp
  · rw [decide_eq_false h, Bool.and_eq_false_iff]
    by_cases h1 : a.num = b.num
    · refine .inr ?_
      have h2 : a.den ≠ b.den := fun e => h (Rat.ext h1 e)
      simp only [beq_eq_false_iff_ne, ne_eq]
      omega
    · refine .inl ?_
      simp only [beq_eq_false_iff_ne, ne_eq]
      exact h1
def rLenS (K : PySem.W.Frag) : List V → Hp → VK → Prop := fun xs H Q => ∃ p ys, xs = [V.ref p] ∧ (SqL K H p ys ∨ SqT K H p ys) ∧ Q (.int ys.length) H
def rStrI : List V → Hp → VK → Prop := fun xs H Q => ∃ i : Int, xs = [V.int i] ∧ i.natAbs.log2 < 1920 ∧ Q (.str (toString i)) H
def rInt1 : List V → Hp → VK → Prop := fun xs H Q => (∃ i, xs = [V.int i] ∧ Q (.int i) H) ∨ ∃ k, xs = [V.bl k] ∧ Q (.int (if k then 1 else 0)) H
def rTupOf (K : PySem.W.Frag) : List V → Hp → VK → Prop := fun xs H Q => ∃ p ys, xs = [V.ref p] ∧ ((SqL K H p ys ∧ ∀ l, H l = none → Q (.ref l) (upd H l (.tup ys))) ∨ (SqT K H p ys ∧ Q (.ref p) H))
/-- a def that may raise, where it does not -/
theorem quiet {P : Program} {w : World} {K : PySem.W.Frag} {mg : Str → Option Value} {base : Heap} {k : Nat} {f : Addr} {fd : FuncData} {ps : List Str} {sp : Sp} (F : FnOk P w K mg base (L2.CX P w) k f fd ps sp) : FnOk P w K mg base CX0 k f fd ps (fun vs H Q _ => sp vs H Q E0) := by
  refine ⟨fun vs H Q E h => F.len vs H Q E0 h, fun A outer s H args us vs Q E hr e b r h => codeAny_mono (F.run A outer s H args us vs Q E0 hr e b r h) fun r s' hq => ?_⟩
  cases r with
  | error e =>
    obtain ⟨_, _, _, _, _, _, _, _, _, _, _, _, z⟩ := hq
    exact z.elim
  | ok fl =>
    cases fl <;> exact hq
end Rs

set_option Elab.async false
set_option linter.all false
set_option maxRecDepth 100000
set_option maxHeartbeats 4000000
namespace Dz
open PySem PySem.Spec PyProof.Rows L2 BX EXB Co Ru
open Fr (Bd)
/-! ### things of any kind, none of whose lists stands where ex says -/
mutual
inductive Dz (K : PySem.W.Frag) (H : Hp) (ex : Addr → Prop) : V → PyData → Prop
  | non : Dz K H ex .non .none
  | bl (b : Bool) : Dz K H ex (.bl b) (.bool b)
  | int (i : Int) : Dz K H ex (.int i) (.int i)
  | str (x : Str) : Dz K H ex (.str x) (.str x)
  | lst {a : Addr} {xs : List V} {ds : List PyData} (h : H a = some (.lst xs)) (hn : ¬ ex a) (t : DzA K H ex xs ds) : Dz K H ex (.ref a) (.list ds)
  | tup {a : Addr} {xs : List V} {ds : List PyData} (h : SqT K H a xs) (t : DzA K H ex xs ds) : Dz K H ex (.ref a) (.tuple ds)
  | dct {a : Addr} (h : H a = some (.dK [])) (hn : ¬ ex a) : Dz K H ex (.ref a) (.dict [])
inductive DzA (K : PySem.W.Frag) (H : Hp) (ex : Addr → Prop) : List V → List PyData → Prop
  | nil : DzA K H ex [] []
  | cons {v : V} {vs : List V} {d : PyData} {ds : List PyData} (h : Dz K H ex v d) (t : DzA K H ex vs ds) : DzA K H ex (v :: vs) (d :: ds)
end
/-- what changes leaves such things -/
structure Ch (K : PySem.W.Frag) (ex : Addr → Prop) (H H' : Hp) : Prop where
  tp : ∀ a xs, SqT K H a xs → SqT K H' a xs
  ob : ∀ b o, ¬ ex b → H b = some o → H' b = some o
section
variable {K : PySem.W.Frag} {ex ex' : Addr → Prop} {H H' H2 : Hp}
theorem Ch.of (s : Same H H') : Ch K ex H H' := ⟨fun _ _ => seqT s, fun b o _ e => s b o e⟩
theorem Ch.trans (a : Ch K ex H H') (b : Ch K ex H' H2) : Ch K ex H H2 := ⟨fun x y h => b.tp x y (a.tp x y h), fun x y n h => b.ob x y n (a.ob x y n h)⟩
theorem Ch.put {p : Addr} {ys zs : List V} (hp : H p = some (.lst ys)) (h : ex p) : Ch K ex H (upd H p (.lst zs)) := ⟨SameB.tup SameB.upd hp, fun b o n e => by rw [upd_ne (fun z => n (by rw [z]; exact h))]; exact e⟩
theorem Ch.but {l : Addr} {ys : List V} (hl : H l = some (.lst ys)) (s : SameB l H H') (h : ex l) : Ch K ex H H' := ⟨s.tup hl, fun b o n e => s b o (fun z => n (by rw [z]; exact h)) e⟩
mutual
theorem Dz.ch (c : Ch K ex H H') : ∀ (d : PyData) (v : V), Dz K H ex v d → Dz K H' ex v d
  | .none, _, h => by cases h; exact .non
  | .bool b, _, h => by cases h; exact .bl _
  | .int i, _, h => by cases h; exact .int _
  | .str x, _, h => by cases h; exact .str _
  | .list ds, _, h => by
    cases h with
    | lst h hn t => exact .lst (c.ob _ _ hn h) hn (DzA.ch c ds _ t)
  | .tuple ds, _, h => by
    cases h with
    | tup h t => exact .tup (c.tp _ _ h) (DzA.ch c ds _ t)
  | .dict ds, _, h => by
    cases h with
    | dct h hn => exact .dct (c.ob _ _ hn h) hn
theorem DzA.ch (c : Ch K ex H H') : ∀ (ds : List PyData) (vs : List V), DzA K H ex vs ds → DzA K H' ex vs ds
  | [], _, h => by cases h; exact .nil
  | d :: ds, _, h => by
    cases h with
    | cons h t => exact .cons (Dz.ch c d _ h) (DzA.ch c ds _ t)
end
mutual
theorem Dz.sub (s : ∀ a, ex' a → ex a) : ∀ (d : PyData) (v : V), Dz K H ex v d → Dz K H ex' v d
  | .none, _, h => by cases h; exact .non
  | .bool b, _, h => by cases h; exact .bl _
  | .int i, _, h => by cases h; exact .int _
  | .str x, _, h => by cases h; exact .str _
  | .list ds, _, h => by
    cases h with
    | lst h hn t => exact .lst h (fun z => hn (s _ z)) (DzA.sub s ds _ t)
  | .tuple ds, _, h => by
    cases h with
    | tup h t => exact .tup h (DzA.sub s ds _ t)
  | .dict ds, _, h => by
    cases h with
    | dct h hn => exact .dct h fun z => hn (s _ z)
theorem DzA.sub (s : ∀ a, ex' a → ex a) : ∀ (ds : List PyData) (vs : List V), DzA K H ex vs ds → DzA K H ex' vs ds
  | [], _, h => by cases h; exact .nil
  | d :: ds, _, h => by
    cases h with
    | cons h t => exact .cons (Dz.sub s d _ h) (DzA.sub s ds _ t)
end
mutual
theorem Dz.dp : ∀ (d : PyData) (v : V), Dz K H ex v d → d.hasDict = false → Dp K H v d
  | .none, _, h, _ => by cases h; exact .non
  | .bool b, _, h, _ => by cases h; exact .bl _
  | .int i, _, h, _ => by cases h; exact .int _
  | .str x, _, h, _ => by cases h; exact .str _
  | .list ds, _, h, e => by
    cases h with
    | lst h hn t => exact .lst (SqL.of h) (DzA.dp ds _ t (by simpa only [PyData.hasDict] using e))
  | .tuple ds, _, h, e => by
    cases h with
    | tup h t => exact .tup h (DzA.dp ds _ t (by simpa only [PyData.hasDict] using e))
  | .dict ds, _, h, e => by simp only [PyData.hasDict] at e; cases e
theorem DzA.dp : ∀ (ds : List PyData) (vs : List V), DzA K H ex vs ds → PyData.hasDictAll ds = false → DpAll K H vs ds
  | [], _, h, _ => by cases h; exact .nil
  | d :: ds, _, h, e => by
    cases h with
    | cons h t =>
      simp only [PyData.hasDictAll, Bool.or_eq_false_iff] at e
      exact .cons (Dz.dp d _ h e.1) (DzA.dp ds _ t e.2)
end
theorem Dz.same {d : PyData} {v : V} (h : Dz K H ex v d) (s : Same H H') : Dz K H' ex v d := Dz.ch (.of s) d v h
theorem DzA.same {d : List PyData} {v : List V} (h : DzA K H ex v d) (s : Same H H') : DzA K H' ex v d := DzA.ch (.of s) d v h
theorem Dz.cc {d : PyData} {v : V} (h : Dz K H ex v d) (c : Ch K ex H H') : Dz K H' ex v d := Dz.ch c d v h
theorem DzA.cc {d : List PyData} {v : List V} (h : DzA K H ex v d) (c : Ch K ex H H') : DzA K H' ex v d := DzA.ch c d v h
variable {vs us : List V} {ds es : List PyData}
theorem DzA.len (h : DzA K H ex vs ds) : vs.length = ds.length := by
  induction ds generalizing vs with
  | nil => cases h; rfl
  | cons d ds ih => cases h with | cons h t => rw [List.length_cons, List.length_cons, ih t]
theorem DzA.at_ (h : DzA K H ex vs ds) : ∀ {i : Nat} {v : V}, vs[i]? = some v → ∃ d, ds[i]? = some d ∧ Dz K H ex v d := by
  induction ds generalizing vs with
  | nil => cases h; intro i v e; simp at e
  | cons d ds ih =>
    cases h with
    | cons h t =>
      intro i v e
      cases i with
      | zero => cases (Option.some.inj e); exact ⟨_, rfl, h⟩
      | succ i => exact ih t e
theorem DzA.app (h : DzA K H ex vs ds) (g : DzA K H ex us es) : DzA K H ex (vs ++ us) (ds ++ es) := by
  induction ds generalizing vs with
  | nil => cases h; exact g
  | cons d ds ih => cases h with | cons h t => exact .cons h (ih t)
theorem DzA.drop (h : DzA K H ex vs ds) (n : Nat) : DzA K H ex (vs.drop n) (ds.drop n) := by
  induction ds generalizing vs n with
  | nil => cases h; rw [List.drop_nil, List.drop_nil]; exact .nil
  | cons d ds ih =>
    cases h with
    | cons h t =>
      cases n with
      | zero => exact .cons h t
      | succ n => exact ih t n
theorem DzA.take (h : DzA K H ex vs ds) (n : Nat) : DzA K H ex (vs.take n) (ds.take n) := by
  induction ds generalizing vs n with
  | nil => cases h; rw [List.take_nil, List.take_nil]; exact .nil
  | cons d ds ih =>
    cases h with
    | cons h t =>
      cases n with
      | zero => exact .nil
      | succ n => exact .cons h (ih t n)
theorem DzA.set {v : V} {d : PyData} (h : DzA K H ex vs ds) (j : Nat) (g : Dz K H ex v d) : DzA K H ex (vs.set j v) (ds.set j d) := by
  induction ds generalizing vs j with
  | nil => cases h; exact .nil
  | cons d ds ih =>
    cases h with
    | cons h t =>
      cases j with
      | zero => exact .cons g t
      | succ j => exact .cons h (ih t j)
theorem DzA.rep (h : DzA K H ex vs ds) : ∀ k : Nat, DzA K H ex (List.replicate k vs).flatten (List.replicate k ds).flatten
  | 0 => .nil
  | k + 1 => by
    rw [List.replicate_succ, List.replicate_succ, List.flatten_cons, List.flatten_cons]
    exact h.app (DzA.rep h k)
theorem DzA.of_mem : ∀ {vs : List V}, (∀ v ∈ vs, ∃ d, Dz K H ex v d) → ∃ ds, DzA K H ex vs ds
  | [], _ => ⟨[], .nil⟩
  | v :: vs, h => by
    obtain ⟨d, c⟩ := h v (List.mem_cons_self ..)
    obtain ⟨ds, t⟩ := DzA.of_mem fun x hx => h x (List.mem_cons_of_mem _ hx)
    exact ⟨d :: ds, .cons c t⟩
/-! ### kinds -/
def tyD : PyData → String
  | .none => "NoneType"
  | .bool _ => "bool"
  | .int _ => "int"
  | .str _ => "str"
  | .list _ => "list"
  | .tuple _ => "tuple"
  | .dict _ => "dict"
theorem Dz.ty {v : V} {d : PyData} (h : Dz K H ex v d) : TyX K H v (.type (tyD d)) := by
  cases h with
  | non => exact .base .non
  | bl b => exact .base (.bl _)
  | int i => exact .base (.int _)
  | str x => exact .base (.str _)
  | lst h hn t => exact .base (.lst h)
  | tup h t => exact tyT h
  | dct h hn => exact .base (.dK h)
def isL : PyData → Bool
  | .list _ => true
  | _ => false
def isT : PyData → Bool
  | .tuple _ => true
  | _ => false
def isI : PyData → Bool
  | .int _ => true
  | _ => false
def isIB : PyData → Bool
  | .int _ => true
  | .bool _ => true
  | _ => false
def isB : PyData → Bool
  | .bool _ => true
  | _ => false
def isS : PyData → Bool
  | .str _ => true
  | _ => false
theorem kit_isL (d : PyData) : kitB (tyD d) "list" = some (isL d) := by
  cases d with
  | none => show kitB "NoneType" "list" = some false; decide +kernel
  | bool x => show kitB "bool" "list" = some false; decide +kernel
  | int x => show kitB "int" "list" = some false; decide +kernel
  | str x => show kitB "str" "list" = some false; decide +kernel
  | list x => show kitB "list" "list" = some true; decide +kernel
  | tuple x => show kitB "tuple" "list" = some false; decide +kernel
  | dict x => show kitB "dict" "list" = some false; decide +kernel
theorem kit_isT (d : PyData) : kitB (tyD d) "tuple" = some (isT d) := by
  cases d with
  | none => show kitB "NoneType" "tuple" = some false; decide +kernel
  | bool x => show kitB "bool" "tuple" = some false; decide +kernel
  | int x => show kitB "int" "tuple" = some false; decide +kernel
  | str x => show kitB "str" "tuple" = some false; decide +kernel
  | list x => show kitB "list" "tuple" = some false; decide +kernel
  | tuple x => show kitB "tuple" "tuple" = some true; decide +kernel
  | dict x => show kitB "dict" "tuple" = some false; decide +kernel
theorem kit_isIB (d : PyData) : kitB (tyD d) "int" = some (isIB d) := by
  cases d with
  | none => show kitB "NoneType" "int" = some false; decide +kernel
  | bool x => show kitB "bool" "int" = some true; decide +kernel
  | int x => show kitB "int" "int" = some true; decide +kernel
  | str x => show kitB "str" "int" = some false; decide +kernel
  | list x => show kitB "list" "int" = some false; decide +kernel
  | tuple x => show kitB "tuple" "int" = some false; decide +kernel
  | dict x => show kitB "dict" "int" = some false; decide +kernel
theorem kit_isB (d : PyData) : kitB (tyD d) "bool" = some (isB d) := by
  cases d with
  | none => show kitB "NoneType" "bool" = some false; decide +kernel
  | bool x => show kitB "bool" "bool" = some true; decide +kernel
  | int x => show kitB "int" "bool" = some false; decide +kernel
  | str x => show kitB "str" "bool" = some false; decide +kernel
  | list x => show kitB "list" "bool" = some false; decide +kernel
  | tuple x => show kitB "tuple" "bool" = some false; decide +kernel
  | dict x => show kitB "dict" "bool" = some false; decide +kernel
theorem kit_isS (d : PyData) : kitB (tyD d) "str" = some (isS d) := by
  cases d with
  | none => show kitB "NoneType" "str" = some false; decide +kernel
  | bool x => show kitB "bool" "str" = some false; decide +kernel
  | int x => show kitB "int" "str" = some false; decide +kernel
  | str x => show kitB "str" "str" = some true; decide +kernel
  | list x => show kitB "list" "str" = some false; decide +kernel
  | tuple x => show kitB "tuple" "str" = some false; decide +kernel
  | dict x => show kitB "dict" "str" = some false; decide +kernel
/-- how many things a list has -/
def lenD : PyData → Option Nat
  | .list ds => some ds.length
  | _ => none
def lenOk : Option Nat → Int → Int → Bool
  | some n, lo, hi => decide (lo ≤ (n : Int)) && decide ((n : Int) ≤ hi)
  | none, _, _ => false
/-- the fraction that a thing is -/
def ratD : PyData → Option Rat
  | .tuple [.int t, .int b] => if 1 ≤ b ∧ Int.gcd t b = 1 then some (Rat.divInt t b) else none
  | _ => none
theorem ratD_num {t b : Int} (h1 : 1 ≤ b) (hg : Int.gcd t b = 1) : (Rat.divInt t b).num = t ∧ ((Rat.divInt t b).den : Int) = b := by
  have e1 := Fr.low_num (t := t) (b := b) (by omega)
  have e2 := Fr.low_den (t := t) (b := b) (by omega)
  rw [hg] at e1 e2
  rw [← e1, ← e2]
  exact ⟨Int.fdiv_one _, Int.fdiv_one _⟩
theorem Dz.rat {v : V} {d : PyData} {q : Rat} (h : Dz K H ex v d) (e : ratD d = some q) : ∃ a, v = .ref a ∧ SqT K H a (rp q) ∧ d = dR q := by
  unfold ratD at e
  split at e
  · rename_i t b
    split at e
    · rename_i c
      obtain ⟨e1, e2⟩ := ratD_num c.1 c.2
      cases e
      cases h with
      | @tup a xs _ h ts =>
        cases ts with
        | cons h1 ts =>
          cases ts with
          | cons h2 ts =>
            cases ts
            cases h1
            cases h2
            refine ⟨a, rfl, ?_, ?_⟩
            · unfold rp
              rw [e1, e2]
              exact h
            · unfold dR
              rw [e1, e2]
    · cases e
  · cases e
theorem ratD_dR (q : Rat) : ratD (dR q) = some q := by
  show (if 1 ≤ (q.den : Int) ∧ Int.gcd q.num q.den = 1 then some (Rat.divInt q.num q.den) else none) = some q
  have := Fr.den_pos q
  rw [if_pos ⟨by omega, Fr.ratio_gcd q⟩, Rat.num_divInt_den]
theorem dz_dR {a : Addr} {q : Rat} (h : SqT K H a (rp q)) : Dz K H ex (.ref a) (dR q) := .tup h (.cons (.int _) (.cons (.int _) .nil))
def shD (d : PyData) : Bool := match ratD d with
  | some q => decide (0 ≤ q.num)
  | none => false
def sumD (ds : List PyData) : Rat := (ds.map fun d => (ratD d).getD 0).sum
/-- things that are all fractions -/
theorem DzA.rats {n : Nat} (h : DzA K H ex vs ds) (hb : ∀ d ∈ ds, ∀ q, ratD d = some q → Bd n q) (g : ds.all (fun d => (ratD d).isSome) = true) : ∃ qs, ds = qs.map dR ∧ FrN K H n vs qs := by
  induction ds generalizing vs with
  | nil => cases h; exact ⟨[], rfl, FrN.nil⟩
  | cons d ds ih =>
    cases h with
    | @cons v vs _ _ h t =>
      rw [List.all_cons, Bool.and_eq_true] at g
      obtain ⟨qs, e1, e2⟩ := ih t (fun x hx => hb x (List.mem_cons_of_mem _ hx)) g.2
      obtain ⟨q, eq⟩ := Option.isSome_iff_exists.mp g.1
      obtain ⟨a, rfl, e3, e4⟩ := h.rat eq
      refine ⟨q :: qs, by rw [e4, e1]; rfl, ⟨by rw [List.length_cons, List.length_cons, e2.len], fun i x e => ?_⟩⟩
      cases i with
      | zero => cases (Option.some.inj e); exact ⟨a, q, rfl, rfl, e3, hb d (List.mem_cons_self ..) q eq⟩
      | succ i => exact e2.at_ i x e
theorem frn_dz : ∀ {vs : List V} {qs : List Rat} {n : Nat}, FrN K H n vs qs → DzA K H ex vs (qs.map dR)
  | [], [], _, _ => .nil
  | [], _ :: _, _, h => by have := h.len; simp at this
  | _ :: _, [], _, h => by have := h.len; simp at this
  | v :: vs, q :: qs, n, h => by
    obtain ⟨a, q', e1, rfl, e3, e4⟩ := h.at_ 0 v rfl
    cases (Option.some.inj e1)
    exact .cons (dz_dR e3) (frn_dz (n := n) ⟨by have := h.len; simpa using this, fun i v e => h.at_ (i + 1) v e⟩)
theorem rows_dz : ∀ {rs : List Addr} {rss : List (List Rat)} {n : Nat}, RowsAt K H n rs rss → (∀ r ∈ rs, ¬ ex r) → DzA K H ex (rs.map V.ref) (rss.map fun qs => .list (qs.map dR))
  | [], [], _, _, _ => .nil
  | [], _ :: _, _, h, _ => by have := h.1; simp at this
  | _ :: _, [], _, h, _ => by have := h.1; simp at this
  | r :: rs, q :: rss, n, h, hn => by
    obtain ⟨cs, qs, e1, e2, e3⟩ := h.2 0 r rfl
    have e : q = qs := Option.some.inj e1
    subst e
    exact .cons (.lst e2 (hn r (List.mem_cons_self ..)) (frn_dz e3)) (rows_dz (n := n) ⟨by have := h.1; simpa using this, fun j x e => h.2 (j + 1) x e⟩ fun r hr => hn r (List.mem_cons_of_mem _ hr))
end
/-! ### shown -/
section
variable {X : Cx} {pins : List (Addr × Obj)} {σ : L2.St} {H : Hp} {s : Shared} {ex : Addr → Prop}
mutual
theorem Dz.repk (I : Inv X pins σ H s) : ∀ (d : PyData) (v : V) (u : Value), Dz X.K H ex v d → RelV v u → d.showable = true → d.shown.length ≤ sizeLine → ∃ as bs, Reads s.heap u d as ∧ ReadAtMost s.heap d.depth bs ∧ ReprK X.prog X.w bs s.heap d.depth u d.shown
  | .none, _, _, h, r, _, _ => by
    cases h
    cases r
    exact ⟨[], [], .none, fun _ z => (nomatch z), ReprK.of_is ReprIs.none [] _ _⟩
  | .bool b, _, _, h, r, _, _ => by
    cases h
    cases r
    exact ⟨[], [], .bool b, fun _ z => (nomatch z), ReprK.of_is (ReprIs.bool b) [] _ _⟩
  | .int i, _, _, h, r, hs, _ => by
    cases h
    obtain ⟨t, rfl⟩ := r
    exact ⟨[], [], .int i t, fun _ z => (nomatch z), ReprK.of_is (ReprIs.int t (of_decide_eq_true hs)) [] _ _⟩
  | .str x, _, _, h, r, _, hz => by
    cases h
    obtain ⟨t, rfl⟩ := r
    exact ⟨[], [], .str x t, fun _ z => (nomatch z), ReprK.of_is (ReprIs.str x t hz) [] _ _⟩
  | .list ds, _, _, h, r, hs, hz => by
    cases h with
    | @lst a xs _ h hn t =>
      cases r
      obtain ⟨_, its, n, rv, e⟩ := (show ObjOk X.prog X.w H s.heap a (.lst xs) from I.hok a _ h)
      have hz1 : (listText (PyData.shownAll ds)).length ≤ sizeLine := hz
      obtain ⟨as, bs, h1, h2, h3⟩ := DzA.repk I ds xs its t rv hs fun y hy => Nat.le_trans (listText_mem_le hy) hz1
      have rd : Reads s.heap (.ref a) (.list ds) (a :: as) := .list e rfl rfl h1
      have na : a ∉ bs := not_mem_of_deeper rd (Nat.lt_succ_self _) h2
      refine ⟨_, a :: bs, rd, ReadAtMost.cons rd (Nat.le_succ _) h2, ?_⟩
      cases its with
      | nil =>
        cases h1
        exact ReprK.listEmpty e rfl rfl
      | cons x l => exact ReprK.list e rfl rfl na (by simpa using h3.length_eq) fun i y z => h3.item i y (by simpa using z)
  | .tuple ds, _, _, h, r, hs, hz => by
    cases h with
    | @tup a xs _ h t =>
      cases r
      obtain ⟨its, rv, ⟨o, ho, hc, n, hd⟩, _⟩ := I.tuple h
      have hz1 : (tupleText (PyData.shownAll ds)).length ≤ sizeLine := hz
      obtain ⟨as, bs, h1, h2, h3⟩ := DzA.repk I ds xs its t rv hs fun y hy => Nat.le_trans (tupleText_mem_le hy) hz1
      have rd : Reads s.heap (.ref a) (.tuple ds) as := .tuple ho hc hd h1
      exact ⟨_, a :: bs, rd, ReadAtMost.cons rd (Nat.le_succ _) h2, ReprK.tuple ho hc hd (not_mem_of_deeper rd (Nat.lt_succ_self _) h2) h3⟩
  | .dict ds, _, _, h, r, _, _ => by
    cases h with
    | @dct a h hn =>
      cases r
      obtain ⟨_, hns, vs, hkv, o, es, ep, h1, h2, h3, h4, h5, _⟩ := (show ObjOk X.prog X.w H s.heap a (.dK []) from I.hok a _ h)
      cases hkv
      have he : es.toList = [] := List.eq_nil_of_length_eq_zero h5.length
      have rd : Reads s.heap (.ref a) (.dict []) (a :: [] ++ []) := .dict h1 h2.1 h3 (by rw [he]; exact .nil) (by rw [he]; exact .nil)
      refine ⟨_, [a], rd, ReadAtMost.cons (n := 0) (bs := []) rd (Nat.zero_le _) (fun _ z => (nomatch z)), ReprK.dict (d := 0) (ps := []) h1 h2.1 h3 hns (by simp) (by rw [he]; exact .nil)⟩
theorem DzA.repk (I : Inv X pins σ H s) : ∀ (ds : List PyData) (vs : List V) (us : List Value), DzA X.K H ex vs ds → Vals vs us → PyData.showableAll ds = true → (∀ t ∈ PyData.shownAll ds, t.length ≤ sizeLine) → ∃ as bs, ReadsAll s.heap us ds as ∧ ReadAtMost s.heap (PyData.depthAll ds) bs ∧ ReprAllK X.prog X.w bs s.heap (PyData.depthAll ds) us (PyData.shownAll ds)
  | [], _, _, h, r, _, _ => by
    cases h
    cases r
    exact ⟨[], [], .nil, fun _ z => (nomatch z), .nil⟩
  | d :: ds, _, _, h, r, hs, hz => by
    cases h with
    | cons h t =>
      cases r with
      | cons r1 r2 =>
        have hs' : d.showable = true ∧ PyData.showableAll ds = true := Bool.and_eq_true _ _ ▸ (show (d.showable && PyData.showableAll ds) = true from hs)
        obtain ⟨as, bs, a1, a2, a3⟩ := Dz.repk I d _ _ h r1 hs'.1 (hz _ (List.mem_cons_self ..))
        obtain ⟨cs, es, b1, b2, b3⟩ := DzA.repk I ds _ _ t r2 hs'.2 fun y hy => hz y (List.mem_cons_of_mem _ hy)
        refine ⟨as ++ cs, bs ++ es, .cons a1 b1, fun b hb => ?_, .cons ((a3.more fun b hb => List.mem_append_left _ hb).level_le (Nat.le_max_left _ _)) (b3.more_le (fun b hb => List.mem_append_right _ hb) (Nat.le_max_right _ _))⟩
        rcases List.mem_append.mp hb with hb | hb
        · obtain ⟨x, y, z1, z2⟩ := a2 b hb
          exact ⟨x, y, z1, Nat.le_trans z2 (Nat.le_max_left _ _)⟩
        · obtain ⟨x, y, z1, z2⟩ := b2 b hb
          exact ⟨x, y, z1, Nat.le_trans z2 (Nat.le_max_right _ _)⟩
end
/-- repr of a list that is not empty -/
def rReprZ (K : PySem.W.Frag) : List V → Hp → VK → Prop := fun xs H Q => ∃ (ex : Addr → Prop) (x : V) (d : PyData) (ds : List PyData), xs = [x] ∧ Dz K H ex x (.list (d :: ds)) ∧ (PyData.list (d :: ds)).showable = true ∧ (PyData.list (d :: ds)).depth ≤ 64 ∧ (PyData.list (d :: ds)).shown.length ≤ sizeLine ∧ Q (.str (PyData.list (d :: ds)).shown) H
theorem call_reprZ {X : Cx} (hgd : X.A.guards = some []) (hu : X.A.units + 80 < cLine) : CallR X (.builtin "repr") (rReprZ X.K) := by
  intro pins s σ H xs us Q I r h
  obtain ⟨ex, x, d, ds, rfl, hd, hs, hdp, hsz, q⟩ := h
  cases r with
  | @cons _ u _ _ ru rn =>
    cases rn
    cases hd with
    | @lst a xs _ h hn t =>
      cases ru
      obtain ⟨_, its, n, rv, e⟩ := (show ObjOk X.prog X.w H s.heap a (.lst xs) from I.hok a _ h)
      have hz1 : (listText (PyData.shownAll (d :: ds))).length ≤ sizeLine := hsz
      obtain ⟨as, bs, h1, h2, h3⟩ := DzA.repk I (d :: ds) xs its t rv hs fun y hy => Nat.le_trans (listText_mem_le hy) hz1
      have rd : Reads s.heap (.ref a) (.list (d :: ds)) (a :: as) := .list e rfl rfl h1
      have na : a ∉ bs := not_mem_of_deeper rd (Nat.lt_succ_self _) h2
      have hdp' : PyData.depthAll (d :: ds) + 1 ≤ 64 := hdp
      cases its with
      | nil => cases h1
      | cons x l =>
        refine call_repr_slot (by omega) ⟨_, e, rfl⟩ F.slot_list_repr.toG (call_list_reprK e rfl rfl na (by simpa using h3.length_eq) (fun i y z => h3.item i y (by simpa using z)) hgd (fun b _ => Clear.nil b) (by show X.A.units + 1 + (_ + 1) < cLine; omega) (fun _ _ z => z) (fun h' u tk hk => ⟨_, _, rfl, ?_⟩) hz1)
        exact ⟨.str (PyData.list (d :: ds)).shown, H, I.kept (t' := tk) hk, ⟨_, rfl⟩, q⟩
end
/-! ### how long what is shown is -/
theorem textFrom_le : ∀ (ts : List Str) (k : Nat) (acc : Str), (textFrom k acc ts).length ≤ acc.length + piled ts
  | [], k, acc => Nat.le_add_right _ _
  | t :: ts, k, acc => by
    have h := textFrom_le ts (k + 1) (acc ++ (if k > 0 then ", " else "" : String) ++ t)
    rw [strLen_append, strLen_append] at h
    rw [piled_cons]
    have e : textFrom k acc (t :: ts) = textFrom (k + 1) (acc ++ (if k > 0 then ", " else "" : String) ++ t) ts := rfl
    rw [e]
    have hc : (((if k > 0 then ", " else "" : String) : Str)).length ≤ 2 := by split <;> decide
    omega
theorem listText_le (ts : List Str) : (listText ts).length ≤ 2 + piled ts := by
  have h := textFrom_le ts 0 "["
  unfold listText
  rw [strLen_append]
  have h1 : (("[" : String) : Str).length = 1 := by decide
  have h2 : (("]" : String) : Str).length = 1 := by decide
  omega
theorem tupleText_le (ts : List Str) : (tupleText ts).length ≤ 3 + piled ts := by
  unfold tupleText
  rw [strLen_append, strLen_append]
  have h1 : (("(" : String) : Str).length = 1 := by decide
  have h2 : (((if ts.length == 1 then ",)" else ")" : String) : Str)).length ≤ 2 := by split <;> decide
  cases ts with
  | nil =>
    have h3 : (Str.join ", " []).length = 0 := by decide
    omega
  | cons t ts =>
    have h3 := join_length_add (t :: ts) (by simp)
    omega
theorem piled_le {ts : List Str} {b : Nat} (h : ∀ t ∈ ts, t.length ≤ b) : piled ts ≤ ts.length * (b + 2) := by
  induction ts with
  | nil => exact Nat.zero_le _
  | cons t ts ih =>
    rw [piled_cons, List.length_cons, Nat.succ_mul]
    have h1 := h t (List.mem_cons_self ..)
    have h2 := ih fun x hx => h x (List.mem_cons_of_mem _ hx)
    omega
/-- data that can be shown, of so many levels, no longer than b -/
structure Sm (d : PyData) (k b : Nat) : Prop where
  sh : d.showable = true
  dp : d.depth ≤ k
  sz : d.shown.length ≤ b
  ly : d.canLay0 = true
theorem Sm.mono {d : PyData} {k b k' b' : Nat} (h : Sm d k b) (hk : k ≤ k') (hb : b ≤ b') : Sm d k' b' := ⟨h.sh, Nat.le_trans h.dp hk, Nat.le_trans h.sz hb, h.ly⟩
theorem shownAll_len : ∀ ds : List PyData, (PyData.shownAll ds).length = ds.length
  | [] => by simp only [PyData.shownAll, List.length_nil]
  | d :: ds => by simp only [PyData.shownAll, List.length_cons, shownAll_len ds]
theorem shownAll_mem : ∀ {ds : List PyData} {t : Str}, t ∈ PyData.shownAll ds → ∃ d ∈ ds, t = d.shown
  | [], t, h => by simp only [PyData.shownAll] at h; exact nomatch h
  | d :: ds, t, h => by
    simp only [PyData.shownAll, List.mem_cons] at h
    rcases h with rfl | h
    · exact ⟨d, List.mem_cons_self .., rfl⟩
    · obtain ⟨x, hx, e⟩ := shownAll_mem h
      exact ⟨x, List.mem_cons_of_mem _ hx, e⟩
theorem sm_piled {ds : List PyData} {k b n : Nat} (h : ∀ d ∈ ds, Sm d k b) (hn : ds.length ≤ n) : piled (PyData.shownAll ds) ≤ n * (b + 2) := by
  have h1 := piled_le (ts := PyData.shownAll ds) (b := b) fun t ht => by
    obtain ⟨d, hd, rfl⟩ := shownAll_mem ht
    exact (h d hd).sz
  rw [shownAll_len] at h1
  exact Nat.le_trans h1 (Nat.mul_le_mul_right _ hn)
theorem sm_shs : ∀ {ds : List PyData} {k b : Nat}, (∀ d ∈ ds, Sm d k b) → PyData.showableAll ds = true
  | [], _, _, _ => by simp only [PyData.showableAll]
  | d :: ds, k, b, h => by simp only [PyData.showableAll, (h d (List.mem_cons_self ..)).sh, sm_shs fun x hx => h x (List.mem_cons_of_mem _ hx), Bool.and_self]
theorem sm_lys : ∀ {ds : List PyData} {k b : Nat}, (∀ d ∈ ds, Sm d k b) → PyData.canLayAll0 ds = true
  | [], _, _, _ => rfl
  | d :: ds, k, b, h => by
    show (PyData.canLay0 d && PyData.canLayAll0 ds) = true
    rw [(h d (List.mem_cons_self ..)).ly, sm_lys fun x hx => h x (List.mem_cons_of_mem _ hx)]
    rfl
theorem sm_dps : ∀ {ds : List PyData} {k b : Nat}, (∀ d ∈ ds, Sm d k b) → PyData.depthAll ds ≤ k
  | [], _, _, _ => Nat.zero_le _
  | d :: ds, k, b, h => by
    show max (PyData.depth d) (PyData.depthAll ds) ≤ k
    have h1 := (h d (List.mem_cons_self ..)).dp
    have h2 := sm_dps fun x hx => h x (List.mem_cons_of_mem _ hx)
    omega
theorem sm_list {ds : List PyData} {k b n c : Nat} (h : ∀ d ∈ ds, Sm d k b) (hn : ds.length ≤ n) (hc : 3 + n * (b + 2) ≤ c) : Sm (.list ds) (k + 1) c := by
  refine ⟨by simp only [PyData.showable]; exact sm_shs h, ?_, ?_, sm_lys h⟩
  · have := sm_dps h
    show PyData.depthAll ds + 1 ≤ k + 1
    omega
  · have h1 := listText_le (PyData.shownAll ds)
    have h2 := sm_piled h hn
    simp only [PyData.shown]
    omega
theorem sm_tup {ds : List PyData} {k b n c : Nat} (h : ∀ d ∈ ds, Sm d k b) (hn : ds.length ≤ n) (hc : 3 + n * (b + 2) ≤ c) : Sm (.tuple ds) (k + 1) c := by
  refine ⟨by simp only [PyData.showable]; exact sm_shs h, ?_, ?_, sm_lys h⟩
  · have := sm_dps h
    show PyData.depthAll ds + 1 ≤ k + 1
    omega
  · have h1 := tupleText_le (PyData.shownAll ds)
    have h2 := sm_piled h hn
    simp only [PyData.shown]
    omega
end Dz

set_option Elab.async false
set_option linter.all false
set_option maxRecDepth 100000
set_option maxHeartbeats 4000000
namespace Cs
open PySem PySem.Spec PyProof.Rows L2 BX EXB Co Ru
open Dz
open Fr (Bd)
def itemsD : PyData → List PyData
  | .list ds => ds
  | _ => []
def spWholeZ (K : PySem.W.Frag) : Sp := fun vs H Q _ => ∃ (ex : Addr → Prop) (v : V) (d : PyData), vs = [v] ∧ Dz.Dz K H ex v d ∧ Q (.bl (isI d)) H
def spIsRZ (K : PySem.W.Frag) : Sp := fun vs H Q _ => ∃ (ex : Addr → Prop) (v : V) (d : PyData), vs = [v] ∧ Dz.Dz K H ex v d ∧ Q (.bl (ratD d).isSome) H
def spShareZ (K : PySem.W.Frag) : Sp := fun vs H Q _ => ∃ (ex : Addr → Prop) (v : V) (d : PyData), vs = [v] ∧ Dz.Dz K H ex v d ∧ Q (.bl (shD d)) H
def spListOfZ (K : PySem.W.Frag) : Sp := fun vs H Q _ => ∃ (ex : Addr → Prop) (v : V) (d : PyData) (lo hi : Int), vs = [v, .int lo, .int hi] ∧ Dz.Dz K H ex v d ∧ Q (.bl (lenOk (lenD d) lo hi)) H
def rowOkZ (d : PyData) (lo hi : Int) : Bool := lenOk (lenD d) lo hi && (itemsD d).all fun e => (ratD e).isSome
def firstWrongZ : List PyData → Nat → Int → Int → Option Nat
  | [], _, _, _ => none
  | d :: ds, j, lo, hi => if rowOkZ d lo hi = true then firstWrongZ ds (j + 1) ((itemsD d).length : Int) ((itemsD d).length : Int) else some j
theorem firstWrongZ_drop {ds : List PyData} {i : Nat} {d : PyData} {lo hi : Int} (h : ds[i]? = some d) : firstWrongZ (ds.drop i) i lo hi = if rowOkZ d lo hi = true then firstWrongZ (ds.drop (i + 1)) (i + 1) ((itemsD d).length : Int) ((itemsD d).length : Int) else some i := by
  have hi' : i < ds.length := (List.getElem?_eq_some_iff.mp h).1
  have e : ds[i] = d := (List.getElem?_eq_some_iff.mp h).2
  rw [List.drop_eq_getElem_cons hi', e, firstWrongZ]
def spRowZ (K : PySem.W.Frag) : Sp := fun vs H Q _ => ∃ (ex : Addr → Prop) (v : V) (d : PyData) (lo hi : Int), vs = [v, .int lo, .int hi] ∧ Dz.Dz K H ex v d ∧ hi ≤ 6 ∧ ∀ H', Same H H' → Q (.bl (rowOkZ d lo hi)) H'
def optI : Option Nat → V
  | none => .non
  | some j => .int (j : Nat)
def spWrongZ (K : PySem.W.Frag) (fR : Addr) : Sp := fun vs H Q _ => ∃ (ex : Addr → Prop) (a : Addr) (rs : List V) (ds : List PyData) (lo hi : Int), vs = [.ref a, .ref fR, .int lo, .int hi] ∧ H a = some (.lst rs) ∧ DzA K H ex rs ds ∧ hi ≤ 6 ∧ ∀ H', Same H H' → Q (optI (firstWrongZ ds 0 lo hi)) H'
def firstNot (p : PyData → Bool) : List PyData → Nat → Option Nat
  | [], _ => none
  | d :: ds, j => if p d = true then firstNot p ds (j + 1) else some j
theorem firstNot_drop {p : PyData → Bool} {ds : List PyData} {i : Nat} {d : PyData} (h : ds[i]? = some d) : firstNot p (ds.drop i) i = if p d = true then firstNot p (ds.drop (i + 1)) (i + 1) else some i := by
  have hi' : i < ds.length := (List.getElem?_eq_some_iff.mp h).1
  have e : ds[i] = d := (List.getElem?_eq_some_iff.mp h).2
  rw [List.drop_eq_getElem_cons hi', e, firstNot]
theorem firstNot_all {p : PyData → Bool} : ∀ {ds : List PyData} {j : Nat}, firstNot p ds j = none → ds.all p = true
  | [], _, _ => rfl
  | d :: ds, j, h => by
    rw [firstNot] at h
    split at h
    · rename_i c
      rw [List.all_cons, c, firstNot_all h]
      rfl
    · cases h
def numS : Option Nat → Rat → Option V
  | some j, _ => some (.int (j : Nat))
  | none, s => if s = 1 then none else some .non
/-- what is wrong with shares: its number -/
def badS (d : PyData) : Option V := if lenOk (lenD d) 1 5 = true then numS (firstNot shD (itemsD d) 0) (sumD (itemsD d)) else some .non
def badG (d : PyData) (ww lo hi : Int) : Option V := if lenOk (lenD d) ww ww = true then (firstWrongZ (itemsD d) 0 lo hi).map fun j => V.int (j : Nat) else some .non
def deedsD (d : PyData) : Nat := (itemsD ((itemsD d).headD .none)).length
def orP (p : Str) (o : Option V) (r : Option (Str × V)) : Option (Str × V) :=
  match o with
  | some n => some (p, n)
  | none => r
def badC (ds dh dt : PyData) : Option (Str × V) := orP "shares" (badS ds) (orP "hearer" (badG dh ((itemsD ds).length : Int) 1 6) (orP "teller" (badG dt ((itemsD ds).length : Int) (deedsD dh : Int) (deedsD dh : Int)) none))
/-- fractions of few figures -/
def Few (n : Nat) (ds : List PyData) : Prop := ∀ d ∈ ds, ∀ q, ratD d = some q → Bd n q
def spChkS (K : PySem.W.Frag) (CN : Addr) : Sp := fun vs H Q E => ∃ (ex : Addr → Prop) (v : V) (d : PyData), vs = [v] ∧ Dz.Dz K H ex v d ∧ Few 1000 (itemsD d) ∧
  (∀ r, badS d = some r → ∀ H' dd, Same H H' → H' dd = some (.xd [("number", r), ("part", .str "shares")]) → E (.ref CN) (some dd) H') ∧ (badS d = none → ∀ H', Same H H' → Q .non H')
def spChkG (K : PySem.W.Frag) (CN : Addr) : Sp := fun vs H Q E => ∃ (ex : Addr → Prop) (pt : Str) (v : V) (d : PyData) (ww lo hi : Int), vs = [.str pt, v, .int ww, .int lo, .int hi] ∧ Dz.Dz K H ex v d ∧ hi ≤ 6 ∧
  (∀ r, badG d ww lo hi = some r → ∀ H' dd, Same H H' → H' dd = some (.xd [("number", r), ("part", .str pt)]) → E (.ref CN) (some dd) H') ∧ (badG d ww lo hi = none → ∀ H', Same H H' → Q .non H')
/-- a case that stands -/
def IsCase (K : PySem.W.Frag) (H : Hp) (C x : Addr) (qs : List Rat) (hss tss : List (List Rat)) (n : Nat) : Prop := ∃ (dx sa ha ta : Addr) (cs : List V) (rh rt : List Addr), H x = some (.ins C dx [("own_shares", .ref sa), ("own_hearer", .ref ha), ("own_teller", .ref ta)]) ∧ H sa = some (.lst cs) ∧ FrN K H n cs qs ∧ RwL K H ha rh hss n ∧ RwL K H ta rt tss n
theorem IsCase.same {K : PySem.W.Frag} {H H' : Hp} {C x : Addr} {qs : List Rat} {hss tss : List (List Rat)} {n : Nat} (h : IsCase K H C x qs hss tss n) (s : Same H H') : IsCase K H' C x qs hss tss n :=
  let ⟨dx, sa, ha, ta, cs, rh, rt, e1, e2, e3, e4, e5⟩ := h; ⟨dx, sa, ha, ta, cs, rh, rt, s _ _ e1, s _ _ e2, e3.same s, e4.same s, e5.same s⟩
abbrev dS (qs : List Rat) : PyData := .list (qs.map dR)
/-- good parts of a case -/
structure GoodC (qs : List Rat) (hss tss : List (List Rat)) (ww dd : Nat) : Prop where
  w1 : 1 ≤ ww
  w5 : ww ≤ 5
  d1 : 1 ≤ dd
  d6 : dd ≤ 6
  sh : RowOk ww qs
  hl : hss.length = ww
  tl : tss.length = ww
  hr : ∀ r ∈ hss, r.length = dd
  tr : ∀ r ∈ tss, r.length = dd
theorem lenOk_iff {n : Nat} {lo hi : Int} : lenOk (some n) lo hi = true ↔ lo ≤ (n : Int) ∧ (n : Int) ≤ hi := by
  show (decide _ && decide _) = true ↔ _
  rw [Bool.and_eq_true, decide_eq_true_eq, decide_eq_true_eq]
theorem lenOk_list {d : PyData} {lo hi : Int} (h : lenOk (lenD d) lo hi = true) : ∃ ds, d = .list ds ∧ lo ≤ (ds.length : Int) ∧ (ds.length : Int) ≤ hi := by
  cases d with
  | list ds => exact ⟨ds, rfl, lenOk_iff.mp h⟩
  | _ => cases h
theorem all_dR (qs : List Rat) : (qs.map dR).all (fun e => (ratD e).isSome) = true := by
  rw [List.all_eq_true]
  intro d hd
  obtain ⟨q, _, rfl⟩ := List.mem_map.mp hd
  rw [ratD_dR]
  rfl
theorem shD_dR (q : Rat) : shD (dR q) = decide (0 ≤ q.num) := by
  unfold shD
  rw [ratD_dR]
theorem sumD_dR (qs : List Rat) : sumD (qs.map dR) = qs.sum := by
  unfold sumD
  rw [List.map_map]
  congr 1
  have : ((fun d => (ratD d).getD 0) ∘ dR) = id := by
    funext q
    show (ratD (dR q)).getD 0 = q
    rw [ratD_dR]
    rfl
  rw [this, List.map_id]
theorem firstNot_good {qs : List Rat} (h : ∀ q ∈ qs, 0 ≤ q) : ∀ {j : Nat}, firstNot shD (qs.map dR) j = none := by
  induction qs with
  | nil => intro j; rfl
  | cons q qs ih =>
    intro j
    show firstNot shD (dR q :: qs.map dR) j = none
    rw [firstNot, if_pos (by rw [shD_dR]; exact decide_eq_true (Rat.num_nonneg.mpr (h q (List.mem_cons_self ..))))]
    exact ih fun x hx => h x (List.mem_cons_of_mem _ hx)
theorem badS_good {qs : List Rat} {ww : Nat} (h : RowOk ww qs) (h1 : 1 ≤ ww) (h5 : ww ≤ 5) : badS (dS qs) = none := by
  unfold badS
  have e : lenOk (lenD (dS qs)) 1 5 = true := lenOk_iff.mpr (by rw [List.length_map, h.1]; omega)
  rw [if_pos e]
  show numS (firstNot shD (qs.map dR) 0) (sumD (qs.map dR)) = none
  rw [firstNot_good h.2.1, sumD_dR, h.2.2]
  rfl
theorem fwz_good {dd : Nat} : ∀ (rss : List (List Rat)) (j : Nat) (lo hi : Int), (∀ r ∈ rss, r.length = dd) → lo ≤ (dd : Int) → (dd : Int) ≤ hi → firstWrongZ (rss.map fun qs => .list (qs.map dR)) j lo hi = none
  | [], _, _, _, _, _, _ => rfl
  | q :: rss, j, lo, hi, h, h1, h2 => by
    have hq := h q (List.mem_cons_self ..)
    have c : rowOkZ (.list (q.map dR)) lo hi = true := by
      unfold rowOkZ
      have e : lenOk (lenD (.list (q.map dR))) lo hi = true := lenOk_iff.mpr (by rw [List.length_map, hq]; exact ⟨h1, h2⟩)
      rw [e]
      exact all_dR q
    show firstWrongZ (.list (q.map dR) :: rss.map fun qs => .list (qs.map dR)) j lo hi = none
    rw [firstWrongZ, if_pos c]
    have e : ((itemsD (.list (q.map dR))).length : Int) = (dd : Int) := by
      show ((q.map dR).length : Int) = _
      rw [List.length_map, hq]
    rw [e]
    exact fwz_good rss _ _ _ (fun r hr => h r (List.mem_cons_of_mem _ hr)) (Int.le_refl _) (Int.le_refl _)
theorem badG_good {rss : List (List Rat)} {ww dd : Nat} {lo hi : Int} (hl : rss.length = ww) (hr : ∀ r ∈ rss, r.length = dd) (h1 : lo ≤ (dd : Int)) (h2 : (dd : Int) ≤ hi) : badG (dRows rss) (ww : Int) lo hi = none := by
  unfold badG
  have e : lenOk (lenD (dRows rss)) (ww : Int) (ww : Int) = true := lenOk_iff.mpr (by rw [List.length_map, hl]; omega)
  rw [if_pos e]
  show (firstWrongZ (rss.map fun qs => .list (qs.map dR)) 0 lo hi).map _ = none
  rw [fwz_good rss 0 lo hi hr h1 h2]
  rfl
theorem badC_good {qs : List Rat} {hss tss : List (List Rat)} {ww dd : Nat} (g : GoodC qs hss tss ww dd) : badC (dS qs) (dRows hss) (dRows tss) = none := by
  have e0 := badS_good g.sh g.w1 g.w5
  have el : ((itemsD (dS qs)).length : Int) = (ww : Int) := by
    show ((qs.map dR).length : Int) = _
    rw [List.length_map, g.sh.1]
  have ed : deedsD (dRows hss) = dd := by
    have := g.w1
    have := g.hl
    cases hss with
    | nil => simp at this; omega
    | cons r hss =>
      show (r.map dR).length = dd
      rw [List.length_map]
      exact g.hr r (List.mem_cons_self ..)
  have h1 := g.d1
  have h6 := g.d6
  unfold badC
  rw [e0]
  rw [el, badG_good g.hl g.hr (by omega) (by omega), ed, badG_good g.tl g.tr (Int.le_refl _) (Int.le_refl _)]
  rfl
/-- rows that are let by are rows of fractions -/
theorem rows_of {K : PySem.W.Frag} {H : Hp} {ex : Addr → Prop} {n : Nat} : ∀ {ds : List PyData} {vs : List V} {j : Nat} {lo hi : Int}, DzA K H ex vs ds → (∀ d ∈ ds, Few n (itemsD d)) → firstWrongZ ds j lo hi = none → ∃ rs rss, vs = rs.map V.ref ∧ ds = rss.map (fun qs => PyData.list (qs.map dR)) ∧ RowsAt K H n rs rss
  | [], _, _, _, _, h, _, _ => by cases h; exact ⟨[], [], rfl, rfl, RowsAt.nil⟩
  | d :: ds, _, j, lo, hi, h, hf, e => by
    cases h with
    | @cons v vs _ _ h t =>
      rw [firstWrongZ] at e
      split at e
      · rename_i c
        obtain ⟨rs, rss, e1, e2, e3⟩ := rows_of t (fun x hx => hf x (List.mem_cons_of_mem _ hx)) e
        unfold rowOkZ at c
        rw [Bool.and_eq_true] at c
        obtain ⟨es, rfl, _, _⟩ := lenOk_list c.1
        cases h with
        | @lst a cs _ h hn ts =>
          obtain ⟨qs, f1, f2⟩ := ts.rats (n := n) (hf _ (List.mem_cons_self ..)) c.2
          refine ⟨a :: rs, qs :: rss, by rw [e1]; rfl, by rw [e2, f1]; rfl, ⟨by rw [List.length_cons, List.length_cons, e3.1], fun j x e => ?_⟩⟩
          cases j with
          | zero => cases (Option.some.inj e); exact ⟨cs, qs, rfl, h, f2⟩
          | succ j => exact e3.2 j x e
      · cases e
/-- Case(shares, hearer, teller), of any things -/
def spCInit (K : PySem.W.Frag) (C CN : Addr) : Sp := fun vs H Q E => ∃ (ex : Addr → Prop) (n : Nat) (x dx : Addr) (vs0 vh vt : V) (ds dh dt : PyData), vs = [.ref x, vs0, vh, vt] ∧ H x = some (.ins C dx []) ∧ Dz.Dz K H ex vs0 ds ∧ Dz.Dz K H ex vh dh ∧ Dz.Dz K H ex vt dt ∧
  n ≤ 1000 ∧ Few n (itemsD ds) ∧ (∀ d ∈ itemsD dh, Few n (itemsD d)) ∧ (∀ d ∈ itemsD dt, Few n (itemsD d)) ∧
  (∀ p r, badC ds dh dt = some (p, r) → ∀ H' dd, Same H H' → H' dd = some (.xd [("number", r), ("part", .str p)]) → E (.ref CN) (some dd) H') ∧
  (badC ds dh dt = none → ∀ sa ha ta cs rh rt qs hss tss H', (∀ b ob, b ≠ x → H b = some ob → H' b = some ob) → H' x = some (.ins C dx [("own_shares", .ref sa), ("own_hearer", .ref ha), ("own_teller", .ref ta)]) → H' sa = some (.lst cs) → FrN K H' n cs qs → RwL K H' ha rh hss n → RwL K H' ta rt tss n →
    ds = dS qs → dh = dRows hss → dt = dRows tss → Q .non H')
end Cs

set_option Elab.async false
set_option linter.all false
set_option maxRecDepth 100000
set_option maxHeartbeats 4000000
namespace Lw
open PySem PySem.Spec PyProof.Rows L2 BX EXB Co Ru
open Dz Cs
open Fr (Bd)
def spGain (K : PySem.W.Frag) : Sp := fun vs H Q _ => ∃ (l : Addr) (z : Int), vs = [.ref l] ∧ H l = some (.lst [.int z]) ∧ ∀ p q z' H', SameB l H H' → H' l = some (.lst [.int z']) → SqT K H' p (rp q) → Bd 8 q → Q (.ref p) H'
def spGains (K : PySem.W.Frag) : Sp := fun vs H Q _ => ∃ (l : Addr) (z : Int) (ww dd : Nat), vs = [.ref l, .int (ww : Int), .int (dd : Int)] ∧ H l = some (.lst [.int z]) ∧ ww ≤ 5 ∧ dd ≤ 6 ∧
  ∀ D rs rss z' H', New K H H' l D rs rss 8 → D ≠ l → H' l = some (.lst [.int z']) → rss.length = ww → (∀ r ∈ rss, r.length = dd) → Q (.ref D) H'
/-- the law's parts of a case -/
def PartsAt (K : PySem.W.Frag) (H : Hp) (P : Addr) (qs : List Rat) (hss tss : List (List Rat)) : Prop := ∃ (A B C : Addr) (cs : List V) (rh rt : List Addr), H P = some (.lst [.ref A, .ref B, .ref C]) ∧ H A = some (.lst cs) ∧ FrN K H 8 cs qs ∧ RwL K H B rh hss 8 ∧ RwL K H C rt tss 8
theorem PartsAt.same {K : PySem.W.Frag} {H H' : Hp} {P : Addr} {qs : List Rat} {hss tss : List (List Rat)} (h : PartsAt K H P qs hss tss) (s : Same H H') : PartsAt K H' P qs hss tss :=
  let ⟨A, B, C, cs, rh, rt, e1, e2, e3, e4, e5⟩ := h; ⟨A, B, C, cs, rh, rt, s _ _ e1, s _ _ e2, e3.same s, e4.same s, e5.same s⟩
theorem frn_num {K : PySem.W.Frag} {H : Hp} {n : Nat} {z : Int} {qs : List Rat} (h : FrN K H n [.int z] qs) : False := by
  obtain ⟨a, q, _, e, _⟩ := h.at_ 0 _ rfl
  cases e
theorem PartsAt.but {K : PySem.W.Frag} {H H' : Hp} {P l : Addr} {z : Int} {qs : List Rat} {hss tss : List (List Rat)} (h : PartsAt K H P qs hss tss) (hl : H l = some (.lst [.int z])) (s : SameB l H H') : PartsAt K H' P qs hss tss := by
  obtain ⟨A, B, C, cs, rh, rt, e1, e2, e3, e4, e5⟩ := h
  refine ⟨A, B, C, cs, rh, rt, s _ _ (fun e => ?_) e1, s _ _ (fun e => ?_) e2, e3.keep (s.tup hl), Rs.RwL.keepB e4 hl s, Rs.RwL.keepB e5 hl s⟩
  · rw [e, hl] at e1
    cases e1
  · rw [e, hl] at e2
    cases e2
    exact frn_num e3
def spParts (K : PySem.W.Frag) : Sp := fun vs H Q _ => ∃ (l : Addr) (z : Int) (mw md : Nat), vs = [.ref l, .int (mw : Int), .int (md : Int)] ∧ H l = some (.lst [.int z]) ∧ 1 ≤ mw ∧ mw ≤ 5 ∧ 1 ≤ md ∧ md ≤ 6 ∧
  ∀ P qs hss tss ww dd z' H', SameB l H H' → H' l = some (.lst [.int z']) → PartsAt K H' P qs hss tss → GoodC qs hss tss ww dd → ww ≤ mw → dd ≤ md → H P = none → P ≠ l → Q (.ref P) H'
theorem bd_one : Bd 8 (1 : Rat) := ⟨by decide, by decide⟩
theorem bd_nul : Bd 8 (0 : Rat) := ⟨by decide, by decide⟩
theorem tab5 {d : Int} (h0 : 0 ≤ d) (h5 : d < 5) : ∃ v : Int, atI [V.int 1, V.int 1, V.int 1, V.int 2, V.int 3] d = some (V.int v) ∧ 1 ≤ v ∧ v ≤ 3 := by
  have : d = 0 ∨ d = 1 ∨ d = 2 ∨ d = 3 ∨ d = 4 := by omega
  rcases this with rfl | rfl | rfl | rfl | rfl
  · exact ⟨1, atI_nat (j := 0) rfl, by decide, by decide⟩
  · exact ⟨1, atI_nat (j := 1) rfl, by decide, by decide⟩
  · exact ⟨1, atI_nat (j := 2) rfl, by decide, by decide⟩
  · exact ⟨2, atI_nat (j := 3) rfl, by decide, by decide⟩
  · exact ⟨3, atI_nat (j := 4) rfl, by decide, by decide⟩
end Lw

set_option Elab.async false
set_option linter.all false
set_option maxRecDepth 100000
set_option maxHeartbeats 4000000
namespace Hr
open PySem PySem.Spec PyProof.Rows L2 BX EXB Co Ru
open Dz Cs
open Fr (Bd)
/-! ### a def's promise, asked of less -/
theorem less {P : Program} {w : World} {K : PySem.W.Frag} {mg : Str → Option Value} {base : Heap} {CX : CXT} {k : Nat} {f : Addr} {fd : FuncData} {ps : List Str} {sp sp' : Sp} (F : FnOk P w K mg base CX k f fd ps sp) (h : ∀ vs H Q E, sp' vs H Q E → sp vs H Q E) : FnOk P w K mg base CX k f fd ps sp' :=
  ⟨fun vs H Q E z => F.len vs H Q E (h _ _ _ _ z), fun A outer s H args us vs Q E hr e b r z => F.run A outer s H args us vs Q E hr e b r (h _ _ _ _ z)⟩
/-! ### calls by names -/
section
variable {X : Cx} {CX : CXT} {k : Nat} {f : Addr} {fd : FuncData} {ps ks : List Str} {sp : Sp} {E : XK} {x : Str} {p pos : Pos} {kws : List Keyword} {tk : TA} {g : List Value → List Value → List Value} {gV : List V → List V → List V}
/-- f(k = v, ..), by names alone -/
theorem pe_callN0 (F : FnOk X.prog X.w X.K X.mg X.base CX k f fd ps sp) (hr : Room k X.A) (hg : Gl X x) (hm : X.mg x = some (.ref f)) (hk : PySem.W.keepIn X.K (.ref f) = true) (hb : KBn X.K fd ps 0 ks g gV) (hx : Passes CX X E)
    (hkw : PK X kws tk) (hall : (backToKw pos (keywordEach kws X.env)).all (·.1.isSome) = true := by rfl) (hks : (backToKw pos (keywordEach kws X.env)).filterMap (·.1) = ks := by rfl)
    (hdb : (x == ("__debug__" : Str)) = false := by decide) (hpl : ((backTo pos (starEach [] X.env)).any (·.1) || (backToKw pos (keywordEach kws X.env)).any (·.1.isNone)) = false := by rfl) :
    PE X (.Call (.Name x p) [] kws pos) (tCallN 0 ks.length sp gV E tNil tk) := by
  constructor
  intro pins s σ H Q I h
  apply wpAny_Call_Name_kw
  apply ld_glob I hg hm _ hdb
  apply PySem.W.callWith_KW0 (h₀ := X.base) I.ok.mod.kin hk hall _ hpl
  refine thn (hkw.run pos pins s σ H _ I h) ?_
  rintro ws s2 ⟨zs, H2, I2, rz, l1, l2, q2⟩
  rw [hks]
  exact ⟨I2.kIn, run_fnN F hr hb hx I2 .nil rz l1 l2 q2⟩
end
theorem kbn_of {K : PySem.W.Frag} {x qual : Str} {st : Stmt} {f : Addr} {fd : FuncData} {ps ks : List Str} {n : Nat} (g : {α : Type} → List α → List α → List α) (F : Fun K x qual st f fd)
    (hrel : ∀ {vs : List V} {us : List Value} {zs : List V} {ws : List Value}, Vals vs us → Vals zs ws → Vals (g vs zs) (g us ws))
    (h : ∀ (kV doc pm : Value) (an : Option Addr) (cdv ct : Value) (us ws : List Value), us.length = n → ws.length = ks.length → bindArgs (PySem.W.fnOf x qual (defArgs st) (defBody st) (defScope st) .none kV doc pm an cdv ct) ⟨us, ks.zip ws⟩ = pure (ps.zip (g us ws))) : KBn K fd ps n ks g g := by
  obtain ⟨oc, od, kV, doc, pm, an, cdv, ct, osl, rfl, lk, hcd⟩ := F.ex
  exact ⟨fun s us ws _ l1 l2 => .of_eq (h kV doc pm an cdv ct us ws l1 l2), hrel⟩
/-- first the values, then the names' -/
def gA : {α : Type} → List α → List α → List α := fun us ws => us ++ ws
theorem gA_rel {vs : List V} {us : List Value} {zs : List V} {ws : List Value} (a : Vals vs us) (b : Vals zs ws) : Vals (gA vs zs) (gA us ws) := a.append b
/-! ### numbers -/
theorem bd_sum {n : Nat} : ∀ {qs : List Rat}, (∀ q ∈ qs, Bd n q) → Bd ((n + 1) * qs.length + 1) qs.sum
  | [], _ => ⟨by show (0 : Int).natAbs < 2 ^ 1; decide, by show 1 < 2 ^ 1; decide⟩
  | q :: qs, h => by
    rw [List.sum_cons, List.length_cons]
    exact (Fr.bd_add (h q (List.mem_cons_self ..)) (bd_sum fun x hx => h x (List.mem_cons_of_mem _ hx))).mono (by rw [Nat.mul_succ]; omega)
theorem frn_get {K : PySem.W.Frag} {H : Hp} {n : Nat} {cs : List V} {qs : List Rat} (h : FrN K H n cs qs) {i : Nat} {q : Rat} (e : qs[i]? = some q) : ∃ a, cs[i]? = some (.ref a) ∧ SqT K H a (rp q) ∧ Bd n q := by
  have hi : i < cs.length := by
    rw [h.len]
    exact (List.getElem?_eq_some_iff.mp e).1
  obtain ⟨a, q', e1, e2, e3, e4⟩ := h.at_ i _ (List.getElem?_eq_getElem hi)
  rw [e] at e1
  cases e1
  exact ⟨a, by rw [List.getElem?_eq_getElem hi, e2], e3, e4⟩
theorem frn_bd {K : PySem.W.Frag} {H : Hp} {n : Nat} {cs : List V} {qs : List Rat} (h : FrN K H n cs qs) : ∀ q ∈ qs, Bd n q := fun q hq => by
  obtain ⟨i, hi, e⟩ := List.getElem_of_mem hq
  obtain ⟨_, _, _, b⟩ := frn_get h (show qs[i]? = some q by rw [List.getElem?_eq_getElem hi, e])
  exact b
theorem lt_iff' (a b : Rat) : decide (a.num * b.den < b.num * a.den) = decide (a < b) := by
  have := Rat.lt_iff a b
  simp only [this]
/-! ### what deeds are worth -/
def prods (rss : List (List Rat)) (ws : List Rat) (d : Nat) : List Rat := List.zipWith (fun w r => w * r.getD d 0) ws rss
def wq (rss : List (List Rat)) (ws : List Rat) (d : Nat) : Rat := (prods rss ws d).sum
theorem prods_at {rss : List (List Rat)} {ws : List Rat} {d i : Nat} {q : Rat} {r : List Rat} (h1 : ws[i]? = some q) (h2 : rss[i]? = some r) : (prods rss ws d)[i]? = some (q * r.getD d 0) := by
  unfold prods
  rw [List.getElem?_zipWith, h1, h2]
theorem prods_len {rss : List (List Rat)} {ws : List Rat} {d : Nat} (h : ws.length = rss.length) : (prods rss ws d).length = ws.length := by
  unfold prods
  rw [List.length_zipWith]
  omega
/-- a table of gains by weights -/
def spWorth (K : PySem.W.Frag) : Sp := fun vs H Q _ => ∃ (a b : Addr) (d : Nat) (rs : List Addr) (rss : List (List Rat)) (cs : List V) (ws : List Rat) (n m dd : Nat), vs = [.ref a, .ref b, .int (d : Int)] ∧ RwL K H a rs rss n ∧ SqL K H b cs ∧ FrN K H m cs ws ∧ ws.length = rss.length ∧ rss.length ≤ 5 ∧ (∀ r ∈ rss, r.length = dd) ∧ d < dd ∧ n ≤ 280 ∧ m ≤ 280 ∧
  ∀ p H', Same H H' → SqT K H' p (rp (wq rss ws d)) → Bd ((n + m + 1) * 5 + 1) (wq rss ws d) → Q (.ref p) H'
theorem bd_wq {K : PySem.W.Frag} {H : Hp} {a : Addr} {rs : List Addr} {rss : List (List Rat)} {cs : List V} {ws : List Rat} {n m d : Nat} (h1 : RwL K H a rs rss n) (h2 : FrN K H m cs ws) (hd : ∀ r ∈ rss, d < r.length) (hl : ws.length = rss.length) (h5 : rss.length ≤ 5) : (∀ q ∈ prods rss ws d, Bd (n + m) q) ∧ Bd ((n + m + 1) * 5 + 1) (wq rss ws d) := by
  have hb : ∀ q ∈ prods rss ws d, Bd (n + m) q := fun q hq => by
    unfold prods at hq
    obtain ⟨i, hi, e⟩ := List.getElem_of_mem hq
    rw [List.length_zipWith] at hi
    have hw : i < ws.length := by omega
    have hr : i < rss.length := by omega
    have e2 : (List.zipWith (fun w r => w * r.getD d 0) ws rss)[i]? = some (ws[i] * rss[i].getD d 0) := prods_at (List.getElem?_eq_getElem hw) (List.getElem?_eq_getElem hr)
    have eq : q = ws[i] * rss[i].getD d 0 := by
      rw [← e]
      have := List.getElem?_eq_some_iff.mp e2
      exact this.2
    rw [eq]
    have b1 := frn_bd h2 ws[i] (List.getElem_mem hw)
    have hrs : i < rs.length := by rw [h1.2.1]; exact hr
    obtain ⟨cs', qs, f1, f2, f3⟩ := h1.2.2 i rs[i] (List.getElem?_eq_getElem hrs)
    rw [List.getElem?_eq_getElem hr] at f1
    cases f1
    have hdl := hd rss[i] (List.getElem_mem hr)
    have b2 : Bd n (rss[i].getD d 0) := by
      rw [List.getD_eq_getElem?_getD, List.getElem?_eq_getElem hdl]
      exact frn_bd f3 _ (List.getElem_mem hdl)
    exact (Fr.bd_mul b1 b2).mono (by omega)
  refine ⟨hb, (bd_sum hb).mono ?_⟩
  have : (prods rss ws d).length ≤ 5 := by rw [prods_len hl]; omega
  have := Nat.mul_le_mul_left (n + m + 1) this
  omega
/-! ### the greatest -/
def spGreatest (K : PySem.W.Frag) : Sp := fun vs H Q _ => ∃ (a : Addr) (cs : List V) (qs : List Rat) (n : Nat), vs = [.ref a] ∧ SqL K H a cs ∧ FrN K H n cs qs ∧ qs ≠ [] ∧ n ≤ 4400 ∧
  ∀ (i : Nat) (p : Addr) (q : Rat), cs[i]? = some (.ref p) → qs[i]? = some q → SqT K H p (rp q) → (∀ x ∈ qs, x ≤ q) → Q (.ref p) H
/-! ### good things alone -/
def spWithin : Sp := fun vs H Q _ => ∃ i lo hi : Int, vs = [.int i, .int lo, .int hi] ∧ Q (.bl (decide (lo ≤ i) && decide (i ≤ hi))) H
def spWholeI : Sp := fun vs H Q _ => ∃ i : Int, vs = [.int i] ∧ Q (.bl true) H
def spShare (K : PySem.W.Frag) : Sp := fun vs H Q _ => ∃ (a : Addr) (q : Rat), vs = [.ref a] ∧ SqT K H a (rp q) ∧ 0 ≤ q ∧ Q (.bl true) H
def spListOf (K : PySem.W.Frag) : Sp := fun vs H Q _ => ∃ (a : Addr) (xs : List V) (lo hi : Int), vs = [.ref a, .int lo, .int hi] ∧ H a = some (.lst xs) ∧ Q (.bl (decide (lo ≤ (xs.length : Int)) && decide ((xs.length : Int) ≤ hi))) H
def spShRow (K : PySem.W.Frag) : Sp := fun vs H Q _ => ∃ (r : Addr) (cs : List V) (qs : List Rat) (n m : Nat) (lo hi : Int), vs = [.ref r, .int lo, .int hi] ∧ H r = some (.lst cs) ∧ FrN K H n cs qs ∧ RowOk m qs ∧ m ≤ 30 ∧ n ≤ 280 ∧ lo ≤ (m : Int) ∧ (m : Int) ≤ hi ∧ ∀ H', Same H H' → Q (.bl true) H'
def spWrong (K : PySem.W.Frag) (fR : Addr) : Sp := fun vs H Q _ => ∃ (a : Addr) (rs : List Addr) (rss : List (List Rat)) (n m : Nat), vs = [.ref a, .ref fR, .int 1, .int 30] ∧ RwL K H a rs rss n ∧ Good rss m ∧ n ≤ 280 ∧ ∀ H', Same H H' → Q .non H'
section
variable {P : Program} {w : World} {K : PySem.W.Frag} {mg : Str → Option Value} {base : Heap} {k : Nat} {f : Addr} {fd : FuncData} {ps : List Str}
theorem wholeI (F : FnOk P w K mg base CX0 k f fd ps (spWholeZ K)) : FnOk P w K mg base CX0 k f fd ps spWholeI := less F fun vs H Q E ⟨i, e, q⟩ => ⟨fun _ => False, .int i, .int i, e, .int i, q⟩
theorem shareG (F : FnOk P w K mg base CX0 k f fd ps (spShareZ K)) : FnOk P w K mg base CX0 k f fd ps (spShare K) := less F fun vs H Q E ⟨a, r, e, ha, h0, q⟩ => ⟨fun _ => False, .ref a, dR r, e, dz_dR ha, by
  rw [shD_dR, decide_eq_true (Rat.num_nonneg.mpr h0)]
  exact q⟩
end
/-! ### what a case tells -/
def spCWorlds (K : PySem.W.Frag) (C : Addr) : Sp := fun vs H Q _ => ∃ (x : Addr) (qs : List Rat) (hss tss : List (List Rat)) (n : Nat), vs = [.ref x] ∧ IsCase K H C x qs hss tss n ∧ Q (.int (qs.length : Int)) H
def spCDeeds (K : PySem.W.Frag) (C : Addr) : Sp := fun vs H Q _ => ∃ (x : Addr) (qs : List Rat) (hss tss : List (List Rat)) (n ww dd : Nat), vs = [.ref x] ∧ IsCase K H C x qs hss tss n ∧ GoodC qs hss tss ww dd ∧ Q (.int (dd : Int)) H
def spCShares (K : PySem.W.Frag) (C : Addr) : Sp := fun vs H Q _ => ∃ (x : Addr) (qs : List Rat) (hss tss : List (List Rat)) (n : Nat), vs = [.ref x] ∧ IsCase K H C x qs hss tss n ∧ ∀ p cs, H p = none → FrN K H n cs qs → Q (.ref p) (upd H p (.lst cs))
def spCHearer (K : PySem.W.Frag) (C : Addr) : Sp := fun vs H Q _ => ∃ (x : Addr) (qs : List Rat) (hss tss : List (List Rat)) (n : Nat), vs = [.ref x] ∧ IsCase K H C x qs hss tss n ∧ hss.length ≤ 100 ∧ ∀ D rs H', Fresh K H H' D rs hss n → Q (.ref D) H'
def spCTeller (K : PySem.W.Frag) (C : Addr) : Sp := fun vs H Q _ => ∃ (x : Addr) (qs : List Rat) (hss tss : List (List Rat)) (n : Nat), vs = [.ref x] ∧ IsCase K H C x qs hss tss n ∧ tss.length ≤ 100 ∧ ∀ D rs H', Fresh K H H' D rs tss n → Q (.ref D) H'
structure CaM (K : PySem.W.Frag) (C fW fD fS fH fT : Addr) : Prop where
  mW : Meth K C "worlds" fW
  mD : Meth K C "deeds" fD
  mS : Meth K C "shares" fS
  mH : Meth K C "hearer" fH
  mT : Meth K C "teller" fT
/-! ### deeds -/
/-- the best deeds -/
def bestL (hss : List (List Rat)) (ws : List Rat) (dd : Nat) : List Nat := (List.range dd).filter fun d => decide (∀ e, e < dd → wq hss ws e ≤ wq hss ws d)
/-- a case and weights for it -/
structure Wts (K : PySem.W.Frag) (H : Hp) (C x b : Addr) (qs : List Rat) (hss tss : List (List Rat)) (ws : List Rat) (n m ww dd : Nat) : Prop where
  c : IsCase K H C x qs hss tss n
  g : GoodC qs hss tss ww dd
  b : ∃ cs, H b = some (.lst cs) ∧ FrN K H m cs ws
  l : ws.length = ww
  hn : n ≤ 280
  hm : m ≤ 280
theorem Wts.same {K : PySem.W.Frag} {H H' : Hp} {C x b : Addr} {qs : List Rat} {hss tss : List (List Rat)} {ws : List Rat} {n m ww dd : Nat} (h : Wts K H C x b qs hss tss ws n m ww dd) (s : Same H H') : Wts K H' C x b qs hss tss ws n m ww dd :=
  let ⟨cs, e1, e2⟩ := h.b
  ⟨h.c.same s, h.g, ⟨cs, s _ _ e1, e2.same s⟩, h.l, h.hn, h.hm⟩
def spChkB (K : PySem.W.Frag) (C : Addr) : Sp := fun vs H Q _ => ∃ (x b : Addr) (qs : List Rat) (hss tss : List (List Rat)) (ws : List Rat) (n m ww dd : Nat), vs = [.ref x, .ref b] ∧ Wts K H C x b qs hss tss ws n m ww dd ∧ RowOk ww ws ∧ ∀ H', Same H H' → Q .non H'
/-- a list of deeds, as values -/
def dsV (l : List Nat) : List V := l.map fun (d : Nat) => V.int (d : Int)
def spBestBy (K : PySem.W.Frag) (C : Addr) : Sp := fun vs H Q _ => ∃ (x b : Addr) (qs : List Rat) (hss tss : List (List Rat)) (ws : List Rat) (n m ww dd : Nat), vs = [.ref x, .ref b] ∧ Wts K H C x b qs hss tss ws n m ww dd ∧ ∀ p H', Same H H' → SqT K H' p (dsV (bestL hss ws dd)) → Q (.ref p) H'
def spBest (K : PySem.W.Frag) (C : Addr) : Sp := fun vs H Q _ => ∃ (x b : Addr) (qs : List Rat) (hss tss : List (List Rat)) (ws : List Rat) (n m ww dd : Nat), vs = [.ref x, .ref b] ∧ Wts K H C x b qs hss tss ws n m ww dd ∧ RowOk ww ws ∧ ∀ p H', Same H H' → SqT K H' p (dsV (bestL hss ws dd)) → Q (.ref p) H'
def spWorths (K : PySem.W.Frag) (C : Addr) : Sp := fun vs H Q _ => ∃ (x b : Addr) (d : Nat) (qs : List Rat) (hss tss : List (List Rat)) (ws : List Rat) (n m ww dd : Nat), vs = [.ref x, .ref b, .int (d : Int)] ∧ Wts K H C x b qs hss tss ws n m ww dd ∧ RowOk ww ws ∧ d < dd ∧
  ∀ p p1 p2 H', Same H H' → SqT K H' p [.ref p1, .ref p2] → SqT K H' p1 (rp (wq hss ws d)) → SqT K H' p2 (rp (wq tss ws d)) → Q (.ref p) H'
/-! ### the greatest of the worths -/
def worthL (hss : List (List Rat)) (ws : List Rat) (dd : Nat) : List Rat := (List.range dd).map (wq hss ws)
theorem worthL_at {hss : List (List Rat)} {ws : List Rat} {dd d : Nat} (h : d < dd) : (worthL hss ws dd)[d]? = some (wq hss ws d) := by
  unfold worthL
  rw [List.getElem?_map, List.getElem?_range h]
  rfl
theorem worthL_len {hss : List (List Rat)} {ws : List Rat} {dd : Nat} : (worthL hss ws dd).length = dd := by
  unfold worthL
  rw [List.length_map, List.length_range]
theorem take_succ_at {α : Type} {l : List α} {i : Nat} {x : α} (h : l[i]? = some x) : l.take (i + 1) = l.take i ++ [x] := by
  rw [List.take_add_one, h]
  rfl
theorem range_take {dd i : Nat} (h : i ≤ dd) : (List.range dd).take i = List.range i := by
  rw [List.take_range, Nat.min_eq_left h]
theorem best_iff {hss : List (List Rat)} {ws : List Rat} {dd d : Nat} {top : Rat} (h1 : top ∈ worthL hss ws dd) (h2 : ∀ x ∈ worthL hss ws dd, x ≤ top) (hd : d < dd) : decide (wq hss ws d = top) = decide (∀ e, e < dd → wq hss ws e ≤ wq hss ws d) := by
  apply decide_eq_decide.mpr
  constructor
  · intro e e' he
    rw [e]
    exact h2 _ (List.mem_of_getElem? (worthL_at he))
  · intro h
    have hle := h2 _ (List.mem_of_getElem? (worthL_at hd))
    obtain ⟨j, hj, e⟩ := List.mem_map.mp h1
    have := h j (List.mem_range.mp hj)
    rw [e] at this
    exact Rat.le_antisymm hle this
theorem best_ne {hss : List (List Rat)} {ws : List Rat} {dd : Nat} {top : Rat} (h1 : top ∈ worthL hss ws dd) (h2 : ∀ x ∈ worthL hss ws dd, x ≤ top) : bestL hss ws dd ≠ [] := by
  intro e
  obtain ⟨j, hj, ej⟩ := List.mem_map.mp h1
  have hj' := List.mem_range.mp hj
  have : j ∈ bestL hss ws dd := by
    unfold bestL
    refine List.mem_filter.mpr ⟨hj, ?_⟩
    rw [← best_iff h1 h2 hj']
    exact decide_eq_true ej
  rw [e] at this
  cases this
end Hr

set_option Elab.async false
set_option linter.all false
set_option maxRecDepth 100000
set_option maxHeartbeats 4000000
namespace Hr
open PySem PySem.Spec PyProof.Rows L2 BX EXB Co Ru
/-- xs + ys, each a list of any standing -/
def rCatS (K : PySem.W.Frag) : R2 := fun x y H Q => ∃ (l b : Addr) (xs zs : List V), x = .ref l ∧ y = .ref b ∧ SqL K H l xs ∧ SqL K H b zs ∧ xs.length + zs.length ≤ sizeLine ∧ ∀ p, H p = none → Q (.ref p) (upd H p (.lst (xs ++ zs)))
theorem op_catS {X : Cx} : OpR X (binaryOp .Add) (rCatS X.K) := by
  rintro pins s σ H x y v u Q I rx ry ⟨l, b, xs, zs, rfl, rfl, hA, hB, hz, q⟩
  cases rx
  cases ry
  obtain ⟨is1, r1, ⟨⟨c1, m1, t1, o1⟩, n1, g1, h1, h1', h1''⟩, _⟩ := I.list hA
  obtain ⟨is2, r2, ⟨⟨c2, m2, t2, o2⟩, n2, g2, h2, h2', h2''⟩, _⟩ := I.list hB
  cases h1
  cases h2
  cases h1''
  cases h2''
  have size : is1.toArray.size + is2.toArray.size ≤ sizeLine := by
    have a1 := r1.length
    have a2 := r2.length
    simp only [List.size_toArray]
    omega
  have go := list_addW l b is1.toArray is2.toArray n1 n2 m1 m2 o1 o2 size
  have k1 : s.TypeIs (.ref l) "list" := ⟨_, g1, rfl⟩
  have k2 : s.TypeIs (.ref b) "list" := ⟨_, g2, rfl⟩
  apply concat_meets k1 k2 noFill_list_add seq_list_add PySem.F.slot_list_add PySem.F.entry_list_add (PySem.F.args_list_add_2 _ _) go
  refine ⟨g1, g2, ?_⟩
  have glue : is1.toArray ++ is2.toArray = (is1 ++ is2).toArray := by simp
  rw [glue]
  have made := I.lnew (t' := s.toks) (r1.append r2) (by rw [List.length_append]; exact hz)
  exact ⟨.ref _, _, made, rfl, q _ I.fresh⟩
end Hr

set_option Elab.async false
set_option linter.all false
set_option maxRecDepth 100000
set_option maxHeartbeats 4000000
namespace Hr
open PySem PySem.Spec PyProof.Rows L2 BX EXB Co Ru
open Dz Cs
open Fr (Bd)
theorem few_dR {n : Nat} {K : PySem.W.Frag} {H : Hp} {cs : List V} {qs : List Rat} (h : FrN K H n cs qs) : Few n (qs.map dR) := fun d hd q e => by
  obtain ⟨r, hr, rfl⟩ := List.mem_map.mp hd
  rw [ratD_dR] at e
  cases e
  obtain ⟨i, hi, e⟩ := List.getElem_of_mem hr
  obtain ⟨a, q', e1, _, _, e4⟩ := h.at_ i (cs[i]'(by rw [h.len]; exact hi)) (List.getElem?_eq_getElem _)
  rw [List.getElem?_eq_getElem hi] at e1
  rw [← e, Option.some.inj e1]
  exact e4
theorem few_rows {n : Nat} {K : PySem.W.Frag} {H : Hp} {rs : List Addr} {rss : List (List Rat)} (h : RowsAt K H n rs rss) : ∀ d ∈ rss.map (fun qs => PyData.list (qs.map dR)), Few n (itemsD d) := fun d hd => by
  obtain ⟨qs, hq, rfl⟩ := List.mem_map.mp hd
  obtain ⟨i, hi, e⟩ := List.getElem_of_mem hq
  have hir : i < rs.length := by rw [h.1]; exact hi
  obtain ⟨cs, qs', e1, _, e3⟩ := h.2 i _ (List.getElem?_eq_getElem hir)
  rw [List.getElem?_eq_getElem hi, e] at e1
  cases (Option.some.inj e1)
  exact few_dR e3
theorem few_mono {n m : Nat} {ds : List PyData} (h : Few n ds) (l : n ≤ m) : Few m ds := fun d hd q e => (h d hd q e).mono l
theorem dRows_inj : ∀ {r1 r2 : List (List Rat)}, dRows r1 = dRows r2 → r1 = r2 := by
  have dRi : ∀ {a b : Rat}, dR a = dR b → a = b := fun {a b} e => by
    have h1 := ratD_dR a
    rw [e, ratD_dR] at h1
    exact (Option.some.inj h1).symm
  intro r1 r2 e
  have e' : (r1.map fun qs => PyData.list (qs.map dR)) = r2.map fun qs => PyData.list (qs.map dR) := by injection e
  refine (List.map_inj_right (fun x y h => ?_)).mp e'
  have h' : x.map dR = y.map dR := by injection h
  exact (List.map_inj_right (fun a b h => dRi h)).mp h'
theorem dS_inj {a b : List Rat} (e : dS a = dS b) : a = b := by
  have h' : a.map dR = b.map dR := by injection e
  refine (List.map_inj_right (fun x y h => ?_)).mp h'
  have h1 := ratD_dR x
  rw [h, ratD_dR] at h1
  exact (Option.some.inj h1).symm
/-- Case(..) of good parts -/
theorem mk_caseN {K : PySem.W.Frag} {n : Nat} (hn : n ≤ 1000) {C CN A B' C' : Addr} {H : Hp} {cs : List V} {rh rt : List Addr} {qs : List Rat} {hss tss : List (List Rat)} {ww dd : Nat} {Q : Addr → Hp → Prop} (e2 : H A = some (.lst cs)) (e3 : FrN K H n cs qs) (e4 : RwL K H B' rh hss n) (e5 : RwL K H C' rt tss n) (g : GoodC qs hss tss ww dd) (q : ∀ x H', Same H H' → H x = none → IsCase K H' C x qs hss tss n → Q x H') :
    ∀ x dx, H x = none → H dx = none → dx ≠ x → spCInit K C CN [.ref x, .ref A, .ref B', .ref C'] (upd (upd H dx (.own x)) x (.ins C dx [])) (fun v H2 => v = .non ∧ Q x H2) E0 := by
  intro x dx hx hdx hne
  have s1 := same_new hdx (.own x)
  have hx1 : (upd H dx (.own x)) x = none := by rw [upd_ne (Ne.symm hne)]; exact hx
  have s2 := s1.trans (same_new hx1 (.ins C dx []))
  refine ⟨fun _ => False, n, x, dx, .ref A, .ref B', .ref C', dS qs, dRows hss, dRows tss, rfl, upd_same, .lst (s2 _ _ e2) (fun z => z) ((frn_dz e3).same s2), .lst (s2 _ _ e4.1) (fun z => z) ((rows_dz e4.2 fun _ _ z => z).same s2), .lst (s2 _ _ e5.1) (fun z => z) ((rows_dz e5.2 fun _ _ z => z).same s2), hn, few_dR e3, few_rows e4.2, few_rows e5.2, fun p r er => ?_, fun _ sa ha ta cs' rh' rt' qs' hss' tss' H' kp hx' g1 g2 g3 g4 i1 i2 i3 => ⟨rfl, ?_⟩⟩
  · rw [badC_good g] at er
    cases er
  · have j1 := dS_inj i1
    have j2 := dRows_inj i2
    have j3 := dRows_inj i3
    subst j1 j2 j3
    exact q x H' (fun b ob e => kp b ob (ne_of_none e hx) (s2 _ _ e)) hx ⟨dx, sa, ha, ta, cs', rh', rt', hx', g1, g2, g3, g4⟩
/-! ### the laws' own helpers -/
def spLSum (K : PySem.W.Frag) : Sp := fun vs H Q _ => ∃ (l : Addr) (cs : List V) (qs : List Rat) (n : Nat), vs = [.ref l] ∧ SqL K H l cs ∧ FrN K H n cs qs ∧ (n + 1) * qs.length + 1 ≤ 8700 ∧ ∀ r H', Same H H' → SqT K H' r (rp qs.sum) → Q (.ref r) H'
/-- new shares, of the digits at l -/
def Shd (K : PySem.W.Frag) (H : Hp) (l : Addr) (m : Nat) (Q : VK) : Prop := ∀ D cs qs z' H', SameB l H H' → H' l = some (.lst [.int z']) → H D = none → D ≠ l → H' D = some (.lst cs) → FrN K H' 8 cs qs → RowOk m qs → Q (.ref D) H'
def spParted (K : PySem.W.Frag) : Sp := fun vs H Q _ => ∃ (l : Addr) (z : Int) (m : Nat) (top : Int), vs = [.ref l, .int (m : Int), .int top] ∧ H l = some (.lst [.int z]) ∧ 1 ≤ m ∧ m ≤ 30 ∧ 1 ≤ top ∧ top ≤ 4 ∧ Shd K H l m Q
def spAllIn (K : PySem.W.Frag) : Sp := fun vs H Q _ => ∃ (l : Addr) (z : Int) (m : Nat), vs = [.ref l, .int (m : Int)] ∧ H l = some (.lst [.int z]) ∧ 1 ≤ m ∧ m ≤ 30 ∧ Shd K H l m Q
def spGain (K : PySem.W.Frag) : Sp := fun vs H Q _ => ∃ (l : Addr) (z : Int), vs = [.ref l] ∧ H l = some (.lst [.int z]) ∧ ∀ p q z' H', SameB l H H' → H' l = some (.lst [.int z']) → SqT K H' p (rp q) → Bd 43 q → Q (.ref p) H'
def spGains (K : PySem.W.Frag) : Sp := fun vs H Q _ => ∃ (l : Addr) (z : Int) (ww dd : Nat), vs = [.ref l, .int (ww : Int), .int (dd : Int)] ∧ H l = some (.lst [.int z]) ∧ ww ≤ 5 ∧ 1 ≤ dd ∧ dd ≤ 6 ∧
  ∀ D rs rss z' H', New K H H' l D rs rss 43 → D ≠ l → H' l = some (.lst [.int z']) → rss.length = ww → (∀ r ∈ rss, r.length = dd) → Q (.ref D) H'
/-- a case's parts, in a tuple -/
def PartsT (K : PySem.W.Frag) (H : Hp) (P : Addr) (qs : List Rat) (hss tss : List (List Rat)) (n : Nat) : Prop := ∃ (A B C : Addr) (cs : List V) (rh rt : List Addr), SqT K H P [.ref A, .ref B, .ref C] ∧ H A = some (.lst cs) ∧ FrN K H n cs qs ∧ RwL K H B rh hss n ∧ RwL K H C rt tss n
theorem PartsT.same {K : PySem.W.Frag} {H H' : Hp} {P : Addr} {qs : List Rat} {hss tss : List (List Rat)} {n : Nat} (h : PartsT K H P qs hss tss n) (s : Same H H') : PartsT K H' P qs hss tss n :=
  let ⟨A, B, C, cs, rh, rt, e1, e2, e3, e4, e5⟩ := h; ⟨A, B, C, cs, rh, rt, seqT s e1, s _ _ e2, e3.same s, e4.same s, e5.same s⟩
theorem frn_ne {K : PySem.W.Frag} {H : Hp} {n : Nat} {a l : Addr} {z : Int} {cs : List V} {qs : List Rat} (h : FrN K H n cs qs) (ha : H a = some (.lst cs)) (hl : H l = some (.lst [.int z])) : a ≠ l := fun e => by
  rw [e, hl] at ha
  cases ha
  exact Lw.frn_num h
theorem PartsT.but {K : PySem.W.Frag} {H H' : Hp} {P l : Addr} {z : Int} {qs : List Rat} {hss tss : List (List Rat)} {n : Nat} (h : PartsT K H P qs hss tss n) (hl : H l = some (.lst [.int z])) (s : SameB l H H') : PartsT K H' P qs hss tss n :=
  let ⟨A, B, C, cs, rh, rt, e1, e2, e3, e4, e5⟩ := h; ⟨A, B, C, cs, rh, rt, s.tup hl _ _ e1, s _ _ (frn_ne e3 e2 hl) e2, e3.keep (s.tup hl), Rs.RwL.keepB e4 hl s, Rs.RwL.keepB e5 hl s⟩
theorem IsCase.but {K : PySem.W.Frag} {H H' : Hp} {C x l : Addr} {z : Int} {qs : List Rat} {hss tss : List (List Rat)} {n : Nat} (h : IsCase K H C x qs hss tss n) (hl : H l = some (.lst [.int z])) (s : SameB l H H') : IsCase K H' C x qs hss tss n :=
  let ⟨dx, sa, ha, ta, cs, rh, rt, e1, e2, e3, e4, e5⟩ := h; ⟨dx, sa, ha, ta, cs, rh, rt, s _ _ (ne_of e1 hl (by intro w; cases w)) e1, s _ _ (frn_ne e3 e2 hl) e2, e3.keep (s.tup hl), Rs.RwL.keepB e4 hl s, Rs.RwL.keepB e5 hl s⟩
def spParts (K : PySem.W.Frag) : Sp := fun vs H Q _ => ∃ (l : Addr) (z : Int) (ww dd : Nat), vs = [.ref l, .int (ww : Int), .int (dd : Int)] ∧ H l = some (.lst [.int z]) ∧ 1 ≤ ww ∧ ww ≤ 5 ∧ 1 ≤ dd ∧ dd ≤ 6 ∧
  ∀ P qs hss tss z' H', SameB l H H' → H' l = some (.lst [.int z']) → PartsT K H' P qs hss tss 43 → GoodC qs hss tss ww dd → Q (.ref P) H'
theorem New.setRow {K : PySem.W.Frag} {H0 H : Hp} {ex D r : Addr} {rs : List Addr} {rss : List (List Rat)} {n i : Nat} {ys cs : List V} {qs : List Rat} (h : New K H0 H ex D rs rss n) (hr : rs[i]? = some r) (hr0 : H r = some (.lst ys)) (hf : FrN K H n cs qs) : New K H0 (upd H r (.lst cs)) ex D rs (rss.set i qs) n := by
  have hm := List.mem_of_getElem? hr
  have sr : SameB r H (upd H r (.lst cs)) := SameB.upd
  refine ⟨by rw [upd_ne (fun e => h.ne (by rw [e]; exact hm))]; exact h.at_, h.nd, h.ne, h.fresh, h.fD, h.nx, fun b o hb e => ?_, by rw [List.length_set]; exact h.rows.1, fun j x ex => ?_⟩
  · rw [upd_ne (ne_of_none e (h.fresh r hm))]
    exact h.keep b o hb e
  · by_cases hij : i = j
    · subst hij
      rw [hr] at ex
      cases ex
      refine ⟨cs, qs, ?_, upd_same, hf.keep (sr.tup hr0)⟩
      have hi : i < rss.length := by
        rw [← h.rows.1]
        exact (List.getElem?_eq_some_iff.mp hr).1
      rw [List.getElem?_set_self hi]
    · obtain ⟨cs', qs', f1, f2, f3⟩ := h.rows.2 j x ex
      have hne : x ≠ r := fun e => by
        subst e
        obtain ⟨a1, a2⟩ := List.getElem?_eq_some_iff.mp hr
        obtain ⟨b1, b2⟩ := List.getElem?_eq_some_iff.mp ex
        have pw := List.pairwise_iff_getElem.mp h.nd
        rcases Nat.lt_or_gt_of_ne hij with z | z
        · exact pw i j a1 b1 z (a2.trans b2.symm)
        · exact pw j i b1 a1 z (b2.trans a2.symm)
      exact ⟨cs', qs', by rw [List.getElem?_set_ne hij]; exact f1, by rw [upd_ne hne]; exact f2, f3.keep (sr.tup hr0)⟩
theorem tabA {w d : Int} (h0 : 0 ≤ d) (h5 : d < 5) : ∃ v : Int, atI [V.int 1, V.int 1, V.int 1, V.int 1, V.int w] d = some (V.int v) ∧ (v = 1 ∨ v = w) := by
  have : d = 0 ∨ d = 1 ∨ d = 2 ∨ d = 3 ∨ d = 4 := by omega
  rcases this with rfl | rfl | rfl | rfl | rfl
  · exact ⟨1, atI_nat (j := 0) rfl, .inl rfl⟩
  · exact ⟨1, atI_nat (j := 1) rfl, .inl rfl⟩
  · exact ⟨1, atI_nat (j := 2) rfl, .inl rfl⟩
  · exact ⟨1, atI_nat (j := 3) rfl, .inl rfl⟩
  · exact ⟨w, atI_nat (j := 4) rfl, .inr rfl⟩
theorem tabB {w d : Int} (h0 : 0 ≤ d) (h5 : d < 6) : ∃ v : Int, atI [V.int 1, V.int 1, V.int 1, V.int 2, V.int 3, V.int w] d = some (V.int v) ∧ (v = 1 ∨ v = 2 ∨ v = 3 ∨ v = w) := by
  have : d = 0 ∨ d = 1 ∨ d = 2 ∨ d = 3 ∨ d = 4 ∨ d = 5 := by omega
  rcases this with rfl | rfl | rfl | rfl | rfl | rfl
  · exact ⟨1, atI_nat (j := 0) rfl, .inl rfl⟩
  · exact ⟨1, atI_nat (j := 1) rfl, .inl rfl⟩
  · exact ⟨1, atI_nat (j := 2) rfl, .inl rfl⟩
  · exact ⟨2, atI_nat (j := 3) rfl, .inr (.inl rfl)⟩
  · exact ⟨3, atI_nat (j := 4) rfl, .inr (.inr (.inl rfl))⟩
  · exact ⟨w, atI_nat (j := 5) rfl, .inr (.inr (.inr rfl))⟩
/-- the law's own best deeds -/
def spLBest (K : PySem.W.Frag) : Sp := fun vs H Q _ => ∃ (a b : Addr) (rs : List Addr) (rss : List (List Rat)) (cs : List V) (ws : List Rat) (n m dd : Nat), vs = [.ref a, .ref b] ∧ RwL K H a rs rss n ∧ SqL K H b cs ∧ FrN K H m cs ws ∧ ws.length = rss.length ∧ 1 ≤ rss.length ∧ rss.length ≤ 5 ∧ (∀ r ∈ rss, r.length = dd) ∧ 1 ≤ dd ∧ dd ≤ 6 ∧ n ≤ 280 ∧ m ≤ 280 ∧
  ∀ p H', Same H H' → H' p = some (.lst (dsV (bestL rss ws dd))) → H p = none → Q (.ref p) H'
theorem any_map {α : Type} (p : α → Bool) (l : List α) : (l.map p).any id = l.any p := by
  induction l with
  | nil => rfl
  | cons x l ih => rw [List.map_cons, List.any_cons, List.any_cons, ih]; rfl
theorem best_any {hss : List (List Rat)} {ws : List Rat} {dd d : Nat} : (!(worthL hss ws dd).any fun x => decide (wq hss ws d < x)) = decide (∀ e, e < dd → wq hss ws e ≤ wq hss ws d) := by
  by_cases h : ∀ e, e < dd → wq hss ws e ≤ wq hss ws d
  · rw [decide_eq_true h, Bool.not_eq_true']
    rw [List.any_eq_false]
    intro x hx
    obtain ⟨e, he, rfl⟩ := List.mem_map.mp hx
    rw [decide_eq_true_eq]
    exact Rat.not_lt.mpr (h e (List.mem_range.mp he))
  · rw [decide_eq_false h]
    have : ∃ e, e < dd ∧ ¬ wq hss ws e ≤ wq hss ws d := by
      apply Classical.byContradiction
      intro z
      exact h fun e he => Classical.byContradiction fun y => z ⟨e, he, y⟩
    obtain ⟨e, he, hn⟩ := this
    have ha : (worthL hss ws dd).any (fun x => decide (wq hss ws d < x)) = true := List.any_eq_true.mpr ⟨wq hss ws e, List.mem_of_getElem? (worthL_at he), decide_eq_true (Rat.not_le.mp hn)⟩
    rw [ha]
    rfl
def spLBel (K : PySem.W.Frag) : Sp := fun vs H Q _ => ∃ (l P : Addr) (z : Int) (qs : List Rat) (hss tss : List (List Rat)) (n m : Nat), vs = [.ref l, .ref P] ∧ H l = some (.lst [.int z]) ∧ PartsT K H P qs hss tss n ∧ qs.length = m ∧ 1 ≤ m ∧ m ≤ 5 ∧ Shd K H l m Q
def spRight (K : PySem.W.Frag) (C : Addr) : Sp := fun vs H Q _ => ∃ (P x b : Addr) (qs : List Rat) (hss tss : List (List Rat)) (ws : List Rat) (cs : List V) (n m ww dd : Nat), vs = [.ref P, .ref x, .ref b] ∧ PartsT K H P qs hss tss n ∧ IsCase K H C x qs hss tss n ∧ GoodC qs hss tss ww dd ∧ H b = some (.lst cs) ∧ FrN K H m cs ws ∧ RowOk ww ws ∧ n ≤ 280 ∧ m ≤ 280 ∧ ∀ H', Same H H' → Q (.bl true) H'
/-! ### data -/
theorem ds_dp {K : PySem.W.Frag} {H : Hp} : ∀ l : List Nat, DpAll K H (dsV l) (l.map fun (d : Nat) => PyData.int (d : Int))
  | [] => .nil
  | d :: l => .cons (.int _) (ds_dp l)
theorem ds_lay : ∀ l : List Nat, PyData.canLayAll0 (l.map fun (d : Nat) => PyData.int (d : Int)) = true
  | [] => rfl
  | d :: l => ds_lay l
theorem ds_dep : ∀ l : List Nat, PyData.depthAll (l.map fun (d : Nat) => PyData.int (d : Int)) = 0
  | [] => rfl
  | d :: l => by
    show max 0 (PyData.depthAll (l.map fun (d : Nat) => PyData.int (d : Int))) = 0
    rw [ds_dep l]
    rfl
abbrev dDs (l : List Nat) : PyData := .tuple (l.map fun (d : Nat) => PyData.int (d : Int))
theorem dDs_lay (l : List Nat) : (dDs l).canLay0 = true := ds_lay l
theorem dDs_sh (l : List Nat) : SeqAt.shaped (dDs l) = true := by
  unfold SeqAt.shaped
  rw [dDs_lay, Bool.true_and]
  refine decide_eq_true ?_
  show PyData.depthAll (l.map fun (d : Nat) => PyData.int (d : Int)) + 1 ≤ 64
  rw [ds_dep]
  decide
abbrev d2R (a b : Rat) : PyData := .tuple [dR a, dR b]
theorem d2_lay (a b : Rat) : (d2R a b).canLay0 = true := rfl
theorem d2_sh (a b : Rat) : SeqAt.shaped (d2R a b) = true := rfl
theorem d2_dp {K : PySem.W.Frag} {H : Hp} {p p1 p2 : Addr} {a b : Rat} (h : SqT K H p [.ref p1, .ref p2]) (h1 : SqT K H p1 (rp a)) (h2 : SqT K H p2 (rp b)) : Dp K H (.ref p) (d2R a b) := .tup h (.cons (dp_r h1) (.cons (dp_r h2) .nil))
theorem not_bool {K : PySem.W.Frag} {H : Hp} {i : Int} : TyX K H (.int i) (.type "int") := .base (.int _)
theorem cut_int {ns : List Int} {c : Int} {lo hi : Option Int} {i : Nat} {x : V} (h : (cutV (ns.map V.int ++ [V.int c]) lo hi)[i]? = some x) : ∃ c, x = .int c := by
  have := cut_mem (List.mem_of_getElem? h)
  rcases List.mem_append.mp this with h | h
  · obtain ⟨y, _, rfl⟩ := List.mem_map.mp h
    exact ⟨y, rfl⟩
  · exact ⟨c, List.mem_singleton.mp h⟩
end Hr

set_option Elab.async false
set_option linter.all false
set_option maxRecDepth 100000
set_option maxHeartbeats 4000000
namespace Hr
open PySem PySem.Spec PyProof.Rows L2 BX EXB Co Ru
open Dz Cs
open Fr (Bd)
/-- the first of l whose key is the greatest -/
def IsDone (key : Nat → Rat) (l : List Nat) (d : Nat) : Prop := ∃ j : Nat, l[j]? = some d ∧ (∀ e ∈ l, key e ≤ key d) ∧ ∀ (i e : Nat), i < j → l[i]? = some e → key e < key d
theorem IsDone.mem {key : Nat → Rat} {l : List Nat} {d : Nat} (h : IsDone key l d) : d ∈ l := let ⟨_, e, _⟩ := h; List.mem_of_getElem? e
theorem IsDone.uniq {key : Nat → Rat} {l : List Nat} {d e : Nat} (h1 : IsDone key l d) (h2 : IsDone key l e) : d = e := by
  obtain ⟨i, a1, a2, a3⟩ := h1
  obtain ⟨j, b1, b2, b3⟩ := h2
  rcases Nat.lt_trichotomy i j with h | h | h
  · exact absurd (b3 i d h a1) (Rat.not_lt.mpr (a2 e (List.mem_of_getElem? b1)))
  · subst h
    rw [a1] at b1
    exact Option.some.inj b1
  · exact absurd (a3 j e h b1) (Rat.not_lt.mpr (b2 d (List.mem_of_getElem? a1)))
theorem IsDone.one (key : Nat → Rat) (d : Nat) : IsDone key [d] d := ⟨0, rfl, fun e he => by rw [List.mem_singleton.mp he]; exact Rat.le_refl, fun i e hi => absurd hi (Nat.not_lt_zero _)⟩
theorem IsDone.more {key : Nat → Rat} {l : List Nat} {d e : Nat} (h : IsDone key l d) (hlt : key d < key e) : IsDone key (l ++ [e]) e := by
  obtain ⟨j, a1, a2, a3⟩ := h
  refine ⟨l.length, by rw [List.getElem?_append_right (Nat.le_refl _), Nat.sub_self]; rfl, fun x hx => ?_, fun i x hi hx => ?_⟩
  · rcases List.mem_append.mp hx with hx | hx
    · exact Rat.le_trans (a2 x hx) (Rat.le_of_lt hlt)
    · rw [List.mem_singleton.mp hx]
      exact Rat.le_refl
  · rw [List.getElem?_append_left hi] at hx
    exact Std.lt_of_le_of_lt (a2 x (List.mem_of_getElem? hx)) hlt
theorem IsDone.stay {key : Nat → Rat} {l : List Nat} {d e : Nat} (h : IsDone key l d) (hn : ¬ key d < key e) : IsDone key (l ++ [e]) d := by
  obtain ⟨j, a1, a2, a3⟩ := h
  have hj : j < l.length := (List.getElem?_eq_some_iff.mp a1).1
  refine ⟨j, by rw [List.getElem?_append_left hj]; exact a1, fun x hx => ?_, fun i x hi hx => ?_⟩
  · rcases List.mem_append.mp hx with hx | hx
    · exact a2 x hx
    · rw [List.mem_singleton.mp hx]
      exact Rat.not_lt.mp hn
  · rw [List.getElem?_append_left (by omega)] at hx
    exact a3 i x hi hx
theorem first_at {α : Type} [DecidableEq α] : ∀ {l : List α} {x : α}, x ∈ l → ∃ j : Nat, l[j]? = some x ∧ ∀ (m : Nat) (y : α), m < j → l[m]? = some y → y ≠ x
  | [], x, h => by cases h
  | y :: l, x, h => by
    by_cases e : y = x
    · exact ⟨0, by rw [e]; rfl, fun m z hm => absurd hm (Nat.not_lt_zero _)⟩
    · have : x ∈ l := by
        rcases List.mem_cons.mp h with h | h
        · exact absurd h.symm e
        · exact h
      obtain ⟨j, a, b⟩ := first_at this
      refine ⟨j + 1, a, fun m z hm hz => ?_⟩
      cases m with
      | zero => cases (Option.some.inj hz); exact e
      | succ m => exact b m z (by omega) hz
def keyT (tss : List (List Rat)) (ws : List Rat) (hard : Bool) (d : Nat) : Rat := if hard = true then 0 - wq tss ws d else wq tss ws d
theorem keyT_f {tss : List (List Rat)} {ws : List Rat} : keyT tss ws false = wq tss ws := rfl
theorem neg_lt' {a b : Rat} : (0 - a < 0 - b) ↔ b < a := by
  constructor
  · intro h
    have := (Rat.add_lt_add_left (c := a + b)).mpr h
    have e1 : a + b + (0 - a) = b := by rw [Rat.sub_eq_add_neg, Rat.zero_add, Rat.add_comm a b, Rat.add_assoc, Rat.add_neg_cancel, Rat.add_zero]
    have e2 : a + b + (0 - b) = a := by rw [Rat.sub_eq_add_neg, Rat.zero_add, Rat.add_assoc, Rat.add_neg_cancel, Rat.add_zero]
    rw [e1, e2] at this
    exact this
  · intro h
    have := (Rat.add_lt_add_left (c := (0 - a) + (0 - b))).mpr h
    have e1 : (0 - a) + (0 - b) + b = 0 - a := by rw [Rat.add_assoc, Rat.sub_eq_add_neg 0 b, Rat.zero_add, Rat.neg_add_cancel, Rat.add_zero]
    have e2 : (0 - a) + (0 - b) + a = 0 - b := by rw [Rat.add_comm (0 - a), Rat.add_assoc, Rat.sub_eq_add_neg 0 a, Rat.zero_add, Rat.neg_add_cancel, Rat.add_zero]
    rw [e1, e2] at this
    exact this
/-- the deed done, by weights -/
def spDoneBy (K : PySem.W.Frag) (C : Addr) : Sp := fun vs H Q _ => ∃ (x b : Addr) (hard : Bool) (qs : List Rat) (hss tss : List (List Rat)) (ws : List Rat) (n m ww dd : Nat), vs = [.ref x, .ref b, .bl hard] ∧ Wts K H C x b qs hss tss ws n m ww dd ∧ ∀ (d : Nat) H', Same H H' → IsDone (keyT tss ws hard) (bestL hss ws dd) d → Q (.int (d : Int)) H'
def spDeedBy (K : PySem.W.Frag) (C : Addr) : Sp := fun vs H Q _ => ∃ (x b : Addr) (hard : Bool) (qs : List Rat) (hss tss : List (List Rat)) (ws : List Rat) (n m ww dd : Nat), vs = [.ref x, .ref b, .bl hard] ∧ Wts K H C x b qs hss tss ws n m ww dd ∧ RowOk ww ws ∧ ∀ (d : Nat) H', Same H H' → IsDone (keyT tss ws hard) (bestL hss ws dd) d → Q (.int (d : Int)) H'
theorem done_lt {key : Nat → Rat} {hss : List (List Rat)} {ws : List Rat} {dd d : Nat} (h : IsDone key (bestL hss ws dd) d) : d < dd := by
  have := h.mem
  unfold bestL at this
  exact List.mem_range.mp (List.mem_filter.mp this).1
theorem best_ne' {hss : List (List Rat)} {ws : List Rat} {dd : Nat} (h : 1 ≤ dd) : bestL hss ws dd ≠ [] := by
  have hne : worthL hss ws dd ≠ [] := fun e => by
    have := congrArg List.length e
    rw [worthL_len] at this
    simp at this
    omega
  have : ∀ l : List Rat, l ≠ [] → ∃ x ∈ l, ∀ y ∈ l, y ≤ x := by
    intro l
    induction l with
    | nil => intro h; exact absurd rfl h
    | cons x l ih =>
      intro _
      by_cases hl : l = []
      · subst hl
        exact ⟨x, List.mem_cons_self .., fun y hy => by rw [List.mem_singleton.mp hy]; exact Rat.le_refl⟩
      · obtain ⟨z, hz, hm⟩ := ih hl
        by_cases hxz : x ≤ z
        · refine ⟨z, List.mem_cons_of_mem _ hz, fun y hy => ?_⟩
          rcases List.mem_cons.mp hy with rfl | hy
          · exact hxz
          · exact hm y hy
        · refine ⟨x, List.mem_cons_self .., fun y hy => ?_⟩
          rcases List.mem_cons.mp hy with rfl | hy
          · exact Rat.le_refl
          · exact Rat.le_trans (hm y hy) (Rat.le_of_lt (Rat.not_le.mp hxz))
  obtain ⟨top, h1, h2⟩ := this _ hne
  exact best_ne h1 h2
/-- the index of the greatest key is the deed done -/
theorem done_of {key : Nat → Rat} {l : List Nat} {j : Nat} {top : Rat} (h1 : (l.map key)[j]? = some top) (h2 : ∀ x ∈ l.map key, x ≤ top) (h3 : ∀ m y, m < j → (l.map key)[m]? = some y → y ≠ top) : ∃ d, l[j]? = some d ∧ IsDone key l d := by
  rw [List.getElem?_map] at h1
  cases e : l[j]? with
  | none => rw [e] at h1; cases h1
  | some d =>
    rw [e] at h1
    have ed : key d = top := Option.some.inj h1
    refine ⟨d, rfl, j, e, fun x hx => ?_, fun i x hi hx => ?_⟩
    · rw [ed]
      exact h2 _ (List.mem_map_of_mem hx)
    · have hm := h2 _ (List.mem_map_of_mem (f := key) (List.mem_of_getElem? hx))
      have hn := h3 i (key x) hi (by rw [List.getElem?_map, hx]; rfl)
      rw [ed]
      exact Rat.not_le.mp fun z => hn (Rat.le_antisymm hm z)
/-- the law's own -/
def spLDone (K : PySem.W.Frag) : Sp := fun vs H Q _ => ∃ (P b : Addr) (hard : Bool) (qs : List Rat) (hss tss : List (List Rat)) (cs : List V) (ws : List Rat) (n m ww dd : Nat), vs = [.ref P, .ref b, .bl hard] ∧ PartsT K H P qs hss tss n ∧ GoodC qs hss tss ww dd ∧ SqL K H b cs ∧ FrN K H m cs ws ∧ ws.length = ww ∧ n ≤ 280 ∧ m ≤ 280 ∧ ∀ (d : Nat) H', Same H H' → IsDone (keyT tss ws hard) (bestL hss ws dd) d → Q (.int (d : Int)) H'
end Hr

set_option Elab.async false
set_option linter.all false
set_option maxRecDepth 100000
set_option maxHeartbeats 4000000
namespace Hr
open PySem PySem.Spec PyProof.Rows L2 BX EXB Co Ru
open Dz Cs
open Fr (Bd)
/-! ### rules -/
structure RuT (K : PySem.W.Frag) (mg : Str → Option Value) (C fI fR fW fL fE : Addr) : Prop where
  cl : Cls K C
  gC : mg "Rule" = some (.ref C)
  nO : NoAttr K C "own_rows"
  mkC : Mk K C fI
  mR : Meth K C "rows" fR
  mW : Meth K C "worlds" fW
  lL : PySem.W.findIn K (.ref C) "__len__" = some (some (.ref fL))
  fnL : PySem.W.isFn K (.ref fL) = true
  g5 : ∃ t, mg "MOST_WORLDS" = some (.int 5 t)
  g30 : ∃ t, mg "MOST_WORDS" = some (.int 30 t)
def spInit (K : PySem.W.Frag) (C : Addr) : Sp := fun vs H Q _ => ∃ (x a dx : Addr) (rs : List Addr) (rss : List (List Rat)) (n m : Nat), vs = [.ref x, .ref a] ∧ H x = some (.ins C dx []) ∧ RwL K H a rs rss n ∧ Good rss m ∧ n ≤ 280 ∧
  ∀ ra rs' H', (∀ b o, b ≠ x → H b = some o → H' b = some o) → H' x = some (.ins C dx [("own_rows", .ref ra)]) → RwL K H' ra rs' rss n → Q .non H'
def spRRows (K : PySem.W.Frag) (C : Addr) : Sp := fun vs H Q _ => ∃ (x : Addr) (rss : List (List Rat)) (n : Nat), vs = [.ref x] ∧ IsRule K H C x rss n ∧ rss.length ≤ 100 ∧ ∀ D rs' H', Fresh K H H' D rs' rss n → Q (.ref D) H'
def spRWorlds (K : PySem.W.Frag) (C : Addr) : Sp := fun vs H Q _ => ∃ (x : Addr) (rss : List (List Rat)) (n : Nat), vs = [.ref x] ∧ IsRule K H C x rss n ∧ Q (.int (rss.length : Int)) H
def spRLen (K : PySem.W.Frag) (C : Addr) : Sp := fun vs H Q _ => ∃ (x : Addr) (rss : List (List Rat)) (n m : Nat), vs = [.ref x] ∧ IsRule K H C x rss n ∧ Good rss m ∧ Q (.int (m : Int)) H
/-- a case and a rule for it -/
structure Ga (K : PySem.W.Frag) (H : Hp) (C CR x y : Addr) (qs : List Rat) (hss tss rss : List (List Rat)) (n m ww dd mm : Nat) : Prop where
  c : IsCase K H C x qs hss tss n
  g : GoodC qs hss tss ww dd
  r : IsRule K H CR y rss m
  go : Good rss mm
  wl : rss.length = ww
  hn : n ≤ 140
  hm : m ≤ 140
theorem Ga.same {K : PySem.W.Frag} {H H' : Hp} {C CR x y : Addr} {qs : List Rat} {hss tss rss : List (List Rat)} {n m ww dd mm : Nat} (h : Ga K H C CR x y qs hss tss rss n m ww dd mm) (s : Same H H') : Ga K H' C CR x y qs hss tss rss n m ww dd mm := ⟨h.c.same s, h.g, h.r.same s, h.go, h.wl, h.hn, h.hm⟩
def spChkA (K : PySem.W.Frag) (C CR : Addr) : Sp := fun vs H Q _ => ∃ (x y : Addr) (qs : List Rat) (hss tss rss : List (List Rat)) (n m ww dd mm : Nat), vs = [.ref x, .ref y] ∧ Ga K H C CR x y qs hss tss rss n m ww dd mm ∧ Q .non H
def spMasses (K : PySem.W.Frag) (C CR : Addr) : Sp := fun vs H Q _ => ∃ (x y : Addr) (i : Nat) (qs : List Rat) (hss tss rss : List (List Rat)) (n m ww dd mm : Nat), vs = [.ref x, .ref y, .int (i : Int)] ∧ Ga K H C CR x y qs hss tss rss n m ww dd mm ∧ i < mm ∧
  ∀ p cs H', Same H H' → H p = none → H' p = some (.lst cs) → FrN K H' (n + m) cs (prods rss qs i) → Q (.ref p) H'
theorem prods_bd {K : PySem.W.Frag} {H : Hp} {C CR x y : Addr} {qs : List Rat} {hss tss rss : List (List Rat)} {n m ww dd mm i : Nat} (h : Ga K H C CR x y qs hss tss rss n m ww dd mm) : (prods rss qs i).length = ww := by rw [prods_len (by rw [h.g.sh.1, h.wl]), h.g.sh.1]
/-! ### the deed done, as a function -/
def dstep (key : Nat → Rat) : Option Nat → Nat → Option Nat
  | none, e => some e
  | some d, e => if key d < key e then some e else some d
def doneF (key : Nat → Rat) (l : List Nat) : Option Nat := l.foldl (dstep key) none
theorem doneF_snoc (key : Nat → Rat) (l : List Nat) (e : Nat) : doneF key (l ++ [e]) = dstep key (doneF key l) e := by
  unfold doneF
  rw [List.foldl_append]
  rfl
theorem doneF_ok {key : Nat → Rat} : ∀ (k : Nat) (l : List Nat), l.length = k → l ≠ [] → ∃ d, doneF key l = some d ∧ IsDone key l d
  | 0, l, h, hne => absurd (List.eq_nil_of_length_eq_zero h) hne
  | k + 1, l, h, hne => by
    obtain ⟨l', e, rfl⟩ : ∃ l' e, l = l' ++ [e] := ⟨l.dropLast, l.getLast hne, (List.dropLast_concat_getLast hne).symm⟩
    rw [List.length_append, List.length_singleton] at h
    by_cases hl : l' = []
    · subst hl
      exact ⟨e, rfl, IsDone.one key e⟩
    · obtain ⟨d, h1, h2⟩ := doneF_ok k l' (by omega) hl
      rw [doneF_snoc, h1]
      by_cases hlt : key d < key e
      · exact ⟨e, if_pos hlt, h2.more hlt⟩
      · exact ⟨d, if_neg hlt, h2.stay hlt⟩
theorem IsDone.F {key : Nat → Rat} {l : List Nat} {d : Nat} (h : IsDone key l d) : doneF key l = some d := by
  have hne : l ≠ [] := fun e => by
    have := h.mem
    rw [e] at this
    cases this
  obtain ⟨e, h1, h2⟩ := doneF_ok (key := key) l.length l rfl hne
  rw [h1, h2.uniq h]
theorem doneF_congr {k1 k2 : Nat → Rat} (h : ∀ a b, k1 a < k1 b ↔ k2 a < k2 b) (l : List Nat) : doneF k1 l = doneF k2 l := by
  have hs : dstep k1 = dstep k2 := by
    funext o e
    cases o with
    | none => rfl
    | some d =>
      show (if k1 d < k1 e then some e else some d) = if k2 d < k2 e then some e else some d
      by_cases c : k1 d < k1 e
      · rw [if_pos c, if_pos ((h d e).mp c)]
      · rw [if_neg c, if_neg (fun z => c ((h d e).mpr z))]
  unfold doneF
  rw [hs]
/-! ### weights times a number -/
theorem prods_scale (rss : List (List Rat)) (c : Rat) (d : Nat) : ∀ ws : List Rat, prods rss (ws.map fun w => w / c) d = (prods rss ws d).map fun o => c⁻¹ * o := by
  unfold prods
  induction rss with
  | nil => intro ws; rw [List.zipWith_nil_right, List.zipWith_nil_right, List.map_nil]
  | cons r rss ih =>
    intro ws
    cases ws with
    | nil => rfl
    | cons w ws =>
      rw [List.map_cons, List.zipWith_cons_cons, List.zipWith_cons_cons, List.map_cons, ih ws]
      congr 1
      rw [Rat.div_def, Rat.mul_comm w, Rat.mul_assoc]
theorem wq_scale (rss : List (List Rat)) (c : Rat) (d : Nat) (ws : List Rat) : wq rss (ws.map fun w => w / c) d = c⁻¹ * wq rss ws d := by
  unfold wq
  rw [prods_scale, sum_map_mul]
theorem scale_lt {c a b : Rat} (hc : 0 < c) : c⁻¹ * a < c⁻¹ * b ↔ a < b := Rat.mul_lt_mul_left (Rat.inv_pos.mpr hc)
theorem scale_le {c a b : Rat} (hc : 0 < c) : c⁻¹ * a ≤ c⁻¹ * b ↔ a ≤ b := by
  rw [← Rat.not_lt, ← Rat.not_lt, scale_lt hc]
theorem best_scale {hss : List (List Rat)} {c : Rat} {ws : List Rat} {dd : Nat} (hc : 0 < c) : bestL hss (ws.map fun w => w / c) dd = bestL hss ws dd := by
  unfold bestL
  congr 1
  funext d
  apply decide_eq_decide.mpr
  constructor
  · intro h e he
    have := h e he
    rw [wq_scale, wq_scale, scale_le hc] at this
    exact this
  · intro h e he
    rw [wq_scale, wq_scale, scale_le hc]
    exact h e he
theorem key_scale {tss : List (List Rat)} {c : Rat} {ws : List Rat} {hard : Bool} (hc : 0 < c) (a b : Nat) : keyT tss (ws.map fun w => w / c) hard a < keyT tss (ws.map fun w => w / c) hard b ↔ keyT tss ws hard a < keyT tss ws hard b := by
  unfold keyT
  cases hard with
  | true =>
    show 0 - _ < 0 - _ ↔ 0 - _ < 0 - _
    rw [neg_lt', neg_lt', wq_scale, wq_scale, scale_lt hc]
  | false =>
    show wq _ _ _ < wq _ _ _ ↔ _
    rw [wq_scale, wq_scale, scale_lt hc]
    exact Iff.rfl
theorem done_scale {hss tss : List (List Rat)} {c : Rat} {ws : List Rat} {dd : Nat} {hard : Bool} (hc : 0 < c) : doneF (keyT tss (ws.map fun w => w / c) hard) (bestL hss (ws.map fun w => w / c) dd) = doneF (keyT tss ws hard) (bestL hss ws dd) := by
  rw [best_scale hc]
  exact doneF_congr (key_scale hc) _
/-- the deed done behind a word -/
def wordD (qs : List Rat) (hss tss rss : List (List Rat)) (dd : Nat) (hard : Bool) (i : Nat) : Option Nat := if wq rss qs i = 0 then none else doneF (keyT tss (prods rss qs i) hard) (bestL hss (prods rss qs i) dd)
def optN : Option Nat → V
  | none => .non
  | some d => .int (d : Int)
def optD : Option Nat → PyData
  | none => .none
  | some d => .int (d : Int)
theorem opt_dp {K : PySem.W.Frag} {H : Hp} : ∀ o : Option Nat, Dp K H (optN o) (optD o)
  | none => .non
  | some _ => .int _
theorem opts_dp {K : PySem.W.Frag} {H : Hp} : ∀ l : List (Option Nat), DpAll K H (l.map optN) (l.map optD)
  | [] => .nil
  | o :: l => .cons (opt_dp o) (opts_dp l)
theorem opts_lay : ∀ l : List (Option Nat), PyData.canLayAll0 (l.map optD) = true
  | [] => rfl
  | none :: l => opts_lay l
  | some _ :: l => opts_lay l
theorem opts_dep : ∀ l : List (Option Nat), PyData.depthAll (l.map optD) = 0
  | [] => rfl
  | o :: l => by
    have h : PyData.depth (optD o) = 0 := by cases o <;> rfl
    show max (PyData.depth (optD o)) (PyData.depthAll (l.map optD)) = 0
    rw [h, opts_dep l]
    rfl
theorem optl_lay (l : List (Option Nat)) : (PyData.list (l.map optD)).canLay0 = true := opts_lay l
theorem optl_sh (l : List (Option Nat)) : SeqAt.shaped (.list (l.map optD)) = true := by
  unfold SeqAt.shaped
  rw [optl_lay, Bool.true_and]
  refine decide_eq_true ?_
  show PyData.depthAll (l.map optD) + 1 ≤ 64
  rw [opts_dep]
  decide
/-- the deeds done, word by word -/
def deedsL (qs : List Rat) (hss tss rss : List (List Rat)) (dd mm : Nat) (hard : Bool) : List (Option Nat) := (List.range mm).map (wordD qs hss tss rss dd hard)
theorem deedsL_at {qs : List Rat} {hss tss rss : List (List Rat)} {dd mm i : Nat} {hard : Bool} (h : i < mm) : (deedsL qs hss tss rss dd mm hard)[i]? = some (wordD qs hss tss rss dd hard i) := by
  unfold deedsL
  rw [List.getElem?_map, List.getElem?_range h]
  rfl
theorem deedsL_len {qs : List Rat} {hss tss rss : List (List Rat)} {dd mm : Nat} {hard : Bool} : (deedsL qs hss tss rss dd mm hard).length = mm := by
  unfold deedsL
  rw [List.length_map, List.length_range]
/-- (weights, deed) of each word -/
def WordsAt (K : PySem.W.Frag) (H : Hp) (cs : List V) (qs : List Rat) (hss tss rss : List (List Rat)) (dd N : Nat) (hard : Bool) (k : Nat) : Prop := cs.length = k ∧ ∀ (i : Nat) (v : V), cs[i]? = some v → ∃ (t wa : Addr) (ws : List V), v = .ref t ∧ SqT K H t [.ref wa, optN (wordD qs hss tss rss dd hard i)] ∧ H wa = some (.lst ws) ∧ FrN K H N ws (prods rss qs i)
theorem WordsAt.same {K : PySem.W.Frag} {H H' : Hp} {cs : List V} {qs : List Rat} {hss tss rss : List (List Rat)} {dd N : Nat} {hard : Bool} {k : Nat} (h : WordsAt K H cs qs hss tss rss dd N hard k) (s : Same H H') : WordsAt K H' cs qs hss tss rss dd N hard k :=
  ⟨h.1, fun i v e => let ⟨t, wa, ws, a, b, c, d⟩ := h.2 i v e; ⟨t, wa, ws, a, seqT s b, s _ _ c, d.same s⟩⟩
def spWordsDone (K : PySem.W.Frag) (C CR : Addr) : Sp := fun vs H Q _ => ∃ (x y : Addr) (hard : Bool) (qs : List Rat) (hss tss rss : List (List Rat)) (n m ww dd mm : Nat), vs = [.ref x, .ref y, .bl hard] ∧ Ga K H C CR x y qs hss tss rss n m ww dd mm ∧
  ∀ p cs H', Same H H' → H' p = some (.lst cs) → WordsAt K H' cs qs hss tss rss dd (n + m) hard mm → Q (.ref p) H'
def spDeedsDone (K : PySem.W.Frag) (C CR : Addr) : Sp := fun vs H Q _ => ∃ (x y : Addr) (hard : Bool) (qs : List Rat) (hss tss rss : List (List Rat)) (n m ww dd mm : Nat), vs = [.ref x, .ref y, .bl hard] ∧ Ga K H C CR x y qs hss tss rss n m ww dd mm ∧
  ∀ p H', Same H H' → H p = none → H' p = some (.lst ((deedsL qs hss tss rss dd mm hard).map optN)) → Q (.ref p) H'
/-- what is gained by a table of gains -/
def gainW (xss : List (List Rat)) (qs : List Rat) (hss tss rss : List (List Rat)) (dd : Nat) (hard : Bool) (i : Nat) : Rat := match wordD qs hss tss rss dd hard i with
  | none => 0
  | some d => wq xss (prods rss qs i) d
def gainT (xss : List (List Rat)) (qs : List Rat) (hss tss rss : List (List Rat)) (dd mm : Nat) (hard : Bool) : Rat := ((List.range mm).map (gainW xss qs hss tss rss dd hard)).sum
def spGainsP (K : PySem.W.Frag) (C CR : Addr) : Sp := fun vs H Q _ => ∃ (x y : Addr) (hard : Bool) (qs : List Rat) (hss tss rss : List (List Rat)) (n m ww dd mm : Nat), vs = [.ref x, .ref y, .bl hard] ∧ Ga K H C CR x y qs hss tss rss n m ww dd mm ∧ ((n + (n + m) + 1) * 5 + 2) * mm + 1 ≤ 8700 ∧
  ∀ p p1 p2 H', Same H H' → SqT K H' p [.ref p1, .ref p2] → SqT K H' p1 (rp (gainT tss qs hss tss rss dd mm hard)) → SqT K H' p2 (rp (gainT hss qs hss tss rss dd mm hard)) → Q (.ref p) H'
end Hr

set_option Elab.async false
set_option linter.all false
set_option maxRecDepth 100000
set_option maxHeartbeats 4000000
namespace Ru
open PySem PySem.Spec PyProof.Rows L2 BX EXB Co
theorem ns_some {K : PySem.W.Frag} {h : Heap} {N : Addr} {mm : Str → Option Value} {n : Str} {v : Value} (X : K.In h) (G : h.Ns N mm) (e : PySem.W.nsIn K N n = some (some v)) : mm n = some v := by
  obtain ⟨o, es, ep, ho, hd, _, hf⟩ := G
  unfold PySem.W.nsIn at e
  split at e
  · rename_i c d es' n' sl q
    have := X _ _ q
    rw [ho] at this
    cases this
    cases hd
    split at e
    · rename_i en he
      cases e
      rw [← hf]
      unfold nsFind findBy
      rw [← Array.find?_toList, he]
      rfl
    · split at e <;> cases e
  · cases e
/-- x != y, both instances of the class at C with its own __eq__ alone -/
def rNeO (C : Addr) (sp : Sp) : R2 := fun x y H Q => ∃ (a b dx dy : Addr) (fs gs : List (Str × V)), x = .ref a ∧ y = .ref b ∧ H a = some (.ins C dx fs) ∧ H b = some (.ins C dy gs) ∧ sp [.ref a, .ref b] H (fun v H' => ∃ c : Bool, v = .bl c ∧ Q (.bl (!c)) H') (fun _ _ _ => False)
/-- what the written part says of such a class -/
structure NeC (K : PySem.W.Frag) (C f : Addr) : Prop where
  cls : ∃ nm q N bs hdct sn sub ab col dd k0 k1 k2 k3 k5 newId, K.lookup C = some (excClassObj nm q C N bs [.type "object"] hdct sn sub ab col dd k0 k1 k2 k3 k5 newId) ∧ PySem.W.nsOkIn K N = true ∧ PySem.W.nsIn K N "__eq__" = some (some (.ref f)) ∧ PySem.W.nsIn K N "__ne__" = some none
  fn : ∃ oF, K.lookup f = some oF ∧ oF.cls = .type "function"
theorem op_neO {X : Cx} {C f : Addr} {fd : FuncData} {k : Nat} {sp : Sp} {ps : List Str} (T : NeC X.K C f) (F : FnOk X.prog X.w X.K X.mg X.base CX0 k f fd ps sp) (hr : Room (k + 1) X.A) (hb : Binds X.K fd ps []) : OpR X (compareOp .NotEq) (rNeO C sp) := by
  intro pins s σ H x y v u Q I rx ry h
  obtain ⟨a, b, dx, dy, fs, gs, rfl, rfl, ha, hb', hq⟩ := h
  cases (show v = Value.ref a from rx)
  cases (show u = Value.ref b from ry)
  obtain ⟨nm, q, N, bs, hdct, sn, sub, ab, col, dd, k0, k1, k2, k3, k5, newId, hC, ok, heq, hne⟩ := T.cls
  obtain ⟨oF, hF, hFc⟩ := T.fn
  obtain ⟨mA, JA, _⟩ := ins_get I.hok ha
  obtain ⟨mB, JB, _⟩ := ins_get I.hok hb'
  obtain ⟨oda, JA, _⟩ := JA.look
  obtain ⟨odb, JB, _⟩ := JB.look
  have hns : s.heap.Ns N (s.heap.nsMap N) := .of_isNs (PySem.W.isNs_of_in I.kIn ok)
  have Y : s.heap.OwnEqNoNe a C f "object" [.type "object"] := ⟨_, _, nm, q, N, bs, hdct, sn, sub, ab, col, dd, k0, k1, k2, k3, k5, newId, _, _, JA.at_, JA.cls, I.kIn _ _ hC, hns, ns_some I.kIn hns heq, I.kIn _ _ hF, hFc, PySem.F.cmp_object.mro, PySem.F.cmp_object.eq.lookup, PySem.W.ns_none_of I.kIn hns hne⟩
  obtain ⟨hp, g, d, t, os⟩ := s
  refine compareOp_ne_ownEq PySem.F.cmp_object Y JB.at_ JB.cls (by have := hr.un; omega) ?_
  have e0 : Env0 X.prog X.w X.K X.mg X.base X.A.in1 X.stack ⟨hp, g, d, t, os⟩ H := by
    have e := I.env0
    exact ⟨e.frames, e.mod, e.bs, e.bsz, e.funs, e.frf, e.hok, e.bare⟩
  have hl := F.len _ _ _ _ hq
  have r2 : Vals [V.ref a, V.ref b] [Value.ref a, Value.ref b] := .cons rfl (.cons rfl .nil)
  refine wpAny_call (codeAny_mono (F.run X.A.in1 X.stack _ H ⟨[.ref a, .ref b], []⟩ [.ref a, .ref b] [.ref a, .ref b] _ (fun _ _ _ => False) hr.in1 e0 (by
    have := hb ⟨hp, g, d, t, os⟩ [.ref a, .ref b] I.kIn (by simpa using hl)
    simpa using this) r2 hq) fun r s' hq' => ?_)
  cases r with
  | error e => exact False.elim hq'
  | ok fl =>
    cases fl with
    | ret u =>
      obtain ⟨z, H', I', rz, c, ez, q'⟩ := I.after hq'
      subst ez
      cases (show u = Value.bool c from rz)
      exact ⟨c, rfl, .bl (!c), H', I', rfl, q'⟩
    | next => exact False.elim hq'
    | brk => exact False.elim hq'
    | cont => exact False.elim hq'
end Ru

set_option Elab.async false
set_option linter.all false
set_option maxRecDepth 100000
set_option maxHeartbeats 4000000
namespace Hr
open PySem PySem.Spec PyProof.Rows L2 BX EXB Co Ru
open Dz Cs
open Fr (Bd)
theorem frn_re {K : PySem.W.Frag} {H : Hp} {n m : Nat} {cs : List V} {qs : List Rat} (h : FrN K H n cs qs) (hb : ∀ q ∈ qs, Bd m q) : FrN K H m cs qs :=
  ⟨h.len, fun i v e => let ⟨a, q, e1, e2, e3, _⟩ := h.at_ i v e; ⟨a, q, e1, e2, e3, hb q (List.mem_of_getElem? e1)⟩⟩
def spPartsB (K : PySem.W.Frag) : Sp := fun vs H Q _ => ∃ (l : Addr) (z : Int) (ww dd : Nat), vs = [.ref l, .int (ww : Int), .int (dd : Int)] ∧ H l = some (.lst [.int z]) ∧ 1 ≤ ww ∧ ww ≤ 5 ∧ 1 ≤ dd ∧ dd ≤ 6 ∧
  ∀ P qs hss tss z' H', SameB l H H' → H' l = some (.lst [.int z']) → PartsT K H' P qs hss tss 43 → GoodC qs hss tss ww dd → (∀ q ∈ qs, Bd 8 q) → Q (.ref P) H'
def spRows (K : PySem.W.Frag) : Sp := fun vs H Q _ => ∃ (l : Addr) (z : Int) (ww m : Nat), vs = [.ref l, .int (ww : Int), .int (m : Int)] ∧ H l = some (.lst [.int z]) ∧ 1 ≤ ww ∧ ww ≤ 5 ∧ 1 ≤ m ∧ m ≤ 30 ∧
  ∀ D rs rss z' H', New K H H' l D rs rss 8 → D ≠ l → H' l = some (.lst [.int z']) → Good rss m → rss.length = ww → Q (.ref D) H'
/-- as spWorth, the weights ahead -/
def spChanceL (K : PySem.W.Frag) : Sp := fun vs H Q _ => ∃ (a b : Addr) (d : Nat) (rs : List Addr) (rss : List (List Rat)) (cs : List V) (ws : List Rat) (n m dd : Nat), vs = [.ref b, .ref a, .int (d : Int)] ∧ RwL K H a rs rss n ∧ SqL K H b cs ∧ FrN K H m cs ws ∧ ws.length = rss.length ∧ rss.length ≤ 5 ∧ (∀ r ∈ rss, r.length = dd) ∧ d < dd ∧ n ≤ 280 ∧ m ≤ 280 ∧
  ∀ p H', Same H H' → SqT K H' p (rp (wq rss ws d)) → Bd ((n + m + 1) * 5 + 1) (wq rss ws d) → Q (.ref p) H'
def belq (rss : List (List Rat)) (qs : List Rat) (i : Nat) : List Rat := (prods rss qs i).map fun w => w / wq rss qs i
def spBehind (K : PySem.W.Frag) : Sp := fun vs H Q _ => ∃ (a b : Addr) (d : Nat) (rs : List Addr) (rss : List (List Rat)) (cs : List V) (ws : List Rat) (n m dd : Nat), vs = [.ref b, .ref a, .int (d : Int)] ∧ RwL K H a rs rss n ∧ SqL K H b cs ∧ FrN K H m cs ws ∧ ws.length = rss.length ∧ rss.length ≤ 5 ∧ (∀ r ∈ rss, r.length = dd) ∧ d < dd ∧ n ≤ 280 ∧ m ≤ 280 ∧ wq rss ws d ≠ 0 ∧
  ∀ p cs' H', Same H H' → H p = none → H' p = some (.lst cs') → FrN K H' (n + m + ((n + m + 1) * 5 + 1)) cs' (belq rss ws d) → Q (.ref p) H'
def spOver (K : PySem.W.Frag) : Sp := fun vs H Q _ => ∃ (a b : Addr) (x y : Rat) (n m : Nat), vs = [.ref a, .ref b] ∧ SqT K H a (rp x) ∧ SqT K H b (rp y) ∧ Bd n x ∧ Bd m y ∧ n + m ≤ 8900 ∧ y ≠ 0 ∧ ∀ p, H p = none → Q (.ref p) (upd H p (.tup (rp (x / y))))
theorem bd_div {a b : Rat} {n m : Nat} (ha : Bd n a) (hb : Bd m b) (h : b ≠ 0) : Bd (n + m) (a / b) := by
  rw [← Fr.div_eq]
  refine Fr.bd_low (Fr.mul_bd ha.1 hb.dn) (Fr.mul_bd ha.dn hb.1) (Int.mul_ne_zero (Fr.den_ne a) fun z => h ?_)
  exact Rat.num_eq_zero.mp z
theorem prods_nn {rss : List (List Rat)} {qs : List Rat} {i : Nat} (h1 : ∀ q ∈ qs, 0 ≤ q) (h2 : ∀ r ∈ rss, ∀ q ∈ r, 0 ≤ q) : ∀ p ∈ prods rss qs i, 0 ≤ p := fun p hp => by
  unfold prods at hp
  obtain ⟨j, hj, e⟩ := List.getElem_of_mem hp
  rw [List.length_zipWith] at hj
  have hw : j < qs.length := by omega
  have hr : j < rss.length := by omega
  have e2 : (List.zipWith (fun w r => w * r.getD i 0) qs rss)[j]? = some (qs[j] * rss[j].getD i 0) := prods_at (List.getElem?_eq_getElem hw) (List.getElem?_eq_getElem hr)
  have eq : p = qs[j] * rss[j].getD i 0 := by
    rw [← e]
    exact (List.getElem?_eq_some_iff.mp e2).2
  rw [eq]
  refine Rat.mul_nonneg (h1 _ (List.getElem_mem hw)) ?_
  by_cases hi : i < rss[j].length
  · rw [List.getD_eq_getElem?_getD, List.getElem?_eq_getElem hi]
    exact h2 _ (List.getElem_mem hr) _ (List.getElem_mem hi)
  · rw [List.getD_eq_getElem?_getD, List.getElem?_eq_none (by omega)]
    exact Rat.le_refl
theorem wq_pos {rss : List (List Rat)} {qs : List Rat} {i : Nat} (h1 : ∀ q ∈ qs, 0 ≤ q) (h2 : ∀ r ∈ rss, ∀ q ∈ r, 0 ≤ q) (h : wq rss qs i ≠ 0) : 0 < wq rss qs i := by
  have : 0 ≤ wq rss qs i := sum_nonneg' (prods_nn h1 h2)
  exact Rat.not_le.mp fun z => h (Rat.le_antisymm z this)
theorem bel_done {qs : List Rat} {hss tss rss : List (List Rat)} {dd i d : Nat} {hard : Bool} (hp : 0 < wq rss qs i) (h : IsDone (keyT tss (belq rss qs i) hard) (bestL hss (belq rss qs i) dd) d) : wordD qs hss tss rss dd hard i = some d := by
  have e := h.F
  unfold belq at e
  rw [done_scale hp] at e
  unfold wordD
  rw [if_neg (fun z => by rw [z] at hp; exact absurd hp (Rat.not_lt.mpr Rat.le_refl))]
  exact e
theorem word_some {qs : List Rat} {hss tss rss : List (List Rat)} {dd i d : Nat} {hard : Bool} (hn : wq rss qs i ≠ 0) (h : IsDone (keyT tss (prods rss qs i) hard) (bestL hss (prods rss qs i) dd) d) : wordD qs hss tss rss dd hard i = some d := by
  unfold wordD
  rw [if_neg hn, h.F]
theorem word_none {qs : List Rat} {hss tss rss : List (List Rat)} {dd i : Nat} {hard : Bool} (hn : wq rss qs i = 0) : wordD qs hss tss rss dd hard i = none := if_pos hn
theorem word_lt {qs : List Rat} {hss tss rss : List (List Rat)} {dd i d : Nat} {hard : Bool} (h : wordD qs hss tss rss dd hard i = some d) (h1 : 1 ≤ dd) : d < dd := by
  unfold wordD at h
  split at h
  · cases h
  · obtain ⟨e, a, b⟩ := doneF_ok (key := keyT tss (prods rss qs i) hard) (bestL hss (prods rss qs i) dd).length (bestL hss (prods rss qs i) dd) rfl (best_ne' h1)
    rw [a] at h
    cases h
    exact done_lt b
/-! ### words with their deeds, none of whose lists is ex -/
def WordsX (K : PySem.W.Frag) (H : Hp) (ex : Addr) (cs : List V) (qs : List Rat) (hss tss rss : List (List Rat)) (dd N : Nat) (hard : Bool) (k : Nat) : Prop := cs.length = k ∧ ∀ (i : Nat) (v : V), cs[i]? = some v → ∃ (t wa : Addr) (ws : List V), v = .ref t ∧ SqT K H t [.ref wa, optN (wordD qs hss tss rss dd hard i)] ∧ H wa = some (.lst ws) ∧ wa ≠ ex ∧ FrN K H N ws (prods rss qs i)
theorem WordsX.same {K : PySem.W.Frag} {H H' : Hp} {ex : Addr} {cs : List V} {qs : List Rat} {hss tss rss : List (List Rat)} {dd N : Nat} {hard : Bool} {k : Nat} (h : WordsX K H ex cs qs hss tss rss dd N hard k) (s : Same H H') : WordsX K H' ex cs qs hss tss rss dd N hard k :=
  ⟨h.1, fun i v e => let ⟨t, wa, ws, a, b, c, ne, d⟩ := h.2 i v e; ⟨t, wa, ws, a, seqT s b, s _ _ c, ne, d.same s⟩⟩
theorem WordsX.push {K : PySem.W.Frag} {H : Hp} {ex t wa : Addr} {cs ws : List V} {qs : List Rat} {hss tss rss : List (List Rat)} {dd N : Nat} {hard : Bool} {k : Nat} (h : WordsX K H ex cs qs hss tss rss dd N hard k) (hex : H ex = some (.lst cs)) (ht : SqT K H t [.ref wa, optN (wordD qs hss tss rss dd hard k)]) (hw : H wa = some (.lst ws)) (ne : wa ≠ ex) (hf : FrN K H N ws (prods rss qs k)) :
    WordsX K (upd H ex (.lst (cs ++ [.ref t]))) ex (cs ++ [.ref t]) qs hss tss rss dd N hard (k + 1) := by
  have kp : ∀ a xs, SqT K H a xs → SqT K (upd H ex (.lst (cs ++ [.ref t]))) a xs := keep_lst hex
  refine ⟨by rw [List.length_append, h.1]; rfl, fun i v e => ?_⟩
  by_cases hi : i < cs.length
  · rw [List.getElem?_append_left hi] at e
    obtain ⟨t', wa', ws', a, b, c, ne', d⟩ := h.2 i v e
    exact ⟨t', wa', ws', a, kp _ _ b, by rw [upd_ne ne']; exact c, ne', d.keep kp⟩
  · rw [List.getElem?_append_right (by omega)] at e
    have e0 : i - cs.length = 0 := by
      cases z : i - cs.length with
      | zero => rfl
      | succ j => rw [z] at e; simp at e
    rw [e0] at e
    have ik : i = k := by have := h.1; omega
    subst ik
    exact ⟨t, wa, ws, (Option.some.inj e).symm, kp _ _ ht, by rw [upd_ne ne]; exact hw, ne, hf.keep kp⟩
def spWords (K : PySem.W.Frag) (C CR : Addr) : Sp := fun vs H Q _ => ∃ (x y : Addr) (hard : Bool) (qs : List Rat) (hss tss rss : List (List Rat)) (n m ww dd mm : Nat), vs = [.ref x, .ref y, .bl hard] ∧ Ga K H C CR x y qs hss tss rss n m ww dd mm ∧
  ∀ p cs H', Same H H' → H p = none → H' p = some (.lst cs) → WordsX K H' p cs qs hss tss rss dd (n + m) hard mm → Q (.ref p) H'
/-! ### the words that are said -/
def saidL (f : Nat → Option Nat) (k : Nat) : List (Nat × Nat) := (List.range k).filterMap fun i => (f i).map fun d => (i, d)
theorem saidL_succ (f : Nat → Option Nat) (k : Nat) : saidL f (k + 1) = saidL f k ++ (match f k with | none => [] | some d => [(k, d)]) := by
  unfold saidL
  rw [List.range_succ, List.filterMap_append]
  congr 1
  cases e : f k with
  | none => simp [e]
  | some d => simp [e]
theorem saidL_len (f : Nat → Option Nat) (k : Nat) : (saidL f k).length ≤ k := by
  unfold saidL
  refine Nat.le_trans (List.length_filterMap_le _ _) ?_
  rw [List.length_range]
  exact Nat.le_refl _
theorem said_sum (g : Nat → Nat → Rat) (f : Nat → Option Nat) : ∀ k : Nat, ((saidL f k).map fun p => g p.1 p.2).sum = ((List.range k).map fun i => match f i with | none => 0 | some d => g i d).sum
  | 0 => rfl
  | k + 1 => by
    rw [saidL_succ, List.map_append, List.sum_append, said_sum g f k, List.range_succ, List.map_append, List.sum_append]
    congr 1
    cases e : f k with
    | none => simp [e, Rat.add_zero]
    | some d => simp [e, Rat.add_zero]
def SaidAt (K : PySem.W.Frag) (H : Hp) (cs : List V) (l : List (Nat × Nat)) (qs : List Rat) (rss : List (List Rat)) (N dd : Nat) : Prop := cs.length = l.length ∧ ∀ (j : Nat) (v : V), cs[j]? = some v → ∃ (i d : Nat) (t wa : Addr) (ws : List V), l[j]? = some (i, d) ∧ d < dd ∧ v = .ref t ∧ SqT K H t [.ref wa, .int (d : Int)] ∧ SqL K H wa ws ∧ FrN K H N ws (prods rss qs i)
theorem SaidAt.same {K : PySem.W.Frag} {H H' : Hp} {cs : List V} {l : List (Nat × Nat)} {qs : List Rat} {rss : List (List Rat)} {N dd : Nat} (h : SaidAt K H cs l qs rss N dd) (s : Same H H') : SaidAt K H' cs l qs rss N dd :=
  ⟨h.1, fun j v e => let ⟨i, d, t, wa, ws, a, b, c, f, g, k⟩ := h.2 j v e; ⟨i, d, t, wa, ws, a, b, c, seqT s f, s.seq g, k.same s⟩⟩
theorem SaidAt.nil {K : PySem.W.Frag} {H : Hp} {qs : List Rat} {rss : List (List Rat)} {N dd : Nat} : SaidAt K H [] [] qs rss N dd := ⟨rfl, fun j v e => by simp at e⟩
theorem SaidAt.snoc {K : PySem.W.Frag} {H : Hp} {cs : List V} {l : List (Nat × Nat)} {qs : List Rat} {rss : List (List Rat)} {N dd i d : Nat} {t wa : Addr} {ws : List V} (h : SaidAt K H cs l qs rss N dd) (hd : d < dd) (ht : SqT K H t [.ref wa, .int (d : Int)]) (hw : SqL K H wa ws) (hf : FrN K H N ws (prods rss qs i)) : SaidAt K H (cs ++ [.ref t]) (l ++ [(i, d)]) qs rss N dd := by
  refine ⟨by rw [List.length_append, List.length_append, h.1]; rfl, fun j v e => ?_⟩
  by_cases hj : j < cs.length
  · rw [List.getElem?_append_left hj] at e
    obtain ⟨i', d', t', wa', ws', a, r⟩ := h.2 j v e
    exact ⟨i', d', t', wa', ws', by rw [List.getElem?_append_left (by rw [← h.1]; exact hj)]; exact a, r⟩
  · rw [List.getElem?_append_right (by omega)] at e
    have e0 : j - cs.length = 0 := by
      cases z : j - cs.length with
      | zero => rfl
      | succ k => rw [z] at e; simp at e
    rw [e0] at e
    refine ⟨i, d, t, wa, ws, ?_, hd, (Option.some.inj e).symm, ht, hw, hf⟩
    rw [List.getElem?_append_right (by rw [← h.1]; omega), ← h.1, e0]
    rfl
/-- the same, the lists as they stand in H0 -/
def SaidX (K : PySem.W.Frag) (H0 H : Hp) (cs : List V) (l : List (Nat × Nat)) (qs : List Rat) (rss : List (List Rat)) (N dd : Nat) : Prop := cs.length = l.length ∧ ∀ (j : Nat) (v : V), cs[j]? = some v → ∃ (i d : Nat) (t wa : Addr) (ws : List V), l[j]? = some (i, d) ∧ d < dd ∧ v = .ref t ∧ SqT K H t [.ref wa, .int (d : Int)] ∧ SqL K H0 wa ws ∧ FrN K H0 N ws (prods rss qs i)
theorem SaidX.keep {K : PySem.W.Frag} {H0 H H' : Hp} {cs : List V} {l : List (Nat × Nat)} {qs : List Rat} {rss : List (List Rat)} {N dd : Nat} (h : SaidX K H0 H cs l qs rss N dd) (k : ∀ a xs, SqT K H a xs → SqT K H' a xs) : SaidX K H0 H' cs l qs rss N dd :=
  ⟨h.1, fun j v e => let ⟨i, d, t, wa, ws, a, b, c, f, g, z⟩ := h.2 j v e; ⟨i, d, t, wa, ws, a, b, c, k _ _ f, g, z⟩⟩
theorem SaidX.nil {K : PySem.W.Frag} {H0 H : Hp} {qs : List Rat} {rss : List (List Rat)} {N dd : Nat} : SaidX K H0 H [] [] qs rss N dd := ⟨rfl, fun j v e => by simp at e⟩
theorem SaidX.snoc {K : PySem.W.Frag} {H0 H : Hp} {cs : List V} {l : List (Nat × Nat)} {qs : List Rat} {rss : List (List Rat)} {N dd i d : Nat} {t wa : Addr} {ws : List V} (h : SaidX K H0 H cs l qs rss N dd) (hd : d < dd) (ht : SqT K H t [.ref wa, .int (d : Int)]) (hw : SqL K H0 wa ws) (hf : FrN K H0 N ws (prods rss qs i)) : SaidX K H0 H (cs ++ [.ref t]) (l ++ [(i, d)]) qs rss N dd := by
  refine ⟨by rw [List.length_append, List.length_append, h.1]; rfl, fun j v e => ?_⟩
  by_cases hj : j < cs.length
  · rw [List.getElem?_append_left hj] at e
    obtain ⟨i', d', t', wa', ws', a, r⟩ := h.2 j v e
    exact ⟨i', d', t', wa', ws', by rw [List.getElem?_append_left (by rw [← h.1]; exact hj)]; exact a, r⟩
  · rw [List.getElem?_append_right (by omega)] at e
    have e0 : j - cs.length = 0 := by
      cases z : j - cs.length with
      | zero => rfl
      | succ k => rw [z] at e; simp at e
    rw [e0] at e
    refine ⟨i, d, t, wa, ws, ?_, hd, (Option.some.inj e).symm, ht, hw, hf⟩
    rw [List.getElem?_append_right (by rw [← h.1]; omega), ← h.1, e0]
    rfl
theorem SaidX.at_ {K : PySem.W.Frag} {H0 H : Hp} {cs : List V} {l : List (Nat × Nat)} {qs : List Rat} {rss : List (List Rat)} {N dd : Nat} (h : SaidX K H0 H cs l qs rss N dd) (s : Same H0 H) : SaidAt K H cs l qs rss N dd :=
  ⟨h.1, fun j v e => let ⟨i, d, t, wa, ws, a, b, c, f, g, z⟩ := h.2 j v e; ⟨i, d, t, wa, ws, a, b, c, f, s.seq g, z.same s⟩⟩
theorem gain_said (xss : List (List Rat)) (qs : List Rat) (hss tss rss : List (List Rat)) (dd mm : Nat) (hard : Bool) : ((saidL (wordD qs hss tss rss dd hard) mm).map fun z => wq xss (prods rss qs z.1) z.2).sum = gainT xss qs hss tss rss dd mm hard := said_sum (fun i d => wq xss (prods rss qs i) d) _ mm
/-- what the law made its case and its rule of -/
structure LG (K : PySem.W.Frag) (H : Hp) (P D : Addr) (qs : List Rat) (hss tss rss : List (List Rat)) (rs : List Addr) (ww dd mm : Nat) : Prop where
  p : PartsT K H P qs hss tss 43
  g : GoodC qs hss tss ww dd
  b8 : ∀ q ∈ qs, Bd 8 q
  r : RwL K H D rs rss 8
  go : Good rss mm
  wl : rss.length = ww
theorem LG.same {K : PySem.W.Frag} {H H' : Hp} {P D : Addr} {qs : List Rat} {hss tss rss : List (List Rat)} {rs : List Addr} {ww dd mm : Nat} (h : LG K H P D qs hss tss rss rs ww dd mm) (s : Same H H') : LG K H' P D qs hss tss rss rs ww dd mm := ⟨h.p.same s, h.g, h.b8, h.r.same s, h.go, h.wl⟩
def spDueL (K : PySem.W.Frag) : Sp := fun vs H Q _ => ∃ (P D : Addr) (hard : Bool) (qs : List Rat) (hss tss rss : List (List Rat)) (rs : List Addr) (ww dd mm : Nat), vs = [.ref P, .ref D, .bl hard] ∧ LG K H P D qs hss tss rss rs ww dd mm ∧
  ∀ p H', Same H H' → H p = none → H' p = some (.lst ((deedsL qs hss tss rss dd mm hard).map optN)) → Q (.ref p) H'
def spGained (K : PySem.W.Frag) : Sp := fun vs H Q _ => ∃ (P D : Addr) (hard : Bool) (qs : List Rat) (hss tss rss : List (List Rat)) (rs : List Addr) (ww dd mm : Nat), vs = [.ref P, .ref D, .bl hard] ∧ LG K H P D qs hss tss rss rs ww dd mm ∧ mm ≤ 9 ∧
  ∀ p p1 p2 H', Same H H' → SqT K H' p [.ref p1, .ref p2] → SqT K H' p1 (rp (gainT tss qs hss tss rss dd mm hard)) → SqT K H' p2 (rp (gainT hss qs hss tss rss dd mm hard)) → Q (.ref p) H'
theorem LG.nn {K : PySem.W.Frag} {H : Hp} {P D : Addr} {qs : List Rat} {hss tss rss : List (List Rat)} {rs : List Addr} {ww dd mm : Nat} (h : LG K H P D qs hss tss rss rs ww dd mm) : ∀ r ∈ rss, ∀ q ∈ r, 0 ≤ q := fun r hr q hq => (h.go.row r hr).2.1 q hq
theorem gainW_bel {xss : List (List Rat)} {qs : List Rat} {hss tss rss : List (List Rat)} {dd i d : Nat} {hard : Bool} (hp : 0 < wq rss qs i) (h : IsDone (keyT tss (belq rss qs i) hard) (bestL hss (belq rss qs i) dd) d) : wq rss qs i * wq xss (belq rss qs i) d = gainW xss qs hss tss rss dd hard i := by
  unfold gainW
  rw [bel_done hp h]
  show _ = wq xss (prods rss qs i) d
  unfold belq
  rw [wq_scale, ← Rat.mul_assoc, Rat.mul_inv_cancel _ (fun z => by rw [z] at hp; exact absurd hp (Rat.not_lt.mpr Rat.le_refl)), Rat.one_mul]
theorem gainW_none {xss : List (List Rat)} {qs : List Rat} {hss tss rss : List (List Rat)} {dd i : Nat} {hard : Bool} (hz : wq rss qs i = 0) : gainW xss qs hss tss rss dd hard i = 0 := by
  unfold gainW
  rw [word_none hz]
def gSum (xss : List (List Rat)) (qs : List Rat) (hss tss rss : List (List Rat)) (dd : Nat) (hard : Bool) (k : Nat) : Rat := ((List.range k).map (gainW xss qs hss tss rss dd hard)).sum
theorem gSum_succ (xss : List (List Rat)) (qs : List Rat) (hss tss rss : List (List Rat)) (dd : Nat) (hard : Bool) (k : Nat) : gSum xss qs hss tss rss dd hard (k + 1) = gSum xss qs hss tss rss dd hard k + gainW xss qs hss tss rss dd hard k := by
  unfold gSum
  rw [List.range_succ, List.map_append, List.sum_append, List.map_singleton, List.sum_singleton]
/-- values, then names, whatever the defaults are -/
def g3 : {α : Type} → List α → List α → List α → List α := fun us _ ws => us ++ ws
theorem g3_rel {vs ds zs : List V} {us its ws : List Value} (a : Vals vs us) (_ : Vals ds its) (b : Vals zs ws) : Vals (g3 vs ds zs) (g3 us its ws) := a.append b
theorem mk_ruleN {K : PySem.W.Frag} {C : Addr} {H : Hp} {a : Addr} {rs : List Addr} {rss : List (List Rat)} {n m : Nat} {Q : Addr → Hp → Prop} (hw : RwL K H a rs rss n) (hg : Good rss m) (hn : n ≤ 280) (q : ∀ x H', Same H H' → H x = none → IsRule K H' C x rss n → Q x H') :
    ∀ x dx, H x = none → H dx = none → dx ≠ x → spInit K C [.ref x, .ref a] (upd (upd H dx (.own x)) x (.ins C dx [])) (fun v H2 => v = .non ∧ Q x H2) E0 := by
  intro x dx hx hdx hne
  have s1 := same_new hdx (.own x)
  have hx1 : (upd H dx (.own x)) x = none := by rw [upd_ne (Ne.symm hne)]; exact hx
  have s2 := s1.trans (same_new hx1 (.ins C dx []))
  exact ⟨x, a, dx, rs, rss, n, m, rfl, upd_same, hw.same s2, hg, hn, fun ra rs' H' kp hx' hw' => ⟨rfl, q x H' (fun b o e => kp b o (ne_of_none e hx) (s2 _ _ e)) hx ⟨dx, ra, rs', hx', hw'⟩⟩⟩
/-! ### alike -/
structure IsT (K : PySem.W.Frag) (C : Addr) : Prop where
  ha : PySem.W.findIn K (.ref C) "__class__" = some (some (.builtin "object.__class__"))
  hn : PySem.W.specialIn K (.builtin "object.__class__") "__get__" = some (some (.builtin "getset_descriptor.__get__"))
  ht : PySem.W.takesIn K (.builtin "object.__class__") = some true
  hm : PySem.W.mroIn K C (.type "object") = some true
  kt : PySem.W.kitOne K (.ref C) (.ref C) = some true
def AlikeC (K : PySem.W.Frag) (C : Addr) (a b : Addr) (H : Hp) : Prop := ∃ (qs : List Rat) (hss tss : List (List Rat)) (n m : Nat), IsCase K H C a qs hss tss n ∧ IsCase K H C b qs hss tss m
def AlikeR (K : PySem.W.Frag) (C : Addr) (a b : Addr) (H : Hp) : Prop := ∃ (rss : List (List Rat)) (n m : Nat), IsRule K H C a rss n ∧ IsRule K H C b rss m
end Hr

set_option Elab.async false
set_option linter.all false
set_option maxRecDepth 100000
set_option maxHeartbeats 4000000
namespace Hr
open PySem PySem.Spec PyProof.Rows L2 BX EXB Co Ru
open Dz Cs
open Fr (Bd)
/-! ### words put together -/
abbrev gv (gs : List Nat) : List V := dsV gs
def spChkGr (K : PySem.W.Frag) : Sp := fun vs H Q _ => ∃ (a : Addr) (gs : List Nat) (many : Nat), vs = [.ref a, .int (gs.length : Int), .int (many : Int)] ∧ H a = some (.lst (gv gs)) ∧ (∀ g ∈ gs, g < many) ∧ ∀ H', Same H H' → Q .non H'
def spGrpRow (K : PySem.W.Frag) : Sp := fun vs H Q _ => ∃ (r gl : Addr) (cs : List V) (qs : List Rat) (gs : List Nat) (n many : Nat), vs = [.ref r, .ref gl, .int (many : Int)] ∧ H r = some (.lst cs) ∧ FrN K H n cs qs ∧ H gl = some (.lst (gv gs)) ∧ gs.length = qs.length ∧ qs.length ≤ 30 ∧ (∀ g ∈ gs, g < many) ∧ many ≤ 30 ∧ n ≤ 8 ∧
  ∀ D cs' H', Same H H' → H D = none → H' D = some (.lst cs') → FrN K H' 280 cs' (grp qs gs (List.replicate many 0)) → Q (.ref D) H'
def spGrouped (K : PySem.W.Frag) (C : Addr) : Sp := fun vs H Q _ => ∃ (x gl : Addr) (rss : List (List Rat)) (gs : List Nat) (n m many : Nat), vs = [.ref x, .ref gl, .int (many : Int)] ∧ IsRule K H C x rss n ∧ Good rss m ∧ H gl = some (.lst (gv gs)) ∧ gs.length = m ∧ (∀ g ∈ gs, g < many) ∧ 1 ≤ many ∧ many ≤ 30 ∧ n ≤ 8 ∧
  ∀ x H', Same H H' → H x = none → IsRule K H' C x (rss.map fun qs => grp qs gs (List.replicate many 0)) 280 → Q (.ref x) H'
theorem grp_snoc : ∀ (qs : List Rat) (gs : List Nat) (s : Rat) (g : Nat) (told : List Rat), qs.length = gs.length → grp (qs ++ [s]) (gs ++ [g]) told = (grp qs gs told).set g ((grp qs gs told).getD g 0 + s)
  | [], [], s, g, told, _ => rfl
  | [], _ :: _, _, _, _, h => by simp at h
  | _ :: _, [], _, _, _, h => by simp at h
  | q :: qs, x :: gs, s, g, told, h => by
    show grp (qs ++ [s]) (gs ++ [g]) _ = _
    rw [grp_snoc qs gs s g _ (by simpa using h)]
    rfl
theorem good_grouped {rss : List (List Rat)} {gs : List Nat} {m many : Nat} (hg : Good rss m) (hl : gs.length = m) (hm : ∀ g ∈ gs, g < many) (h1 : 1 ≤ many) (h30 : many ≤ 30) : Good (rss.map fun qs => grp qs gs (List.replicate many 0)) many := by
  refine ⟨by rw [List.length_map]; exact hg.w1, by rw [List.length_map]; exact hg.w5, h1, h30, fun qs hq => ?_⟩
  obtain ⟨r, hr, rfl⟩ := List.mem_map.mp hq
  exact grp_ok (hg.row r hr) hl hm
theorem rep_flat (k : Nat) (v : V) : (List.replicate k [v]).flatten = List.replicate k v := by
  induction k with
  | zero => rfl
  | succ k ih => rw [List.replicate_succ, List.flatten_cons, ih, List.replicate_succ]; rfl
theorem frn_rep {K : PySem.W.Frag} {H : Hp} {t : Addr} {k : Nat} (ht : SqT K H t (rp 0)) : FrN K H 1 (List.replicate k (V.ref t)) (List.replicate k 0) := by
  refine ⟨by rw [List.length_replicate, List.length_replicate], fun i v e => ?_⟩
  have hi : i < k := by
    have := (List.getElem?_eq_some_iff.mp e).1
    rw [List.length_replicate] at this
    exact this
  rw [List.getElem?_replicate, if_pos hi] at e
  exact ⟨t, 0, by rw [List.getElem?_replicate, if_pos hi], (Option.some.inj e).symm, ht, (⟨by decide, by decide⟩ : Bd 1 (0 : Rat))⟩
/-- the groups that make advice -/
def grpsL (qs : List Rat) (hss tss rss : List (List Rat)) (dd mm : Nat) (hard : Bool) : List Nat := (deedsL qs hss tss rss dd mm hard).map fun o => o.getD 0
def advR (qs : List Rat) (hss tss rss : List (List Rat)) (dd mm : Nat) (hard : Bool) : List (List Rat) := rss.map fun r => grp r (grpsL qs hss tss rss dd mm hard) (List.replicate dd 0)
theorem grpsL_len {qs : List Rat} {hss tss rss : List (List Rat)} {dd mm : Nat} {hard : Bool} : (grpsL qs hss tss rss dd mm hard).length = mm := by
  unfold grpsL
  rw [List.length_map, deedsL_len]
theorem grpsL_at {qs : List Rat} {hss tss rss : List (List Rat)} {dd mm i : Nat} {hard : Bool} (h : i < mm) : (grpsL qs hss tss rss dd mm hard)[i]? = some ((wordD qs hss tss rss dd hard i).getD 0) := by
  unfold grpsL
  rw [List.getElem?_map, deedsL_at h]
  rfl
theorem grpsL_lt {qs : List Rat} {hss tss rss : List (List Rat)} {dd mm : Nat} {hard : Bool} (h1 : 1 ≤ dd) : ∀ g ∈ grpsL qs hss tss rss dd mm hard, g < dd := fun g hg => by
  unfold grpsL at hg
  obtain ⟨o, ho, rfl⟩ := List.mem_map.mp hg
  unfold deedsL at ho
  obtain ⟨i, _, rfl⟩ := List.mem_map.mp ho
  cases e : wordD qs hss tss rss dd hard i with
  | none => exact h1
  | some d => exact word_lt e h1
theorem grp_bd : ∀ (row : List Rat) (gs : List Nat) (told : List Rat) (n : Nat), 1 ≤ n → (∀ q ∈ row, Bd 8 q) → (∀ q ∈ told, Bd n q) → ∀ x ∈ grp row gs told, Bd (n + 9 * row.length) x
  | [], _, told, n, _, _, ht, x, hx => by
    rw [grp] at hx
    · exact (ht x hx).mono (Nat.le_add_right _ _)
    · simp
  | _ :: _, [], told, n, _, _, ht, x, hx => by
    rw [grp] at hx
    · exact (ht x hx).mono (Nat.le_add_right _ _)
    · simp
  | s :: row, g :: gs, told, n, hn, hr, ht, x, hx => by
    rw [grp] at hx
    refine (grp_bd row gs _ (n + 9) (by omega) (fun q hq => hr q (List.mem_cons_of_mem _ hq)) (fun q hq => ?_) x hx).mono (by rw [List.length_cons]; omega)
    rcases List.mem_or_eq_of_mem_set hq with hq | rfl
    · exact (ht q hq).mono (by omega)
    · by_cases h : g < told.length
      · rw [List.getD_eq_getElem?_getD, List.getElem?_eq_getElem h]
        exact (Fr.bd_add (ht _ (List.getElem_mem h)) (hr s (List.mem_cons_self ..))).mono (by omega)
      · rw [List.getD_eq_getElem?_getD, List.getElem?_eq_none (by omega)]
        exact (Fr.bd_add (a := 0) (n := 1) ⟨by decide, by decide⟩ (hr s (List.mem_cons_self ..))).mono (by omega)
/-- the first i words put together -/
def grpI (gs : List Nat) (dd i : Nat) (r : List Rat) : List Rat := grp (r.take i) (gs.take i) (List.replicate dd 0)
theorem grpI_succ {gs : List Nat} {dd i g : Nat} {r : List Rat} {s : Rat} (hl : gs.length = r.length) (hg : gs[i]? = some g) (hs : r[i]? = some s) : grpI gs dd (i + 1) r = (grpI gs dd i r).set g ((grpI gs dd i r).getD g 0 + s) := by
  unfold grpI
  rw [take_succ_at hg, take_succ_at hs]
  exact grp_snoc _ _ _ _ _ (by rw [List.length_take, List.length_take, hl])
theorem grpI_len {gs : List Nat} {dd i : Nat} {r : List Rat} : (grpI gs dd i r).length = dd := by
  unfold grpI
  rw [grp_len, List.length_replicate]
theorem grpI_all {gs : List Nat} {dd i : Nat} {r : List Rat} (h1 : r.length ≤ i) (h2 : gs.length ≤ i) : grpI gs dd i r = grp r gs (List.replicate dd 0) := by
  unfold grpI
  rw [List.take_of_length_le h1, List.take_of_length_le h2]
theorem grpI_bd {gs : List Nat} {dd i : Nat} {r : List Rat} (h : ∀ q ∈ r, Bd 8 q) (hi : i ≤ 9) : ∀ x ∈ grpI gs dd i r, Bd 82 x := fun x hx => by
  unfold grpI at hx
  refine (grp_bd _ _ _ 1 (Nat.le_refl _) (fun q hq => h q (List.mem_of_mem_take hq)) (fun q hq => ?_) x hx).mono ?_
  · rw [List.eq_of_mem_replicate hq]
    exact ⟨by decide, by decide⟩
  · have := List.length_take_le i r
    omega
def midR (gs : List Nat) (dd i j : Nat) (rss : List (List Rat)) : List (List Rat) := (rss.take j).map (grpI gs dd (i + 1)) ++ (rss.drop j).map (grpI gs dd i)
theorem midR_at {gs : List Nat} {dd i j : Nat} {rss : List (List Rat)} {r : List Rat} (h : rss[j]? = some r) : (midR gs dd i j rss)[j]? = some (grpI gs dd i r) := by
  have hj : j < rss.length := (List.getElem?_eq_some_iff.mp h).1
  unfold midR
  rw [List.getElem?_append_right (by rw [List.length_map, List.length_take]; omega), List.length_map, List.length_take, Nat.min_eq_left (by omega), Nat.sub_self, List.getElem?_map, List.getElem?_drop, Nat.add_zero, h]
  rfl
theorem midR_succ {gs : List Nat} {dd i j : Nat} {rss : List (List Rat)} {r : List Rat} (h : rss[j]? = some r) : (midR gs dd i j rss).set j (grpI gs dd (i + 1) r) = midR gs dd i (j + 1) rss := by
  have hj : j < rss.length := (List.getElem?_eq_some_iff.mp h).1
  have er : rss[j] = r := (List.getElem?_eq_some_iff.mp h).2
  unfold midR
  rw [List.set_append_right _ _ (by rw [List.length_map, List.length_take]; omega), List.length_map, List.length_take, Nat.min_eq_left (by omega), Nat.sub_self, List.drop_eq_getElem_cons hj, List.map_cons, List.set_cons_zero, take_succ_at h, List.map_append, List.append_assoc]
  rfl
theorem midR_zero {gs : List Nat} {dd i : Nat} {rss : List (List Rat)} : midR gs dd i 0 rss = rss.map (grpI gs dd i) := by
  unfold midR
  rw [List.take_zero, List.drop_zero]
  rfl
theorem midR_full {gs : List Nat} {dd i : Nat} {rss : List (List Rat)} : midR gs dd i rss.length rss = rss.map (grpI gs dd (i + 1)) := by
  unfold midR
  rw [List.take_length, List.drop_length, List.map_nil, List.append_nil]
def spAdvised (K : PySem.W.Frag) (C CR : Addr) : Sp := fun vs H Q _ => ∃ (x y : Addr) (hard : Bool) (qs : List Rat) (hss tss rss : List (List Rat)) (n m ww dd mm : Nat), vs = [.ref x, .ref y, .bl hard] ∧ Ga K H C CR x y qs hss tss rss n m ww dd mm ∧ m ≤ 8 ∧
  ∀ z H', Same H H' → H z = none → IsRule K H' CR z (advR qs hss tss rss dd mm hard) 280 → Q (.ref z) H'
def spDueG (K : PySem.W.Frag) : Sp := fun vs H Q _ => ∃ (P D : Addr) (hard : Bool) (qs : List Rat) (hss tss rss : List (List Rat)) (rs : List Addr) (ww dd mm : Nat), vs = [.ref P, .ref D, .bl hard] ∧ LG K H P D qs hss tss rss rs ww dd mm ∧ mm ≤ 9 ∧
  ∀ p rs' H', Same H H' → RwL K H' p rs' (advR qs hss tss rss dd mm hard) 280 → Q (.ref p) H'
theorem good_adv {K : PySem.W.Frag} {H : Hp} {P D : Addr} {qs : List Rat} {hss tss rss : List (List Rat)} {rs : List Addr} {ww dd mm : Nat} {hard : Bool} (h : LG K H P D qs hss tss rss rs ww dd mm) : Good (advR qs hss tss rss dd mm hard) dd := good_grouped h.go grpsL_len (grpsL_lt h.g.d1) h.g.d1 (by have := h.g.d6; omega)
end Hr

set_option Elab.async false
set_option linter.all false
set_option maxRecDepth 100000
set_option maxHeartbeats 4000000
namespace Hr
open PySem PySem.Spec PyProof.Rows L2 BX EXB Co Ru
open Dz Cs
open Fr (Bd)
/-! ### where advice falls short -/
theorem num_pos' (q : Rat) : 0 < q.num ↔ 0 < q := by
  constructor
  · intro h
    have h1 : 0 ≤ q := Rat.num_nonneg.mp (by omega)
    exact Rat.not_le.mp fun z => by
      have := Rat.le_antisymm z h1
      rw [this] at h
      exact absurd h (by decide)
  · intro h
    have h1 : 0 ≤ q.num := Rat.num_nonneg.mpr (Rat.le_of_lt h)
    rcases Int.lt_or_eq_of_le h1 with h2 | h2
    · exact h2
    · have := Rat.num_eq_zero.mp h2.symm
      rw [this] at h
      exact absurd h (Rat.not_lt.mpr Rat.le_refl)
def leadP (rss : List (List Rat)) (ws : List Rat) (d e : Nat) : List Rat := List.zipWith (fun w r => w * (r.getD d 0 - r.getD e 0)) ws rss
def leadQ (rss : List (List Rat)) (ws : List Rat) (d e : Nat) : Rat := (leadP rss ws d e).sum
theorem leadP_at {rss : List (List Rat)} {ws : List Rat} {d e i : Nat} {q : Rat} {r : List Rat} (h1 : ws[i]? = some q) (h2 : rss[i]? = some r) : (leadP rss ws d e)[i]? = some (q * (r.getD d 0 - r.getD e 0)) := by
  unfold leadP
  rw [List.getElem?_zipWith, h1, h2]
theorem leadP_len {rss : List (List Rat)} {ws : List Rat} {d e : Nat} (h : ws.length = rss.length) : (leadP rss ws d e).length = ws.length := by
  unfold leadP
  rw [List.length_zipWith]
  omega
theorem lead_wq : ∀ (rss : List (List Rat)) (ws : List Rat) (d e : Nat), leadQ rss ws d e = wq rss ws d - wq rss ws e
  | [], ws, d, e => by
    cases ws <;> (unfold leadQ leadP wq prods; simp; try grind)
  | r :: rss, [], d, e => by unfold leadQ leadP wq prods; simp; try grind
  | r :: rss, w :: ws, d, e => by
    have i := lead_wq rss ws d e
    have a : leadQ (r :: rss) (w :: ws) d e = w * (r.getD d 0 - r.getD e 0) + leadQ rss ws d e := rfl
    have b : ∀ x, wq (r :: rss) (w :: ws) x = w * r.getD x 0 + wq rss ws x := fun x => rfl
    rw [a, b, b, i]
    grind
def spLead (K : PySem.W.Frag) : Sp := fun vs H Q _ => ∃ (a b : Addr) (d e : Nat) (rs : List Addr) (rss : List (List Rat)) (cs : List V) (ws : List Rat) (n m dd : Nat), vs = [.ref a, .ref b, .int (d : Int), .int (e : Int)] ∧ RwL K H a rs rss n ∧ SqL K H b cs ∧ FrN K H m cs ws ∧ ws.length = rss.length ∧ rss.length ≤ 5 ∧ (∀ r ∈ rss, r.length = dd) ∧ d < dd ∧ e < dd ∧ n ≤ 280 ∧ m ≤ 560 ∧
  ∀ p H', Same H H' → SqT K H' p (rp (leadQ rss ws d e)) → Q (.ref p) H'
/-- the deeds that would be better, word by word -/
def faultD (hss : List (List Rat)) (ws : List Rat) (d k : Nat) : List (Nat × Nat × Rat) := (List.range k).filterMap fun e => if 0 < leadQ hss ws e d then some (d, e, leadQ hss ws e d) else none
def faultsL (qs : List Rat) (hss rss : List (List Rat)) (dd k : Nat) : List (Nat × Nat × Rat) := (List.range k).flatMap fun d => faultD hss (prods rss qs d) d dd
theorem faultD_succ {hss : List (List Rat)} {ws : List Rat} {d k : Nat} : faultD hss ws d (k + 1) = faultD hss ws d k ++ (if 0 < leadQ hss ws k d then [(d, k, leadQ hss ws k d)] else []) := by
  unfold faultD
  rw [List.range_succ, List.filterMap_append]
  congr 1
  by_cases h : 0 < leadQ hss ws k d
  · simp [h]
  · simp [h]
theorem faultD_len {hss : List (List Rat)} {ws : List Rat} {d k : Nat} : (faultD hss ws d k).length ≤ k := by
  unfold faultD
  refine Nat.le_trans (List.length_filterMap_le _ _) ?_
  rw [List.length_range]
  exact Nat.le_refl _
theorem faultsL_succ {qs : List Rat} {hss rss : List (List Rat)} {dd k : Nat} : faultsL qs hss rss dd (k + 1) = faultsL qs hss rss dd k ++ faultD hss (prods rss qs k) k dd := by
  unfold faultsL
  rw [List.range_succ, List.flatMap_append]
  congr 1
  simp
theorem faultsL_len {qs : List Rat} {hss rss : List (List Rat)} {dd : Nat} : ∀ k : Nat, (faultsL qs hss rss dd k).length ≤ k * dd
  | 0 => Nat.zero_le _
  | k + 1 => by
    rw [faultsL_succ, List.length_append]
    have := faultsL_len (qs := qs) (hss := hss) (rss := rss) (dd := dd) k
    have := faultD_len (hss := hss) (ws := prods rss qs k) (d := k) (k := dd)
    rw [Nat.succ_mul]
    omega
/-- tuples (deed, other, much) -/
def FauAt (K : PySem.W.Frag) (H : Hp) (cs : List V) (l : List (Nat × Nat × Rat)) : Prop := cs.length = l.length ∧ ∀ (j : Nat) (v : V), cs[j]? = some v → ∃ (d e : Nat) (m : Rat) (t p : Addr), l[j]? = some (d, e, m) ∧ v = .ref t ∧ SqT K H t [.int (d : Int), .int (e : Int), .ref p] ∧ SqT K H p (rp m)
theorem FauAt.keep {K : PySem.W.Frag} {H H' : Hp} {cs : List V} {l : List (Nat × Nat × Rat)} (h : FauAt K H cs l) (k : ∀ a xs, SqT K H a xs → SqT K H' a xs) : FauAt K H' cs l :=
  ⟨h.1, fun j v e => let ⟨d, x, m, t, p, a, b, c, f⟩ := h.2 j v e; ⟨d, x, m, t, p, a, b, k _ _ c, k _ _ f⟩⟩
theorem FauAt.same {K : PySem.W.Frag} {H H' : Hp} {cs : List V} {l : List (Nat × Nat × Rat)} (h : FauAt K H cs l) (s : Same H H') : FauAt K H' cs l := h.keep fun _ _ => seqT s
theorem FauAt.nil {K : PySem.W.Frag} {H : Hp} : FauAt K H [] [] := ⟨rfl, fun j v e => by simp at e⟩
theorem FauAt.snoc {K : PySem.W.Frag} {H : Hp} {cs : List V} {l : List (Nat × Nat × Rat)} {d e : Nat} {m : Rat} {t p : Addr} (h : FauAt K H cs l) (ht : SqT K H t [.int (d : Int), .int (e : Int), .ref p]) (hp : SqT K H p (rp m)) : FauAt K H (cs ++ [.ref t]) (l ++ [(d, e, m)]) := by
  refine ⟨by rw [List.length_append, List.length_append, h.1]; rfl, fun j v ev => ?_⟩
  by_cases hj : j < cs.length
  · rw [List.getElem?_append_left hj] at ev
    obtain ⟨d', e', m', t', p', a, r⟩ := h.2 j v ev
    exact ⟨d', e', m', t', p', by rw [List.getElem?_append_left (by rw [← h.1]; exact hj)]; exact a, r⟩
  · rw [List.getElem?_append_right (by omega)] at ev
    have e0 : j - cs.length = 0 := by
      cases z : j - cs.length with
      | zero => rfl
      | succ k => rw [z] at ev; simp at ev
    rw [e0] at ev
    refine ⟨d, e, m, t, p, ?_, (Option.some.inj ev).symm, ht, hp⟩
    rw [List.getElem?_append_right (by rw [← h.1]; omega), ← h.1, e0]
    rfl
def spFaults (K : PySem.W.Frag) (C CR : Addr) : Sp := fun vs H Q _ => ∃ (x y : Addr) (qs : List Rat) (hss tss rss : List (List Rat)) (n m ww dd : Nat), vs = [.ref x, .ref y] ∧ Ga K H C CR x y qs hss tss rss n m ww dd dd ∧
  ∀ p cs H', Same H H' → H p = none → H' p = some (.lst cs) → FauAt K H' cs (faultsL qs hss rss dd dd) → Q (.ref p) H'
def spFollowed (K : PySem.W.Frag) (C CR : Addr) : Sp := fun vs H Q _ => ∃ (x y : Addr) (qs : List Rat) (hss tss rss : List (List Rat)) (n m ww dd : Nat), vs = [.ref x, .ref y] ∧ Ga K H C CR x y qs hss tss rss n m ww dd dd ∧
  ∀ H', Same H H' → Q (.bl (decide (faultsL qs hss rss dd dd = []))) H'
end Hr

set_option Elab.async false
set_option linter.all false
set_option maxRecDepth 100000
set_option maxHeartbeats 4000000
namespace Hr
open PySem PySem.Spec PyProof.Rows L2 BX EXB Co Ru
open Dz Cs
open Fr (Bd)
/-! ### words put together, weighed -/
/-- the sum over the words of a group -/
def sumG : List Nat → Nat → (Nat → Rat) → Rat
  | [], _, _ => 0
  | g :: gs, d, f => (if g = d then f 0 else 0) + sumG gs d fun i => f (i + 1)
theorem sumG_congr {d : Nat} : ∀ {gs : List Nat} {f g : Nat → Rat}, (∀ i, gs[i]? = some d → f i = g i) → sumG gs d f = sumG gs d g
  | [], _, _, _ => rfl
  | x :: gs, f, g, h => by
    have i := sumG_congr (gs := gs) (f := fun i => f (i + 1)) (g := fun i => g (i + 1)) fun i hi => h (i + 1) hi
    unfold sumG
    rw [i]
    by_cases e : x = d
    · rw [if_pos e, if_pos e, h 0 (by rw [e]; rfl)]
    · rw [if_neg e, if_neg e]
theorem sumG_add {d : Nat} : ∀ (gs : List Nat) (f g : Nat → Rat), sumG gs d (fun i => f i + g i) = sumG gs d f + sumG gs d g
  | [], _, _ => by unfold sumG; grind
  | x :: gs, f, g => by
    have i := sumG_add (d := d) gs (fun i => f (i + 1)) (fun i => g (i + 1))
    unfold sumG
    rw [i]
    by_cases e : x = d
    · rw [if_pos e, if_pos e, if_pos e]; grind
    · rw [if_neg e, if_neg e, if_neg e]; grind
theorem sumG_mul {d : Nat} : ∀ (gs : List Nat) (c : Rat) (f : Nat → Rat), sumG gs d (fun i => c * f i) = c * sumG gs d f
  | [], _, _ => by unfold sumG; grind
  | x :: gs, c, f => by
    have i := sumG_mul (d := d) gs c (fun i => f (i + 1))
    unfold sumG
    rw [i]
    by_cases e : x = d
    · rw [if_pos e, if_pos e]; grind
    · rw [if_neg e, if_neg e]; grind
theorem sumG_zero {d : Nat} : ∀ (gs : List Nat), sumG gs d (fun _ => 0) = 0
  | [] => rfl
  | x :: gs => by
    unfold sumG
    rw [sumG_zero gs]
    by_cases e : x = d
    · rw [if_pos e]; grind
    · rw [if_neg e]; grind
theorem sumG_le {d : Nat} : ∀ {gs : List Nat} {f g : Nat → Rat}, (∀ i, gs[i]? = some d → f i ≤ g i) → sumG gs d f ≤ sumG gs d g
  | [], _, _, _ => Rat.le_refl
  | x :: gs, f, g, h => by
    have i := sumG_le (gs := gs) (f := fun i => f (i + 1)) (g := fun i => g (i + 1)) fun i hi => h (i + 1) hi
    unfold sumG
    by_cases e : x = d
    · have := h 0 (by rw [e]; rfl)
      rw [if_pos e, if_pos e]; grind
    · rw [if_neg e, if_neg e]; grind
theorem sumG_lt {d : Nat} : ∀ {gs : List Nat} {f g : Nat → Rat} {j : Nat}, (∀ i, gs[i]? = some d → f i ≤ g i) → gs[j]? = some d → f j < g j → sumG gs d f < sumG gs d g
  | [], _, _, _, _, hj, _ => by simp at hj
  | x :: gs, f, g, 0, h, hj, hl => by
    have i := sumG_le (gs := gs) (f := fun i => f (i + 1)) (g := fun i => g (i + 1)) fun i hi => h (i + 1) hi
    have e : x = d := Option.some.inj hj
    unfold sumG
    rw [if_pos e, if_pos e]; grind
  | x :: gs, f, g, j + 1, h, hj, hl => by
    have i := sumG_lt (gs := gs) (f := fun i => f (i + 1)) (g := fun i => g (i + 1)) (j := j) (fun i hi => h (i + 1) hi) hj hl
    unfold sumG
    by_cases e : x = d
    · have := h 0 (by rw [e]; rfl)
      rw [if_pos e, if_pos e]; grind
    · rw [if_neg e, if_neg e]; grind
/-- no word of the group: nothing -/
theorem sumG_none {d : Nat} {gs : List Nat} {f : Nat → Rat} (h : ∀ i : Nat, gs[i]? ≠ some d) : sumG gs d f = 0 := by
  rw [← sumG_zero (d := d) gs]
  exact sumG_congr fun i hi => absurd hi (h i)
theorem getD_set {l : List Rat} {g d : Nat} {v : Rat} (hg : g < l.length) : (l.set g v).getD d 0 = if g = d then v else l.getD d 0 := by
  rw [List.getD_eq_getElem?_getD, List.getD_eq_getElem?_getD, List.getElem?_set]
  by_cases e : g = d
  · rw [if_pos e, if_pos e, if_pos (by omega)]
    rfl
  · rw [if_neg e, if_neg e]
theorem grp_getD : ∀ (r : List Rat) (gs : List Nat) (told : List Rat) (d : Nat), r.length = gs.length → (∀ g ∈ gs, g < told.length) → (grp r gs told).getD d 0 = told.getD d 0 + sumG gs d fun i => r.getD i 0
  | [], [], told, d, _, _ => by
    rw [grp]
    · unfold sumG; grind
    · simp
  | [], _ :: _, _, _, h, _ => by simp at h
  | _ :: _, [], _, _, h, _ => by simp at h
  | s :: r, g :: gs, told, d, h, hg => by
    have g0 := hg g (List.mem_cons_self ..)
    rw [grp, grp_getD r gs _ d (by simpa using h) (fun x hx => by rw [List.length_set]; exact hg x (List.mem_cons_of_mem _ hx)), getD_set g0]
    show _ = told.getD d 0 + ((if g = d then s else 0) + sumG gs d fun i => r.getD i 0)
    by_cases e : g = d
    · rw [if_pos e, if_pos e, e]; grind
    · rw [if_neg e, if_neg e]; grind
theorem rep_getD (dd d : Nat) : (List.replicate dd (0 : Rat)).getD d 0 = 0 := by
  rw [List.getD_eq_getElem?_getD, List.getElem?_replicate]
  by_cases h : d < dd
  · rw [if_pos h]; rfl
  · rw [if_neg h]; rfl
section
variable {gs : List Nat} {dd : Nat}
/-- the weight of a word of the advice, by any table -/
theorem wq_grp {d : Nat} : ∀ (rss : List (List Rat)) (qs : List Rat), (∀ r ∈ rss, r.length = gs.length) → (∀ g ∈ gs, g < dd) → wq (rss.map fun r => grp r gs (List.replicate dd 0)) qs d = sumG gs d fun i => wq rss qs i
  | [], qs, _, _ => by
    have e : ∀ i, wq [] qs i = 0 := fun i => by unfold wq prods; cases qs <;> rfl
    show wq [] qs d = _
    rw [e, ← sumG_zero (d := d) gs]
    exact sumG_congr fun i _ => (e i).symm
  | r :: rss, [], _, _ => by
    have e : ∀ (l : List (List Rat)) i, wq l [] i = 0 := fun l i => rfl
    rw [e, ← sumG_zero (d := d) gs]
    exact sumG_congr fun i _ => (e _ i).symm
  | r :: rss, q :: qs, hr, hg => by
    have i := wq_grp (d := d) rss qs (fun x hx => hr x (List.mem_cons_of_mem _ hx)) hg
    have a : ∀ x, wq (r :: rss) (q :: qs) x = q * r.getD x 0 + wq rss qs x := fun x => rfl
    show q * (grp r gs (List.replicate dd 0)).getD d 0 + wq (rss.map fun r => grp r gs (List.replicate dd 0)) qs d = _
    rw [i, grp_getD r gs _ d (hr r (List.mem_cons_self ..)) (fun g h => by rw [List.length_replicate]; exact hg g h), rep_getD, Rat.zero_add, ← sumG_mul, ← sumG_add]
    exact sumG_congr fun i _ => (a i).symm
theorem wq_adv {d e : Nat} : ∀ (rss xss : List (List Rat)) (qs : List Rat), (∀ r ∈ rss, r.length = gs.length) → (∀ g ∈ gs, g < dd) → wq xss (prods (rss.map fun r => grp r gs (List.replicate dd 0)) qs d) e = sumG gs d fun i => wq xss (prods rss qs i) e
  | [], xss, qs, _, _ => by
    have z : ∀ i, wq xss (prods [] qs i) e = 0 := fun i => by unfold wq prods; cases qs <;> cases xss <;> rfl
    show wq xss (prods [] qs d) e = _
    rw [z, ← sumG_zero (d := d) gs]
    exact sumG_congr fun i _ => (z i).symm
  | r :: rss, xss, [], _, _ => by
    have z : ∀ (l : List (List Rat)) i, wq xss (prods l [] i) e = 0 := fun l i => by unfold wq prods; cases xss <;> rfl
    rw [z, ← sumG_zero (d := d) gs]
    exact sumG_congr fun i _ => (z _ i).symm
  | r :: rss, [], q :: qs, _, _ => by
    have z : ∀ (l : List Rat), wq [] l e = 0 := fun l => by unfold wq prods; cases l <;> rfl
    rw [z, ← sumG_zero (d := d) gs]
    exact sumG_congr fun i _ => (z _).symm
  | r :: rss, x :: xss, q :: qs, hr, hg => by
    have i := wq_adv (d := d) (e := e) rss xss qs (fun x hx => hr x (List.mem_cons_of_mem _ hx)) hg
    have a : ∀ j, wq (x :: xss) (prods (r :: rss) (q :: qs) j) e = (q * x.getD e 0) * r.getD j 0 + wq xss (prods rss qs j) e := fun j => by
      show q * r.getD j 0 * x.getD e 0 + wq xss (prods rss qs j) e = _
      grind
    show q * (grp r gs (List.replicate dd 0)).getD d 0 * x.getD e 0 + wq xss (prods (rss.map fun r => grp r gs (List.replicate dd 0)) qs d) e = _
    rw [i, grp_getD r gs _ d (hr r (List.mem_cons_self ..)) (fun g h => by rw [List.length_replicate]; exact hg g h), rep_getD, Rat.zero_add]
    rw [show q * (sumG gs d fun i => r.getD i 0) * x.getD e 0 = (q * x.getD e 0) * (sumG gs d fun i => r.getD i 0) by grind, ← sumG_mul, ← sumG_add]
    exact sumG_congr fun i _ => (a i).symm
end
/-! ### who is done, by values -/
theorem best_sorted (hss : List (List Rat)) (ws : List Rat) (dd : Nat) : (bestL hss ws dd).Pairwise (· < ·) := List.Pairwise.filter _ List.pairwise_lt_range
theorem done_iff {key : Nat → Rat} {l : List Nat} {d : Nat} (hs : l.Pairwise (· < ·)) : IsDone key l d ↔ d ∈ l ∧ (∀ e ∈ l, key e ≤ key d) ∧ ∀ e ∈ l, e < d → key e < key d := by
  have ord : ∀ (i j : Nat) (a b : Nat), l[i]? = some a → l[j]? = some b → i < j → a < b := fun i j a b ha hb hij => by
    obtain ⟨h1, e1⟩ := List.getElem?_eq_some_iff.mp ha
    obtain ⟨h2, e2⟩ := List.getElem?_eq_some_iff.mp hb
    have := List.pairwise_iff_getElem.mp hs i j h1 h2 hij
    omega
  constructor
  · rintro ⟨j, h1, h2, h3⟩
    refine ⟨List.mem_of_getElem? h1, h2, fun e he hlt => ?_⟩
    obtain ⟨i, hi, ei⟩ := List.getElem_of_mem he
    have hi' : l[i]? = some e := by rw [List.getElem?_eq_getElem hi, ei]
    refine h3 i e ?_ hi'
    rcases Nat.lt_trichotomy i j with h | h | h
    · exact h
    · subst h
      rw [h1] at hi'
      cases hi'
      omega
    · have := ord j i d e h1 hi' h
      omega
  · rintro ⟨h1, h2, h3⟩
    obtain ⟨j, hj, ej⟩ := List.getElem_of_mem h1
    have hj' : l[j]? = some d := by rw [List.getElem?_eq_getElem hj, ej]
    exact ⟨j, hj', h2, fun i e hi he => h3 e (List.mem_of_getElem? he) (ord i j e d he hj' hi)⟩
theorem mem_best {hss : List (List Rat)} {ws : List Rat} {dd d : Nat} : d ∈ bestL hss ws dd ↔ d < dd ∧ ∀ e, e < dd → wq hss ws e ≤ wq hss ws d := by
  unfold bestL
  rw [List.mem_filter, List.mem_range, decide_eq_true_eq]
/-! ### a word that is never said weighs nothing -/
theorem sum_zero_all : ∀ {l : List Rat}, (∀ x ∈ l, 0 ≤ x) → l.sum = 0 → ∀ x ∈ l, x = 0
  | [], _, _, x, hx => by simp at hx
  | a :: l, h, hs, x, hx => by
    have h0 := h a (List.mem_cons_self ..)
    have h1 : 0 ≤ l.sum := sum_nonneg' fun y hy => h y (List.mem_cons_of_mem _ hy)
    rw [List.sum_cons] at hs
    have ha : a = 0 := by grind
    have hl : l.sum = 0 := by grind
    rcases List.mem_cons.mp hx with rfl | hx
    · exact ha
    · exact sum_zero_all (fun y hy => h y (List.mem_cons_of_mem _ hy)) hl x hx
theorem wq_zeros {e : Nat} : ∀ {xss : List (List Rat)} {ws : List Rat}, (∀ x ∈ ws, x = 0) → wq xss ws e = 0
  | [], ws, _ => by unfold wq prods; cases ws <;> rfl
  | x :: xss, [], _ => rfl
  | x :: xss, w :: ws, h => by
    have i := wq_zeros (e := e) (xss := xss) (ws := ws) fun y hy => h y (List.mem_cons_of_mem _ hy)
    show w * x.getD e 0 + wq xss ws e = 0
    rw [i, h w (List.mem_cons_self ..)]
    grind
theorem unsaid {qs : List Rat} {rss xss : List (List Rat)} {i e : Nat} (h1 : ∀ q ∈ qs, 0 ≤ q) (h2 : ∀ r ∈ rss, ∀ q ∈ r, 0 ≤ q) (h : wq rss qs i = 0) : wq xss (prods rss qs i) e = 0 :=
  wq_zeros (sum_zero_all (prods_nn h1 h2) h)
/-! ### the advice made of words is followed -/
section
variable {qs : List Rat} {hss tss rss : List (List Rat)} {dd mm : Nat} {hard : Bool}
theorem adv_len (hr : ∀ r ∈ rss, r.length = mm) : ∀ r ∈ rss, r.length = (grpsL qs hss tss rss dd mm hard).length := fun r h => by rw [grpsL_len]; exact hr r h
/-- of a word of the group: it is never said, or d is done behind it -/
theorem grp_word {i d : Nat} (h : (grpsL qs hss tss rss dd mm hard)[i]? = some d) (d1 : 1 ≤ dd) : wq rss qs i = 0 ∨ (wq rss qs i ≠ 0 ∧ IsDone (keyT tss (prods rss qs i) hard) (bestL hss (prods rss qs i) dd) d) := by
  have him : i < mm := by
    have := (List.getElem?_eq_some_iff.mp h).1
    rw [grpsL_len] at this
    exact this
  rw [grpsL_at him] at h
  by_cases z : wq rss qs i = 0
  · exact .inl z
  · refine .inr ⟨z, ?_⟩
    obtain ⟨e, a, b⟩ := doneF_ok (key := keyT tss (prods rss qs i) hard) (bestL hss (prods rss qs i) dd).length (bestL hss (prods rss qs i) dd) rfl (best_ne' d1)
    unfold wordD at h
    rw [if_neg z, a] at h
    cases h
    exact b
theorem keyT_adv {d e : Nat} {gs : List Nat} (hr : ∀ r ∈ rss, r.length = gs.length) (hg : ∀ g ∈ gs, g < dd) : keyT tss (prods (rss.map fun r => grp r gs (List.replicate dd 0)) qs d) hard e = sumG gs d fun i => keyT tss (prods rss qs i) hard e := by
  have a := wq_adv (d := d) (e := e) rss tss qs hr hg
  cases hard with
  | false => exact a
  | true =>
    show 0 - _ = _
    rw [a, show (0 : Rat) - (sumG gs d fun i => wq tss (prods rss qs i) e) = (-1) * (sumG gs d fun i => wq tss (prods rss qs i) e) by grind, ← sumG_mul]
    refine sumG_congr fun i _ => ?_
    show _ = 0 - wq tss (prods rss qs i) e
    grind
/-- the deed that is advised is best, whether the word is said or not -/
theorem adv_best {d e : Nat} (h1 : ∀ q ∈ qs, 0 ≤ q) (h2 : ∀ r ∈ rss, ∀ q ∈ r, 0 ≤ q) (hr : ∀ r ∈ rss, r.length = mm) (d1 : 1 ≤ dd) (he : e < dd) : wq hss (prods (advR qs hss tss rss dd mm hard) qs d) e ≤ wq hss (prods (advR qs hss tss rss dd mm hard) qs d) d := by
  unfold advR
  rw [wq_adv rss hss qs (adv_len hr) (grpsL_lt d1), wq_adv rss hss qs (adv_len hr) (grpsL_lt d1)]
  refine sumG_le fun i hi => ?_
  rcases grp_word hi d1 with z | ⟨_, hd⟩
  · rw [unsaid h1 h2 z, unsaid h1 h2 z]
    exact Rat.le_refl
  · exact (mem_best.mp hd.mem).2 e he
theorem adv_followed (h1 : ∀ q ∈ qs, 0 ≤ q) (h2 : ∀ r ∈ rss, ∀ q ∈ r, 0 ≤ q) (hr : ∀ r ∈ rss, r.length = mm) (d1 : 1 ≤ dd) : faultsL qs hss (advR qs hss tss rss dd mm hard) dd dd = [] := by
  unfold faultsL
  rw [List.flatMap_eq_nil_iff]
  intro d _
  unfold faultD
  rw [List.filterMap_eq_nil_iff]
  intro e he
  refine if_neg fun z => ?_
  rw [lead_wq] at z
  have := adv_best (qs := qs) (hss := hss) (tss := tss) (rss := rss) (hard := hard) (d := d) h1 h2 hr d1 (List.mem_range.mp he)
  grind
/-- behind each word of the advice that is said, its own deed is done -/
theorem adv_done {d : Nat} (h1 : ∀ q ∈ qs, 0 ≤ q) (h2 : ∀ r ∈ rss, ∀ q ∈ r, 0 ≤ q) (hr : ∀ r ∈ rss, r.length = mm) (d1 : 1 ≤ dd) (hd : d < dd) (hn : wq (advR qs hss tss rss dd mm hard) qs d ≠ 0) : wordD qs hss tss (advR qs hss tss rss dd mm hard) dd hard d = some d := by
  refine word_some hn ((done_iff (best_sorted _ _ _)).mpr ⟨mem_best.mpr ⟨hd, fun e he => adv_best h1 h2 hr d1 he⟩, fun e he => ?_, fun e he hlt => ?_⟩)
  all_goals
    have eb := mem_best.mp he
    have same : ∀ i : Nat, (grpsL qs hss tss rss dd mm hard)[i]? = some d → wq hss (prods rss qs i) d ≤ wq hss (prods rss qs i) e := fun i hi => Rat.not_lt.mp fun z => by
      have lt : wq hss (prods (advR qs hss tss rss dd mm hard) qs d) e < wq hss (prods (advR qs hss tss rss dd mm hard) qs d) d := by
        unfold advR
        rw [wq_adv rss hss qs (adv_len hr) (grpsL_lt d1), wq_adv rss hss qs (adv_len hr) (grpsL_lt d1)]
        refine sumG_lt (j := i) (fun j hj => ?_) hi z
        rcases grp_word hj d1 with y | ⟨_, hy⟩
        · rw [unsaid h1 h2 y, unsaid h1 h2 y]
          exact Rat.le_refl
        · exact (mem_best.mp hy.mem).2 e eb.1
      exact absurd lt (Rat.not_lt.mpr (eb.2 d hd))
    have alike : ∀ i : Nat, IsDone (keyT tss (prods rss qs i) hard) (bestL hss (prods rss qs i) dd) d → (grpsL qs hss tss rss dd mm hard)[i]? = some d → e ∈ bestL hss (prods rss qs i) dd := fun i hi hg => mem_best.mpr ⟨eb.1, fun x hx => Rat.le_trans ((mem_best.mp hi.mem).2 x hx) (same i hg)⟩
    have le : ∀ i : Nat, (grpsL qs hss tss rss dd mm hard)[i]? = some d → keyT tss (prods rss qs i) hard e ≤ keyT tss (prods rss qs i) hard d := fun i hi => by
      rcases grp_word hi d1 with y | ⟨_, hy⟩
      · have z : ∀ x, keyT tss (prods rss qs i) hard x = 0 := fun x => by
          unfold keyT
          rw [unsaid h1 h2 y]
          cases hard with
          | false => rfl
          | true => rw [if_pos rfl]; grind
        rw [z, z]
        exact Rat.le_refl
      · exact ((done_iff (best_sorted _ _ _)).mp hy).2.1 e (alike i hy hi)
    unfold advR
    rw [keyT_adv (adv_len hr) (grpsL_lt d1), keyT_adv (adv_len hr) (grpsL_lt d1)]
  · exact sumG_le le
  · obtain ⟨i, hi, hs⟩ : ∃ i : Nat, (grpsL qs hss tss rss dd mm hard)[i]? = some d ∧ wq rss qs i ≠ 0 := by
      refine Classical.byContradiction fun z => hn ?_
      unfold advR
      rw [wq_grp rss qs (adv_len hr) (grpsL_lt d1), ← sumG_zero (d := d) (grpsL qs hss tss rss dd mm hard)]
      refine sumG_congr fun i hi => Classical.byContradiction fun y => z ⟨i, hi, y⟩
    rcases grp_word hi d1 with y | ⟨_, hy⟩
    · exact absurd y hs
    · exact sumG_lt le hi (((done_iff (best_sorted _ _ _)).mp hy).2.2 e (alike i hy hi) hlt)
end
/-! ### gains by the advice -/
def sumI : List Nat → (Nat → Nat → Rat) → Rat
  | [], _ => 0
  | g :: gs, f => f 0 g + sumI gs fun i => f (i + 1)
theorem sum_pick (g : Nat) (f : Nat → Rat) : ∀ k : Nat, ((List.range k).map fun d => if g = d then f d else 0).sum = if g < k then f g else 0
  | 0 => rfl
  | k + 1 => by
    rw [List.range_succ, List.map_append, List.sum_append, sum_pick g f k, List.map_singleton, List.sum_singleton]
    by_cases e : g = k
    · subst e
      rw [if_neg (Nat.lt_irrefl _), if_pos rfl, if_pos (Nat.lt_succ_self _)]; grind
    · by_cases h : g < k
      · rw [if_pos h, if_neg e, if_pos (by omega)]; grind
      · rw [if_neg h, if_neg e, if_neg (by omega)]; grind
theorem sum_map_add (f g : Nat → Rat) : ∀ l : List Nat, (l.map fun d => f d + g d).sum = (l.map f).sum + (l.map g).sum
  | [] => by show (0 : Rat) = 0 + 0; grind
  | x :: l => by
    rw [List.map_cons, List.map_cons, List.map_cons, List.sum_cons, List.sum_cons, List.sum_cons, sum_map_add f g l]
    grind
theorem sum_map_zero : ∀ l : List Nat, (l.map fun _ => (0 : Rat)).sum = 0
  | [] => rfl
  | x :: l => by
    rw [List.map_cons, List.sum_cons, sum_map_zero l]
    grind
theorem sumG_total {dd : Nat} : ∀ (gs : List Nat) (f : Nat → Nat → Rat), (∀ g ∈ gs, g < dd) → ((List.range dd).map fun d => sumG gs d fun i => f i d).sum = sumI gs f
  | [], f, _ => sum_map_zero _
  | g :: gs, f, h => by
    have i := sumG_total gs (fun i => f (i + 1)) fun x hx => h x (List.mem_cons_of_mem _ hx)
    show ((List.range dd).map fun d => (if g = d then f 0 d else 0) + sumG gs d fun i => f (i + 1) d).sum = f 0 g + sumI gs fun i => f (i + 1)
    rw [sum_map_add, i, sum_pick g (f 0) dd, if_pos (h g (List.mem_cons_self ..))]
theorem sumI_range : ∀ (gs : List Nat) (f : Nat → Nat → Rat), sumI gs f = ((List.range gs.length).map fun i => f i (gs.getD i 0)).sum
  | [], f => rfl
  | g :: gs, f => by
    rw [List.length_cons, List.range_succ_eq_map, List.map_cons, List.sum_cons, List.map_map]
    show f 0 g + sumI gs (fun i => f (i + 1)) = _
    rw [sumI_range gs]
    rfl
section
variable {qs : List Rat} {hss tss rss xss : List (List Rat)} {dd mm : Nat} {hard : Bool}
theorem gain_word {i : Nat} (h1 : ∀ q ∈ qs, 0 ≤ q) (h2 : ∀ r ∈ rss, ∀ q ∈ r, 0 ≤ q) (d1 : 1 ≤ dd) (him : i < mm) : gainW xss qs hss tss rss dd hard i = wq xss (prods rss qs i) ((grpsL qs hss tss rss dd mm hard).getD i 0) := by
  rw [List.getD_eq_getElem?_getD, grpsL_at him]
  by_cases z : wq rss qs i = 0
  · rw [gainW_none z, unsaid h1 h2 z]
  · unfold gainW
    cases e : wordD qs hss tss rss dd hard i with
    | none =>
      exfalso
      unfold wordD at e
      rw [if_neg z] at e
      obtain ⟨d, a, _⟩ := doneF_ok (key := keyT tss (prods rss qs i) hard) (bestL hss (prods rss qs i) dd).length (bestL hss (prods rss qs i) dd) rfl (best_ne' d1)
      rw [a] at e
      cases e
    | some d => rfl
theorem gain_adv {d : Nat} (h1 : ∀ q ∈ qs, 0 ≤ q) (h2 : ∀ r ∈ rss, ∀ q ∈ r, 0 ≤ q) (h3 : ∀ r ∈ advR qs hss tss rss dd mm hard, ∀ q ∈ r, 0 ≤ q) (hr : ∀ r ∈ rss, r.length = mm) (d1 : 1 ≤ dd) (hd : d < dd) : gainW xss qs hss tss (advR qs hss tss rss dd mm hard) dd hard d = wq xss (prods (advR qs hss tss rss dd mm hard) qs d) d := by
  by_cases z : wq (advR qs hss tss rss dd mm hard) qs d = 0
  · rw [gainW_none z, unsaid h1 h3 z]
  · unfold gainW
    rw [adv_done h1 h2 hr d1 hd z]
/-- the advice gains what the words did -/
theorem gains_adv (h1 : ∀ q ∈ qs, 0 ≤ q) (h2 : ∀ r ∈ rss, ∀ q ∈ r, 0 ≤ q) (h3 : ∀ r ∈ advR qs hss tss rss dd mm hard, ∀ q ∈ r, 0 ≤ q) (hr : ∀ r ∈ rss, r.length = mm) (d1 : 1 ≤ dd) : gainT xss qs hss tss (advR qs hss tss rss dd mm hard) dd dd hard = gainT xss qs hss tss rss dd mm hard := by
  have e1 : gainT xss qs hss tss (advR qs hss tss rss dd mm hard) dd dd hard = ((List.range dd).map fun d => sumG (grpsL qs hss tss rss dd mm hard) d fun i => wq xss (prods rss qs i) d).sum := by
    unfold gainT
    congr 1
    refine List.map_congr_left fun d hd => ?_
    rw [gain_adv h1 h2 h3 hr d1 (List.mem_range.mp hd)]
    exact wq_adv rss xss qs (adv_len hr) (grpsL_lt d1)
  rw [e1, sumG_total _ (fun i d => wq xss (prods rss qs i) d) (grpsL_lt d1), sumI_range, grpsL_len]
  unfold gainT
  congr 1
  exact List.map_congr_left fun i hi => (gain_word h1 h2 d1 (List.mem_range.mp hi)).symm
/-- a word of the advice, none but the first, that is never said: it stands nowhere -/
theorem adv_silent {d : Nat} (h1 : ∀ q ∈ qs, 0 ≤ q) (h2 : ∀ r ∈ rss, ∀ q ∈ r, 0 ≤ q) (hr : ∀ r ∈ rss, r.length = mm) (d1 : 1 ≤ dd) (h0 : d ≠ 0) (hz : wq (advR qs hss tss rss dd mm hard) qs d = 0) : ∀ i : Nat, (grpsL qs hss tss rss dd mm hard)[i]? ≠ some d := fun i hi => by
  rcases grp_word hi d1 with y | ⟨y, _⟩
  · have him : i < mm := by
      have := (List.getElem?_eq_some_iff.mp hi).1
      rw [grpsL_len] at this
      exact this
    rw [grpsL_at him, word_none y] at hi
    exact h0 (Option.some.inj hi).symm
  · unfold advR at hz
    rw [wq_grp rss qs (adv_len hr) (grpsL_lt d1), ← sumG_zero (d := d) (grpsL qs hss tss rss dd mm hard)] at hz
    have pos : ∀ j : Nat, 0 ≤ wq rss qs j := fun j => sum_nonneg' (prods_nn h1 h2)
    have lt := sumG_lt (gs := grpsL qs hss tss rss dd mm hard) (f := fun _ => 0) (g := fun j => wq rss qs j) (fun j _ => pos j) hi (wq_pos h1 h2 y)
    rw [hz] at lt
    exact absurd lt (Rat.not_lt.mpr Rat.le_refl)
end
/-! ### advice made of advice -/
theorem sumG_pick {d : Nat} (c : Rat) : ∀ (gs : List Nat) (k : Nat), sumG gs d (fun i => if i = k then c else 0) = if gs[k]? = some d then c else 0
  | [], k => by
    rw [if_neg (by simp)]
    rfl
  | g :: gs, 0 => by
    have z : sumG gs d (fun i => if i + 1 = 0 then c else 0) = 0 := by
      refine Eq.trans (sumG_congr (g := fun _ => 0) fun i _ => ?_) (sumG_zero gs)
      show (if i + 1 = 0 then c else 0) = 0
      exact if_neg (by omega)
    show (if g = d then (if (0 : Nat) = 0 then c else 0) else 0) + sumG gs d (fun i => if i + 1 = 0 then c else 0) = _
    rw [z, if_pos (rfl : (0 : Nat) = 0)]
    by_cases e : g = d
    · rw [if_pos e, if_pos (by rw [e]; rfl)]; grind
    · rw [if_neg e, if_neg (show ¬ (g :: gs)[0]? = some d from fun h => e (Option.some.inj h))]; grind
  | g :: gs, k + 1 => by
    have z : sumG gs d (fun i => if i + 1 = k + 1 then c else 0) = if gs[k]? = some d then c else 0 := by
      rw [← sumG_pick c gs k]
      refine sumG_congr fun i _ => ?_
      show (if i + 1 = k + 1 then c else 0) = if i = k then c else 0
      by_cases e : i = k
      · rw [if_pos e, if_pos (by omega)]
      · rw [if_neg e, if_neg (by omega)]
    show (if g = d then (if (0 : Nat) = k + 1 then c else 0) else 0) + sumG gs d (fun i => if i + 1 = k + 1 then c else 0) = if gs[k]? = some d then c else 0
    rw [z, if_neg (by omega : ¬ (0 : Nat) = k + 1)]
    by_cases e : g = d
    · rw [if_pos e]; grind
    · rw [if_neg e]; grind
theorem sumG_single {d : Nat} {gs : List Nat} {f : Nat → Rat} (h1 : ∀ i : Nat, i ≠ d → gs[i]? = some d → f i = 0) (h2 : gs[d]? = some d ∨ f d = 0) : sumG gs d f = f d := by
  have e : sumG gs d f = sumG gs d fun i => if i = d then f d else 0 := sumG_congr fun i hi => by
    by_cases e : i = d
    · rw [if_pos e, e]
    · rw [if_neg e, h1 i e hi]
  rw [e, sumG_pick]
  rcases h2 with h | h
  · rw [if_pos h]
  · rw [h]
    by_cases z : gs[d]? = some d
    · rw [if_pos z]
    · rw [if_neg z]
theorem ext_getD {a b : List Rat} (hl : a.length = b.length) (h : ∀ d, a.getD d 0 = b.getD d 0) : a = b := by
  refine List.ext_getElem hl fun i h1 h2 => ?_
  have := h i
  rw [List.getD_eq_getElem?_getD, List.getD_eq_getElem?_getD, List.getElem?_eq_getElem h1, List.getElem?_eq_getElem h2] at this
  exact this
section
variable {qs : List Rat} {hss tss rss : List (List Rat)} {dd mm : Nat} {hard : Bool}
theorem adv_again (h1 : ∀ q ∈ qs, 0 ≤ q) (h2 : ∀ r ∈ rss, ∀ q ∈ r, 0 ≤ q) (hr : ∀ r ∈ rss, r.length = mm) (d1 : 1 ≤ dd) : advR qs hss tss (advR qs hss tss rss dd mm hard) dd dd hard = advR qs hss tss rss dd mm hard := by
  have say : ∀ d, d < dd → (grpsL qs hss tss (advR qs hss tss rss dd mm hard) dd dd hard)[d]? = some (if wq (advR qs hss tss rss dd mm hard) qs d = 0 then 0 else d) := fun d hd => by
    rw [grpsL_at hd]
    by_cases z : wq (advR qs hss tss rss dd mm hard) qs d = 0
    · rw [word_none z, if_pos z]
      rfl
    · rw [adv_done h1 h2 hr d1 hd z, if_neg z]
      rfl
  have row : ∀ r ∈ advR qs hss tss rss dd mm hard, r.length = dd ∧ ∀ d, d ≠ 0 → wq (advR qs hss tss rss dd mm hard) qs d = 0 → r.getD d 0 = 0 := fun r hr' => by
    unfold advR at hr'
    obtain ⟨r0, h0, rfl⟩ := List.mem_map.mp hr'
    refine ⟨by rw [grp_len, List.length_replicate], fun d hd z => ?_⟩
    rw [grp_getD r0 _ _ d (adv_len hr r0 h0) (fun g h => by rw [List.length_replicate]; exact grpsL_lt d1 g h), rep_getD, sumG_none (adv_silent h1 h2 hr d1 hd z)]
    grind
  have key : ∀ r ∈ advR qs hss tss rss dd mm hard, grp r (grpsL qs hss tss (advR qs hss tss rss dd mm hard) dd dd hard) (List.replicate dd 0) = r := fun r hr' => by
    obtain ⟨rl, rz⟩ := row r hr'
    refine ext_getD (by rw [grp_len, List.length_replicate, rl]) fun d => ?_
    rw [grp_getD r _ _ d (by rw [rl, grpsL_len]) (fun g h => by rw [List.length_replicate]; exact grpsL_lt d1 g h), rep_getD, Rat.zero_add]
    refine sumG_single (fun i hi hg => ?_) ?_
    · have hid : i < dd := by
        have := (List.getElem?_eq_some_iff.mp hg).1
        rw [grpsL_len] at this
        exact this
      rw [say i hid] at hg
      have e := Option.some.inj hg
      by_cases z : wq (advR qs hss tss rss dd mm hard) qs i = 0
      · rw [if_pos z] at e
        exact rz i (by omega) z
      · rw [if_neg z] at e
        exact absurd e hi
    · by_cases hd : d < dd
      · rw [say d hd]
        by_cases z : wq (advR qs hss tss rss dd mm hard) qs d = 0
        · rw [if_pos z]
          by_cases d0 : d = 0
          · exact .inl (by rw [d0])
          · exact .inr (rz d d0 z)
        · rw [if_neg z]
          exact .inl rfl
      · refine .inr ?_
        rw [List.getD_eq_getElem?_getD, List.getElem?_eq_none (by omega)]
        rfl
  show (advR qs hss tss rss dd mm hard).map (fun r => grp r (grpsL qs hss tss (advR qs hss tss rss dd mm hard) dd dd hard) (List.replicate dd 0)) = _
  refine Eq.trans (List.map_congr_left (g := id) fun r h => key r h) ?_
  rw [List.map_id]
end
/-! ### advice that is followed gains what it tells -/
def dueT (xss : List (List Rat)) (qs : List Rat) (rss : List (List Rat)) (dd : Nat) : Rat := ((List.range dd).map fun a => wq xss (prods rss qs a) a).sum
theorem sum_map_le {f g : Nat → Rat} : ∀ {l : List Nat}, (∀ x ∈ l, f x ≤ g x) → (l.map f).sum ≤ (l.map g).sum
  | [], _ => Rat.le_refl
  | x :: l, h => by
    have i := sum_map_le (l := l) fun y hy => h y (List.mem_cons_of_mem _ hy)
    have := h x (List.mem_cons_self ..)
    rw [List.map_cons, List.map_cons, List.sum_cons, List.sum_cons]
    grind
section
variable {qs : List Rat} {hss tss rss xss : List (List Rat)} {dd mm : Nat} {hard : Bool}
theorem due_adv (h1 : ∀ q ∈ qs, 0 ≤ q) (h2 : ∀ r ∈ rss, ∀ q ∈ r, 0 ≤ q) (h3 : ∀ r ∈ advR qs hss tss rss dd mm hard, ∀ q ∈ r, 0 ≤ q) (hr : ∀ r ∈ rss, r.length = mm) (d1 : 1 ≤ dd) : gainT xss qs hss tss (advR qs hss tss rss dd mm hard) dd dd hard = dueT xss qs (advR qs hss tss rss dd mm hard) dd := by
  unfold gainT dueT
  congr 1
  exact List.map_congr_left fun d hd => gain_adv h1 h2 h3 hr d1 (List.mem_range.mp hd)
theorem fol_best (h : faultsL qs hss rss dd dd = []) {a e : Nat} (ha : a < dd) (he : e < dd) : wq hss (prods rss qs a) e ≤ wq hss (prods rss qs a) a := by
  unfold faultsL at h
  rw [List.flatMap_eq_nil_iff] at h
  have h' := h a (List.mem_range.mpr ha)
  unfold faultD at h'
  rw [List.filterMap_eq_nil_iff] at h'
  have z := h' e (List.mem_range.mpr he)
  by_cases c : 0 < leadQ hss (prods rss qs a) e a
  · rw [if_pos c] at z
    cases z
  · rw [lead_wq] at c
    have := Rat.not_lt.mp c
    grind
/-- what is done behind a word that is said -/
theorem said_done {a : Nat} (d1 : 1 ≤ dd) (hn : wq rss qs a ≠ 0) : ∃ d, wordD qs hss tss rss dd hard a = some d ∧ IsDone (keyT tss (prods rss qs a) hard) (bestL hss (prods rss qs a) dd) d := by
  obtain ⟨d, x, y⟩ := doneF_ok (key := keyT tss (prods rss qs a) hard) (bestL hss (prods rss qs a) dd).length (bestL hss (prods rss qs a) dd) rfl (best_ne' d1)
  refine ⟨d, ?_, y⟩
  unfold wordD
  rw [if_neg hn, x]
theorem fol_hearer (h1 : ∀ q ∈ qs, 0 ≤ q) (h2 : ∀ r ∈ rss, ∀ q ∈ r, 0 ≤ q) (d1 : 1 ≤ dd) (h : faultsL qs hss rss dd dd = []) : gainT hss qs hss tss rss dd dd hard = dueT hss qs rss dd := by
  unfold gainT dueT
  congr 1
  refine List.map_congr_left fun a ha => ?_
  have ha := List.mem_range.mp ha
  by_cases z : wq rss qs a = 0
  · rw [gainW_none z, unsaid h1 h2 z]
  · obtain ⟨d, e1, e2⟩ := said_done (hss := hss) (tss := tss) (hard := hard) d1 z
    unfold gainW
    rw [e1]
    have m := mem_best.mp e2.mem
    exact Rat.le_antisymm (fol_best h ha m.1) (m.2 a ha)
theorem fol_teller (h1 : ∀ q ∈ qs, 0 ≤ q) (h2 : ∀ r ∈ rss, ∀ q ∈ r, 0 ≤ q) (d1 : 1 ≤ dd) (h : faultsL qs hss rss dd dd = []) : dueT tss qs rss dd ≤ gainT tss qs hss tss rss dd dd false := by
  unfold gainT dueT
  refine sum_map_le fun a ha => ?_
  have ha := List.mem_range.mp ha
  by_cases z : wq rss qs a = 0
  · rw [gainW_none z, unsaid h1 h2 z]
    exact Rat.le_refl
  · obtain ⟨d, e1, e2⟩ := said_done (hss := hss) (tss := tss) (hard := false) d1 z
    unfold gainW
    rw [e1]
    exact ((done_iff (best_sorted _ _ _)).mp e2).2.1 a (mem_best.mpr ⟨ha, fun e he => fol_best h ha he⟩)
end
/-! ### how often a deed is done in a world -/
def oftF (f : Nat → Option Nat) (r : List Rat) (act k : Nat) : Rat := ((List.range k).map fun i => if f i = some act then r.getD i 0 else 0).sum
theorem sumG_range {d : Nat} : ∀ (gs : List Nat) (f : Nat → Rat), sumG gs d f = ((List.range gs.length).map fun i => if gs.getD i 0 = d then f i else 0).sum
  | [], f => rfl
  | g :: gs, f => by
    rw [List.length_cons, List.range_succ_eq_map, List.map_cons, List.sum_cons, List.map_map]
    show (if g = d then f 0 else 0) + sumG gs d (fun i => f (i + 1)) = _
    rw [sumG_range gs]
    rfl
theorem row_zero {qs : List Rat} {rss : List (List Rat)} {w i : Nat} {q : Rat} {r : List Rat} (h1 : ∀ q ∈ qs, 0 ≤ q) (h2 : ∀ r ∈ rss, ∀ q ∈ r, 0 ≤ q) (hq : qs[w]? = some q) (hr : rss[w]? = some r) (hp : 0 < q) (hz : wq rss qs i = 0) : r.getD i 0 = 0 := by
  have e := sum_zero_all (prods_nn h1 h2) hz _ (List.mem_of_getElem? (prods_at (d := i) hq hr))
  rcases Rat.mul_eq_zero.mp e with z | z
  · rw [z] at hp
    exact absurd hp (Rat.not_lt.mpr Rat.le_refl)
  · exact z
section
variable {qs : List Rat} {hss tss rss : List (List Rat)} {dd mm w act : Nat} {hard : Bool} {q : Rat} {r : List Rat}
theorem oft_words (h1 : ∀ q ∈ qs, 0 ≤ q) (h2 : ∀ r ∈ rss, ∀ q ∈ r, 0 ≤ q) (d1 : 1 ≤ dd) (hq : qs[w]? = some q) (hr : rss[w]? = some r) (hp : 0 < q) : oftF (wordD qs hss tss rss dd hard) r act mm = sumG (grpsL qs hss tss rss dd mm hard) act fun i => r.getD i 0 := by
  rw [sumG_range, grpsL_len]
  unfold oftF
  congr 1
  refine List.map_congr_left fun i hi => ?_
  have hi := List.mem_range.mp hi
  have eg : (grpsL qs hss tss rss dd mm hard).getD i 0 = (wordD qs hss tss rss dd hard i).getD 0 := by rw [List.getD_eq_getElem?_getD, grpsL_at hi]; rfl
  rw [eg]
  by_cases z : wq rss qs i = 0
  · rw [row_zero h1 h2 hq hr hp z]
    by_cases a : wordD qs hss tss rss dd hard i = some act <;> by_cases b : (wordD qs hss tss rss dd hard i).getD 0 = act <;> simp [a, b]
  · obtain ⟨d, e, _⟩ := said_done (hss := hss) (tss := tss) (hard := hard) d1 z
    rw [e]
    show (if some d = some act then _ else _) = if d = act then _ else _
    by_cases a : d = act
    · rw [if_pos (by rw [a]), if_pos a]
    · rw [if_neg (fun x => a (Option.some.inj x)), if_neg a]
theorem oft_adv (h1 : ∀ q ∈ qs, 0 ≤ q) (h2 : ∀ r ∈ rss, ∀ q ∈ r, 0 ≤ q) (h3 : ∀ r ∈ advR qs hss tss rss dd mm hard, ∀ q ∈ r, 0 ≤ q) (hl : ∀ r ∈ rss, r.length = mm) (d1 : 1 ≤ dd) (hq : qs[w]? = some q) (hr : (advR qs hss tss rss dd mm hard)[w]? = some r) (hp : 0 < q) (ha : act < dd) : oftF (wordD qs hss tss (advR qs hss tss rss dd mm hard) dd hard) r act dd = r.getD act 0 := by
  have e : oftF (wordD qs hss tss (advR qs hss tss rss dd mm hard) dd hard) r act dd = ((List.range dd).map fun d => if act = d then r.getD act 0 else 0).sum := by
    unfold oftF
    congr 1
    refine List.map_congr_left fun d hd => ?_
    have hd := List.mem_range.mp hd
    by_cases z : wq (advR qs hss tss rss dd mm hard) qs d = 0
    · rw [word_none z, if_neg (by simp)]
      by_cases a : act = d
      · rw [if_pos a, a, row_zero h1 h3 hq hr hp z]
      · rw [if_neg a]
    · rw [adv_done h1 h2 hl d1 hd z]
      by_cases a : act = d
      · rw [if_pos a, if_pos (by rw [a]), a]
      · rw [if_neg a, if_neg (fun x => a (Option.some.inj x).symm)]
  rw [e, sum_pick act (fun _ => r.getD act 0) dd, if_pos ha]
/-- in each world with a share each deed is done as often -/
theorem oft_alike (h1 : ∀ q ∈ qs, 0 ≤ q) (h2 : ∀ r ∈ rss, ∀ q ∈ r, 0 ≤ q) (h3 : ∀ r ∈ advR qs hss tss rss dd mm hard, ∀ q ∈ r, 0 ≤ q) (hl : ∀ r ∈ rss, r.length = mm) (d1 : 1 ≤ dd) (hq : qs[w]? = some q) (hr : rss[w]? = some r) (hp : 0 < q) (ha : act < dd) :
    oftF (wordD qs hss tss rss dd hard) r act mm = oftF (wordD qs hss tss (advR qs hss tss rss dd mm hard) dd hard) (grp r (grpsL qs hss tss rss dd mm hard) (List.replicate dd 0)) act dd := by
  have hr' : (advR qs hss tss rss dd mm hard)[w]? = some (grp r (grpsL qs hss tss rss dd mm hard) (List.replicate dd 0)) := by
    unfold advR
    rw [List.getElem?_map, hr]
    rfl
  rw [oft_words h1 h2 d1 hq hr hp, oft_adv h1 h2 h3 hl d1 hq hr' hp ha, grp_getD r _ _ act (adv_len hl r (List.mem_of_getElem? hr)) (fun g h => by rw [List.length_replicate]; exact grpsL_lt d1 g h), rep_getD]
  grind
end
end Hr

set_option Elab.async false
set_option linter.all false
set_option maxRecDepth 100000
set_option maxHeartbeats 4000000
namespace Hr
open PySem PySem.Spec PyProof.Rows L2 BX EXB Co Ru
open Dz Cs
open Fr (Bd)
/-! ### words put together, with a bound that is known of the values -/
def spGrpRowB (K : PySem.W.Frag) : Sp := fun vs H Q _ => ∃ (r gl : Addr) (cs : List V) (qs : List Rat) (gs : List Nat) (n many : Nat), vs = [.ref r, .ref gl, .int (many : Int)] ∧ H r = some (.lst cs) ∧ FrN K H n cs qs ∧ H gl = some (.lst (gv gs)) ∧ gs.length = qs.length ∧ qs.length ≤ 30 ∧ (∀ g ∈ gs, g < many) ∧ many ≤ 30 ∧ (n + 1) * qs.length ≤ 4000 ∧
  ∀ D cs' H', Same H H' → H D = none → H' D = some (.lst cs') → FrN K H' (1 + (n + 1) * qs.length) cs' (grp qs gs (List.replicate many 0)) → Q (.ref D) H'
def spGroupedB (K : PySem.W.Frag) (C : Addr) : Sp := fun vs H Q _ => ∃ (x gl : Addr) (rss : List (List Rat)) (gs : List Nat) (n m many b : Nat), vs = [.ref x, .ref gl, .int (many : Int)] ∧ IsRule K H C x rss n ∧ Good rss m ∧ H gl = some (.lst (gv gs)) ∧ gs.length = m ∧ (∀ g ∈ gs, g < many) ∧ 1 ≤ many ∧ many ≤ 30 ∧ (n + 1) * m ≤ 4000 ∧ b ≤ 280 ∧ (∀ r ∈ rss, ∀ q ∈ grp r gs (List.replicate many 0), Bd b q) ∧
  ∀ x H', Same H H' → H x = none → IsRule K H' C x (rss.map fun qs => grp qs gs (List.replicate many 0)) b → Q (.ref x) H'
def spAdvisedB (K : PySem.W.Frag) (C CR : Addr) : Sp := fun vs H Q _ => ∃ (x y : Addr) (hard : Bool) (qs : List Rat) (hss tss rss : List (List Rat)) (n m ww dd mm b : Nat), vs = [.ref x, .ref y, .bl hard] ∧ Ga K H C CR x y qs hss tss rss n m ww dd mm ∧ (m + 1) * mm ≤ 4000 ∧ b ≤ 280 ∧ (∀ r ∈ advR qs hss tss rss dd mm hard, ∀ q ∈ r, Bd b q) ∧
  ∀ z H', Same H H' → H z = none → IsRule K H' CR z (advR qs hss tss rss dd mm hard) b → Q (.ref z) H'
theorem rw_bd {K : PySem.W.Frag} {H : Hp} {a : Addr} {rs : List Addr} {rss : List (List Rat)} {n : Nat} (h : RwL K H a rs rss n) : ∀ r ∈ rss, ∀ q ∈ r, Bd n q := fun r hr q hq => by
  obtain ⟨i, hi, e⟩ := List.getElem_of_mem hr
  have hrs : i < rs.length := by rw [h.2.1]; exact hi
  obtain ⟨cs', qs, f1, f2, f3⟩ := h.2.2 i rs[i] (List.getElem?_eq_getElem hrs)
  rw [List.getElem?_eq_getElem hi, e] at f1
  cases f1
  exact frn_bd f3 q hq
theorem adv_bd {qs : List Rat} {hss tss rss : List (List Rat)} {dd mm : Nat} {hard : Bool} (h : ∀ r ∈ rss, ∀ q ∈ r, Bd 8 q) (hl : ∀ r ∈ rss, r.length = mm) (hm : mm ≤ 9) : ∀ r ∈ advR qs hss tss rss dd mm hard, ∀ q ∈ r, Bd 82 q := fun r hr q hq => by
  unfold advR at hr
  obtain ⟨r0, h0, rfl⟩ := List.mem_map.mp hr
  have l0 := hl r0 h0
  rw [← grpI_all (i := mm) (by omega) (by rw [grpsL_len]; exact Nat.le_refl _)] at hq
  exact grpI_bd (h r0 h0) hm q hq
theorem prodB {xss : List (List Rat)} {ws : List Rat} {d n m : Nat} (hn : 1 ≤ n) (hx : ∀ r ∈ xss, ∀ q ∈ r, Bd n q) (hw : ∀ q ∈ ws, Bd m q) : ∀ q ∈ prods xss ws d, Bd (m + n) q := fun q hq => by
  unfold prods at hq
  obtain ⟨i, hi, e⟩ := List.getElem_of_mem hq
  rw [List.getElem_zipWith] at e
  subst e
  rw [List.length_zipWith] at hi
  refine Fr.bd_mul (hw _ (List.getElem_mem _)) ?_
  have hr : i < xss.length := by omega
  by_cases hd : d < xss[i].length
  · rw [List.getD_eq_getElem?_getD, List.getElem?_eq_getElem hd]
    exact hx _ (List.getElem_mem hr) _ (List.getElem_mem hd)
  · rw [List.getD_eq_getElem?_getD, List.getElem?_eq_none (by omega)]
    exact Fr.Bd.mono (n := 1) ⟨by decide, by decide⟩ hn
theorem wqB {xss : List (List Rat)} {ws : List Rat} {d n m : Nat} (hn : 1 ≤ n) (hx : ∀ r ∈ xss, ∀ q ∈ r, Bd n q) (hw : ∀ q ∈ ws, Bd m q) (h5 : ws.length ≤ 5) : Bd ((m + n + 1) * 5 + 1) (wq xss ws d) := by
  unfold wq
  refine (bd_sum (prodB hn hx hw)).mono ?_
  have : (prods xss ws d).length ≤ 5 := by unfold prods; rw [List.length_zipWith]; omega
  have := Nat.mul_le_mul_left (m + n + 1) this
  omega
theorem gainB {xss : List (List Rat)} {qs : List Rat} {hss tss rss : List (List Rat)} {dd mm n a b : Nat} {hard : Bool} (hn : 1 ≤ n) (hb : 1 ≤ b) (hx : ∀ r ∈ xss, ∀ q ∈ r, Bd n q) (hq : ∀ q ∈ qs, Bd a q) (hr : ∀ r ∈ rss, ∀ q ∈ r, Bd b q) (h5 : qs.length ≤ 5) : Bd (((a + b + n + 1) * 5 + 2) * mm + 1) (gainT xss qs hss tss rss dd mm hard) := by
  unfold gainT
  have hw : ∀ q ∈ (List.range mm).map (gainW xss qs hss tss rss dd hard), Bd ((a + b + n + 1) * 5 + 1) q := fun q hq' => by
    obtain ⟨i, _, rfl⟩ := List.mem_map.mp hq'
    unfold gainW
    split
    · exact Fr.Bd.mono (n := 1) ⟨by decide, by decide⟩ (by omega)
    · exact wqB hn hx (prodB hb hr hq) (by unfold prods; rw [List.length_zipWith]; omega)
  refine (bd_sum hw).mono ?_
  rw [List.length_map, List.length_range]
  exact Nat.le_refl _
theorem dueB {xss : List (List Rat)} {qs : List Rat} {rss : List (List Rat)} {dd n a b : Nat} (hn : 1 ≤ n) (hb : 1 ≤ b) (hx : ∀ r ∈ xss, ∀ q ∈ r, Bd n q) (hq : ∀ q ∈ qs, Bd a q) (hr : ∀ r ∈ rss, ∀ q ∈ r, Bd b q) (h5 : qs.length ≤ 5) : Bd (((a + b + n + 1) * 5 + 2) * dd + 1) (dueT xss qs rss dd) := by
  unfold dueT
  have hw : ∀ q ∈ (List.range dd).map (fun a => wq xss (prods rss qs a) a), Bd ((a + b + n + 1) * 5 + 1) q := fun q hq' => by
    obtain ⟨i, _, rfl⟩ := List.mem_map.mp hq'
    exact wqB hn hx (prodB hb hr hq) (by unfold prods; rw [List.length_zipWith]; omega)
  refine (bd_sum hw).mono ?_
  rw [List.length_map, List.length_range]
  exact Nat.le_refl _
theorem is_re {K : PySem.W.Frag} {H : Hp} {C x : Addr} {rss : List (List Rat)} {n m : Nat} (h : IsRule K H C x rss n) (hb : ∀ r ∈ rss, ∀ q ∈ r, Bd m q) : IsRule K H C x rss m := by
  obtain ⟨d, ra, rs, e, w⟩ := h
  exact ⟨d, ra, rs, e, w.1, w.2.1, fun j r er => let ⟨cs, qs, f1, f2, f3⟩ := w.2.2 j r er; ⟨cs, qs, f1, f2, frn_re f3 (hb qs (List.mem_of_getElem? f1))⟩⟩
end Hr

set_option Elab.async false
set_option linter.all false
set_option maxRecDepth 100000
set_option maxHeartbeats 4000000
namespace Sx
open PySem PySem.Spec PyProof.Rows L2
/-! ### sorted of a tuple of numbers -/
section
variable {prog : Program} {w : World} {A : Around} {E : Value → Shared → Prop} {s : Shared}
theorem sorted_tup {l : Addr} {o : Obj} {vs : List Value} {ns : List Int} {n : Nat} {Q : Value → Shared → Prop} (ho : s.heap.get? l = some o) (hc : o.cls = .type "tuple") (hd : o.data = .seq vs.toArray n) (hI : IntsAre vs ns) (h64 : vs.length < 64)
    (h : ∀ (h1 : Heap) (p : Addr) (out : Array Value) (ns' : List Int), (∀ b u, s.heap.get? b = some u → h1.get? b = some u) → s.heap.get? p = none → (∃ e, h1.get? p = some (seqObj "list" out e)) → IntsAre out.toList ns' → ns'.Perm ns → ns'.Pairwise (· ≤ ·) → Q (.ref p) { s with heap := h1 }) :
    wpAny (model prog w) A (call (.builtin "sorted") [.ref l]) Q E s := by
  have hz : vs.toArray.size ≤ sizeLine := by
    rw [List.size_toArray, sizeLine_eq]
    omega
  refine Calls.call_function_entry kind_sorted plain_sorted entry_sorted (args_sorted1 _) ?_
  unfold Builtin.«sorted»
  refine wpAny_bind (m := checkCount "sorted" 1 1 _) (wpAny_pure ?_)
  refine wpAny_bind (wpAny_collect_seq l (.inr rfl) ho hc hd (fun h2 k2 => ?_) hz)
  rw [show vs.toArray.toList = vs by simp]
  refine wpAny_bind (wpAny_newList ?_)
  have at2 : (h2.push (seqObj "list" vs.toArray 0)).get? h2.objs.size = some (seqObj "list" vs.toArray 0) := Heap.get?_push_size _ rfl
  refine wpAny_bind (wpAny_holding (wpAny_call_entry slot_list_sort ⟨_, at2, rfl⟩ entry_list_sort (list_sort_tree at2 hI h64 fun out ns' a1 a2 a3 => ⟨_, rfl, wpAny_pure ⟨_, rfl, ?_⟩⟩) (args_list_sort _)))
  refine h _ h2.objs.size out ns' (fun b u hb => ?_) ?_ (sortedHeap_at at2) a1 a2 a3
  · have hb2 := k2 b u hb
    have lt2 : b < h2.objs.size := Heap.lt_size hb2
    show (sortedHeap _ _ _ _).get? b = some u
    rw [sortedHeap_old (Nat.ne_of_lt lt2) (by rw [size_push']; exact Nat.lt_succ_of_lt lt2)]
    exact Heap.get?_push_of_some _ hb2
  · cases e : s.heap.get? h2.objs.size with
    | none => rfl
    | some u => exact absurd (Heap.lt_size (k2 _ _ e)) (Nat.lt_irrefl _)
end
def rSortT (K : PySem.W.Frag) : List V → Hp → VK → Prop := fun vs H Q => ∃ (a : Addr) (ns : List Int), vs = [V.ref a] ∧ SqT K H a (ns.map V.int) ∧ ns.length < 64 ∧ ∀ (ns' : List Int) (p : Addr), ns'.Perm ns → ns'.Pairwise (· ≤ ·) → H p = none → Q (.ref p) (upd H p (.lst (ns'.map V.int)))
theorem cr_sortT {X : Cx} : CallR X (.builtin "sorted") (rSortT X.K) := by
  intro pins s σ H vs us Q I r h
  obtain ⟨a, ns, rfl, hs, h64, q⟩ := h
  obtain ⟨its, rv, pl, hz⟩ := I.tuple hs
  rw [Vals.ref1 r]
  have hi := rv.ints
  obtain ⟨o, ho, hc, n, hd⟩ := pl
  refine sorted_tup ho hc hd hi (by rw [hi.length]; exact h64) fun h1 p out ns' k hp he h2 h3 h4 => ?_
  obtain ⟨ep, he'⟩ := he
  have hlen : (ns'.map V.int).length ≤ sizeLine := by rw [List.length_map, h3.length_eq]; exact small64 h64
  have hn : H p = none := HOk.gone I.hok hp
  exact ⟨.ref p, upd H p (.lst (ns'.map V.int)), I.laidN (t' := s.toks) k hp hn ⟨hlen, out.toList, ep, vals_of_ints h2, he'⟩, rfl, q ns' p h3 h4 hn⟩
end Sx

set_option Elab.async false
set_option linter.all false
set_option maxRecDepth 100000
set_option maxHeartbeats 4000000
namespace Hr
open PySem PySem.Spec PyProof.Rows L2 BX EXB Co Ru
open Dz Cs
open Fr (Bd)
/-! ### beliefs, by bounds that are known of the values -/
theorem belB {rss : List (List Rat)} {qs : List Rat} {i n m : Nat} (hn : 1 ≤ n) (hx : ∀ r ∈ rss, ∀ q ∈ r, Bd n q) (hw : ∀ q ∈ qs, Bd m q) (h5 : qs.length ≤ 5) (h0 : wq rss qs i ≠ 0) : ∀ q ∈ belq rss qs i, Bd ((m + n) + ((m + n + 1) * 5 + 1)) q := fun q hq => by
  unfold belq at hq
  obtain ⟨w, hw', rfl⟩ := List.mem_map.mp hq
  exact bd_div (prodB hn hx hw w hw') (wqB hn hx hw h5) h0
theorem lead_bel {hss rss : List (List Rat)} {qs : List Rat} {i : Nat} (h0 : wq rss qs i ≠ 0) (a b : Nat) : wq rss qs i * (wq hss (belq rss qs i) a - wq hss (belq rss qs i) b) = leadQ hss (prods rss qs i) a b := by
  unfold belq
  rw [wq_scale, wq_scale, lead_wq]
  have h := Rat.mul_inv_cancel _ h0
  generalize wq rss qs i = c at h
  generalize wq hss (prods rss qs i) a = A
  generalize wq hss (prods rss qs i) b = B
  grind
theorem lead_zero {hss rss : List (List Rat)} {qs : List Rat} {i : Nat} (h1 : ∀ q ∈ qs, 0 ≤ q) (h2 : ∀ r ∈ rss, ∀ q ∈ r, 0 ≤ q) (h : wq rss qs i = 0) (a b : Nat) : leadQ hss (prods rss qs i) a b = 0 := by
  rw [lead_wq, unsaid h1 h2 h, unsaid h1 h2 h, Rat.sub_self]
theorem faultD_nil {hss : List (List Rat)} {ws : List Rat} {d k : Nat} (h : ∀ e, e < k → ¬ 0 < leadQ hss ws e d) : faultD hss ws d k = [] := by
  unfold faultD
  refine List.filterMap_eq_nil_iff.mpr fun e he => ?_
  rw [if_neg (h e (List.mem_range.mp he))]
theorem faultsL_nil {qs : List Rat} {hss rss : List (List Rat)} {dd : Nat} (h : ∀ d, d < dd → ∀ e, e < dd → ¬ 0 < leadQ hss (prods rss qs d) e d) : faultsL qs hss rss dd dd = [] := by
  unfold faultsL
  refine List.flatMap_eq_nil_iff.mpr fun d hd => faultD_nil (h d (List.mem_range.mp hd))
theorem lead_pos {hss rss : List (List Rat)} {qs : List Rat} {i a b : Nat} (hp : 0 < wq rss qs i) : 0 < wq hss (belq rss qs i) a - wq hss (belq rss qs i) b ↔ 0 < leadQ hss (prods rss qs i) a b := by
  rw [← lead_bel (fun z => by rw [z] at hp; exact absurd hp (Rat.not_lt.mpr Rat.le_refl))]
  constructor
  · exact fun h => Rat.mul_pos hp h
  · intro h
    refine Rat.not_le.mp fun z => ?_
    have := Rat.mul_le_mul_of_nonneg_left z (Rat.le_of_lt hp)
    rw [Rat.mul_zero] at this
    exact absurd h (Rat.not_lt.mpr this)
/-! ### two rules mixed -/
def mixRow (p : Rat) (a b : List Rat) : List Rat := List.zipWith (fun x y => (1 - p) * x + p * y) a b
def mixR (p : Rat) (as bs : List (List Rat)) : List (List Rat) := List.zipWith (mixRow p) as bs
theorem mixRow_sum (p : Rat) : ∀ {a b : List Rat}, a.length = b.length → (mixRow p a b).sum = (1 - p) * a.sum + p * b.sum
  | [], [], _ => by
    show ([] : List Rat).sum = _
    rw [List.sum_nil, Rat.mul_zero, Rat.mul_zero, Rat.add_zero]
  | [], _ :: _, h => by simp at h
  | _ :: _, [], h => by simp at h
  | x :: a, y :: b, h => by
    show (((1 - p) * x + p * y) :: mixRow p a b).sum = _
    rw [List.sum_cons, mixRow_sum p (by simpa using h), List.sum_cons, List.sum_cons]
    grind
theorem mixRow_at {p : Rat} {a b : List Rat} {i : Nat} {x y : Rat} (h1 : a[i]? = some x) (h2 : b[i]? = some y) : (mixRow p a b)[i]? = some ((1 - p) * x + p * y) := by
  unfold mixRow
  rw [List.getElem?_zipWith, h1, h2]
theorem mixR_at {p : Rat} {as bs : List (List Rat)} {i : Nat} {x y : List Rat} (h1 : as[i]? = some x) (h2 : bs[i]? = some y) : (mixR p as bs)[i]? = some (mixRow p x y) := by
  unfold mixR
  rw [List.getElem?_zipWith, h1, h2]
theorem mixRow_len {p : Rat} {a b : List Rat} (h : a.length = b.length) : (mixRow p a b).length = a.length := by
  unfold mixRow
  rw [List.length_zipWith]
  omega
theorem mixR_len {p : Rat} {a b : List (List Rat)} (h : a.length = b.length) : (mixR p a b).length = a.length := by
  unfold mixR
  rw [List.length_zipWith]
  omega
theorem mixRow_ok {p : Rat} {a b : List Rat} {m : Nat} (p0 : 0 ≤ p) (p1 : p ≤ 1) (ha : RowOk m a) (hb : RowOk m b) : RowOk m (mixRow p a b) := by
  have hl : a.length = b.length := by rw [ha.1, hb.1]
  refine ⟨by rw [mixRow_len hl, ha.1], fun q hq => ?_, by rw [mixRow_sum p hl, ha.2.2, hb.2.2]; grind⟩
  obtain ⟨i, hi, e⟩ := List.getElem_of_mem hq
  rw [mixRow_len hl] at hi
  have e2 := mixRow_at (p := p) (List.getElem?_eq_getElem hi) (List.getElem?_eq_getElem (show i < b.length by omega))
  have e3 : q = (1 - p) * a[i] + p * b[i] := by
    rw [← e]
    exact (List.getElem?_eq_some_iff.mp e2).2
  rw [e3]
  exact Rat.add_nonneg (Rat.mul_nonneg (by grind) (ha.2.1 _ (List.getElem_mem hi))) (Rat.mul_nonneg p0 (hb.2.1 _ (List.getElem_mem _)))
theorem mix_mem {p : Rat} {as bs : List (List Rat)} {r : List Rat} (h : r ∈ mixR p as bs) : ∃ (i : Nat) (x y : List Rat), as[i]? = some x ∧ bs[i]? = some y ∧ (mixR p as bs)[i]? = some r ∧ r = mixRow p x y := by
  obtain ⟨i, hi, e⟩ := List.getElem_of_mem h
  have hi' := hi
  unfold mixR at hi'
  rw [List.length_zipWith] at hi'
  have h1 : i < as.length := by omega
  have h2 : i < bs.length := by omega
  refine ⟨i, as[i], bs[i], List.getElem?_eq_getElem h1, List.getElem?_eq_getElem h2, by rw [List.getElem?_eq_getElem hi, e], ?_⟩
  have e2 := mixR_at (p := p) (List.getElem?_eq_getElem h1) (List.getElem?_eq_getElem h2)
  rw [List.getElem?_eq_getElem hi, e] at e2
  exact Option.some.inj e2
theorem mix_good {p : Rat} {as bs : List (List Rat)} {m : Nat} (p0 : 0 ≤ p) (p1 : p ≤ 1) (ha : Good as m) (hb : Good bs m) (hl : as.length = bs.length) : Good (mixR p as bs) m := by
  refine ⟨by rw [mixR_len hl]; exact ha.w1, by rw [mixR_len hl]; exact ha.w5, ha.m1, ha.m30, fun r hr => ?_⟩
  obtain ⟨i, x, y, e1, e2, _, rfl⟩ := mix_mem hr
  exact mixRow_ok p0 p1 (ha.row _ (List.mem_of_getElem? e1)) (hb.row _ (List.mem_of_getElem? e2))
theorem mix_getD {p : Rat} {a b : List Rat} (h : a.length = b.length) (d : Nat) : (mixRow p a b).getD d 0 = (1 - p) * a.getD d 0 + p * b.getD d 0 := by
  by_cases hd : d < a.length
  · rw [List.getD_eq_getElem?_getD, mixRow_at (List.getElem?_eq_getElem hd) (List.getElem?_eq_getElem (show d < b.length by omega)), List.getD_eq_getElem?_getD, List.getElem?_eq_getElem hd, List.getD_eq_getElem?_getD, List.getElem?_eq_getElem (show d < b.length by omega)]
    rfl
  · rw [List.getD_eq_getElem?_getD, List.getElem?_eq_none (by rw [mixRow_len h]; omega), List.getD_eq_getElem?_getD, List.getElem?_eq_none (by omega), List.getD_eq_getElem?_getD, List.getElem?_eq_none (by omega)]
    show (0 : Rat) = (1 - p) * 0 + p * 0
    rw [Rat.mul_zero, Rat.mul_zero, Rat.add_zero]
/-! ### advice that goes where deeds are best -/
/-- advice given at all is best there -/
def Wise (hss rss : List (List Rat)) (dd : Nat) : Prop := ∀ (w : Nat) (r h : List Rat), rss[w]? = some r → hss[w]? = some h → ∀ d, r.getD d 0 ≠ 0 → ∀ e, e < dd → h.getD e 0 ≤ h.getD d 0
theorem sum_nonpos : ∀ {l : List Rat}, (∀ x ∈ l, x ≤ 0) → l.sum ≤ 0
  | [], _ => by rw [List.sum_nil]; exact Rat.le_refl
  | x :: l, h => by
    have h1 := h x (List.mem_cons_self ..)
    have h2 := sum_nonpos fun y hy => h y (List.mem_cons_of_mem _ hy)
    rw [List.sum_cons]
    grind
theorem wise_fol {qs : List Rat} {hss rss : List (List Rat)} {dd : Nat} (h1 : ∀ q ∈ qs, 0 ≤ q) (h2 : ∀ r ∈ rss, ∀ q ∈ r, 0 ≤ q) (hb : Wise hss rss dd) : faultsL qs hss rss dd dd = [] := by
  refine faultsL_nil fun d hd e he => Rat.not_lt.mpr ?_
  unfold leadQ
  refine sum_nonpos fun x hx => ?_
  obtain ⟨i, hi, ex⟩ := List.getElem_of_mem hx
  have hi' := hi
  unfold leadP prods at hi'
  rw [List.length_zipWith, List.length_zipWith] at hi'
  have a1 : i < qs.length := by omega
  have a2 : i < rss.length := by omega
  have a3 : i < hss.length := by omega
  have e1 := leadP_at (d := e) (e := d) (prods_at (d := d) (List.getElem?_eq_getElem a1) (List.getElem?_eq_getElem a2)) (List.getElem?_eq_getElem a3)
  have e2 : x = qs[i] * rss[i].getD d 0 * (hss[i].getD e 0 - hss[i].getD d 0) := by
    rw [← ex]
    exact (List.getElem?_eq_some_iff.mp e1).2
  rw [e2]
  have q0 := h1 _ (List.getElem_mem a1)
  by_cases z : rss[i].getD d 0 = 0
  · rw [z, Rat.mul_zero, Rat.zero_mul]
    exact Rat.le_refl
  · have r0 : 0 ≤ rss[i].getD d 0 := by
      by_cases hdl : d < rss[i].length
      · rw [List.getD_eq_getElem?_getD, List.getElem?_eq_getElem hdl]
        exact h2 _ (List.getElem_mem a2) _ (List.getElem_mem hdl)
      · rw [List.getD_eq_getElem?_getD, List.getElem?_eq_none (by omega)]
        exact Rat.le_refl
    have le := hb i _ _ (List.getElem?_eq_getElem a2) (List.getElem?_eq_getElem a3) d z e he
    have := Rat.mul_le_mul_of_nonneg_left (show hss[i].getD e 0 - hss[i].getD d 0 ≤ 0 by grind) (Rat.mul_nonneg q0 r0)
    rw [Rat.mul_zero] at this
    exact this
theorem wise_mix {p : Rat} {hss as bs : List (List Rat)} {dd : Nat} (ha : Wise hss as dd) (hb : Wise hss bs dd) (hl : ∀ (i : Nat) (x y : List Rat), as[i]? = some x → bs[i]? = some y → x.length = y.length) : Wise hss (mixR p as bs) dd := by
  intro w r h hr hh d hd
  obtain ⟨i, x, y, e1, e2, e3, e4⟩ : ∃ (i : Nat) (x y : List Rat), as[w]? = some x ∧ bs[w]? = some y ∧ i = w ∧ r = mixRow p x y := by
    have hw := (List.getElem?_eq_some_iff.mp hr).1
    unfold mixR at hw
    rw [List.length_zipWith] at hw
    have h1 : w < as.length := by omega
    have h2 : w < bs.length := by omega
    have e2 := mixR_at (p := p) (List.getElem?_eq_getElem h1) (List.getElem?_eq_getElem h2)
    rw [hr] at e2
    exact ⟨w, as[w], bs[w], List.getElem?_eq_getElem h1, List.getElem?_eq_getElem h2, rfl, Option.some.inj e2⟩
  rw [e4, mix_getD (hl w x y e1 e2)] at hd
  by_cases z : x.getD d 0 = 0
  · refine hb w y h e2 hh d fun z2 => hd ?_
    rw [z, z2, Rat.mul_zero, Rat.mul_zero, Rat.add_zero]
  · exact ha w x h e1 hh d z
theorem unit_getD {dd a d : Nat} : (unit dd a).getD d 0 = if d < dd ∧ d = a then 1 else 0 := by
  unfold unit
  by_cases h : d < dd
  · rw [List.getD_eq_getElem?_getD, List.getElem?_map, List.getElem?_range h]
    show (if d = a then (1 : Rat) else 0) = _
    by_cases e : d = a
    · rw [if_pos e, if_pos ⟨h, e⟩]
    · rw [if_neg e, if_neg (fun z => e z.2)]
  · rw [List.getD_eq_getElem?_getD, List.getElem?_eq_none (by rw [List.length_map, List.length_range]; omega), if_neg (fun z => h z.1)]
    rfl
theorem unit_len {dd a : Nat} : (unit dd a).length = dd := by
  unfold unit
  rw [List.length_map, List.length_range]
theorem unit_bd {dd a : Nat} : ∀ q ∈ unit dd a, Bd 1 q := fun q hq => by
  unfold unit at hq
  obtain ⟨j, _, rfl⟩ := List.mem_map.mp hq
  split
  · exact ⟨by decide, by decide⟩
  · exact ⟨by decide, by decide⟩
def bestR (as : List Nat) (dd : Nat) : List (List Rat) := as.map (unit dd)
theorem bestR_good {as : List Nat} {ww dd : Nat} (hl : as.length = ww) (w1 : 1 ≤ ww) (w5 : ww ≤ 5) (d1 : 1 ≤ dd) (d6 : dd ≤ 6) (ha : ∀ a ∈ as, a < dd) : Good (bestR as dd) dd := by
  refine ⟨by unfold bestR; rw [List.length_map]; omega, by unfold bestR; rw [List.length_map]; omega, d1, by omega, fun r hr => ?_⟩
  obtain ⟨a, h, rfl⟩ := List.mem_map.mp hr
  exact unit_ok (ha a h)
/-! ### all in one world -/
theorem getD_in {α : Type} {l : List α} {i : Nat} {z : α} (h : i < l.length) : l.getD i z = l[i] := by
  rw [List.getD_eq_getElem?_getD, List.getElem?_eq_getElem h]
  rfl
theorem wq_range {xss : List (List Rat)} {ws : List Rat} {d : Nat} (h : ws.length = xss.length) : wq xss ws d = ((List.range ws.length).map fun j => ws.getD j 0 * (xss.getD j []).getD d 0).sum := by
  unfold wq
  congr 1
  refine List.ext_getElem? fun i => ?_
  rw [List.getElem?_map]
  by_cases hi : i < ws.length
  · rw [prods_at (List.getElem?_eq_getElem hi) (List.getElem?_eq_getElem (show i < xss.length by omega)), List.getElem?_range hi]
    show some (ws[i] * (xss[i]'(by omega)).getD d 0) = some (ws.getD i 0 * (xss.getD i []).getD d 0)
    rw [getD_in hi, getD_in (show i < xss.length by omega)]
  · rw [List.getElem?_eq_none (by rw [prods_len h]; omega), List.getElem?_eq_none (by rw [List.length_range]; omega)]
    rfl
theorem wq_unit {xss : List (List Rat)} {ww w d : Nat} (h : xss.length = ww) (hw : w < ww) : wq xss (unit ww w) d = (xss.getD w []).getD d 0 := by
  rw [wq_range (by rw [unit_len, h]), unit_len]
  have e : ((List.range ww).map fun j => (unit ww w).getD j 0 * (xss.getD j []).getD d 0) = (List.range ww).map fun j => if w = j then (xss.getD j []).getD d 0 else 0 := by
    refine List.map_congr_left fun j hj => ?_
    rw [unit_getD]
    by_cases z : w = j
    · subst z
      rw [if_pos ⟨hw, rfl⟩, if_pos rfl, Rat.one_mul]
    · rw [if_neg (fun q => z q.2.symm), if_neg z, Rat.zero_mul]
  rw [e, sum_pick, if_pos hw]
theorem prods_getD {xss : List (List Rat)} {ws : List Rat} {d j : Nat} (h : ws.length = xss.length) : (prods xss ws d).getD j 0 = ws.getD j 0 * (xss.getD j []).getD d 0 := by
  by_cases hi : j < ws.length
  · rw [List.getD_eq_getElem?_getD (l := prods xss ws d), prods_at (List.getElem?_eq_getElem hi) (List.getElem?_eq_getElem (show j < xss.length by omega)), getD_in hi, getD_in (show j < xss.length by omega)]
    rfl
  · rw [List.getD_eq_getElem?_getD, List.getElem?_eq_none (by rw [prods_len h]; omega), List.getD_eq_getElem?_getD, List.getElem?_eq_none (by omega)]
    show (0 : Rat) = 0 * _
    rw [Rat.zero_mul]
theorem wq_unit2 {xss rss : List (List Rat)} {ww w d e : Nat} (h : xss.length = ww) (hr : rss.length = ww) (hw : w < ww) : wq xss (prods rss (unit ww w) d) e = (rss.getD w []).getD d 0 * (xss.getD w []).getD e 0 := by
  have hl : (prods rss (unit ww w) d).length = ww := by rw [prods_len (by rw [unit_len, hr]), unit_len]
  rw [wq_range (by rw [hl, h]), hl]
  have ee : ((List.range ww).map fun j => (prods rss (unit ww w) d).getD j 0 * (xss.getD j []).getD e 0) = (List.range ww).map fun j => if w = j then (rss.getD j []).getD d 0 * (xss.getD j []).getD e 0 else 0 := by
    refine List.map_congr_left fun j hj => ?_
    rw [prods_getD (by rw [unit_len, hr]), unit_getD]
    by_cases z : w = j
    · subst z
      rw [if_pos ⟨hw, rfl⟩, if_pos rfl, Rat.one_mul]
    · rw [if_neg (fun q => z q.2.symm), if_neg z, Rat.zero_mul, Rat.zero_mul]
  rw [ee, sum_pick (f := fun j => (rss.getD j []).getD d 0 * (xss.getD j []).getD e 0), if_pos hw]
theorem best_unit {hss : List (List Rat)} {ww w dd d : Nat} (h : hss.length = ww) (hw : w < ww) (hd : d < dd) : d ∈ bestL hss (unit ww w) dd ↔ ∀ e, e < dd → (hss.getD w []).getD e 0 ≤ (hss.getD w []).getD d 0 := by
  rw [mem_best]
  constructor
  · intro z e he
    have := z.2 e he
    rw [wq_unit h hw, wq_unit h hw] at this
    exact this
  · intro z
    refine ⟨hd, fun e he => ?_⟩
    rw [wq_unit h hw, wq_unit h hw]
    exact z e he
theorem one_world {hss rss : List (List Rat)} {ww w dd : Nat} (h : hss.length = ww) (hr : rss.length = ww) (hw : w < ww) (h2 : ∀ r ∈ rss, ∀ q ∈ r, 0 ≤ q) : faultsL (unit ww w) hss rss dd dd = [] ↔ ∀ d, d < dd → 0 < (rss.getD w []).getD d 0 → d ∈ bestL hss (unit ww w) dd := by
  constructor
  · intro f d hd hp
    rw [best_unit h hw hd]
    intro e he
    have := fol_best f hd he
    rw [wq_unit2 h hr hw, wq_unit2 h hr hw] at this
    refine Rat.not_lt.mp fun z => ?_
    exact absurd ((Rat.mul_lt_mul_left hp).mpr z) (Rat.not_lt.mpr this)
  · intro f
    refine faultsL_nil fun d hd e he => Rat.not_lt.mpr ?_
    rw [lead_wq, wq_unit2 h hr hw, wq_unit2 h hr hw]
    by_cases hp : 0 < (rss.getD w []).getD d 0
    · have le := (best_unit h hw hd).mp (f d hd hp) e he
      have := Rat.mul_le_mul_of_nonneg_left le (Rat.le_of_lt hp)
      grind
    · have r0 : 0 ≤ (rss.getD w []).getD d 0 := by
        have hwr : w < rss.length := by omega
        rw [List.getD_eq_getElem?_getD (l := rss), List.getElem?_eq_getElem hwr]
        show 0 ≤ rss[w].getD d 0
        by_cases hdl : d < rss[w].length
        · rw [List.getD_eq_getElem?_getD, List.getElem?_eq_getElem hdl]
          exact h2 _ (List.getElem_mem hwr) _ (List.getElem_mem hdl)
        · rw [List.getD_eq_getElem?_getD, List.getElem?_eq_none (by omega)]
          exact Rat.le_refl
      rw [Rat.le_antisymm (Rat.not_lt.mp hp) r0, Rat.zero_mul, Rat.zero_mul, Rat.sub_self]
      exact Rat.le_refl
theorem bestR_wise {hss : List (List Rat)} {as : List Nat} {ww dd : Nat} (h : hss.length = ww) (hl : as.length = ww) (ha : ∀ (w a : Nat), as[w]? = some a → a ∈ bestL hss (unit ww w) dd) : Wise hss (bestR as dd) dd := by
  intro w r x hr hx d hd e he
  unfold bestR at hr
  rw [List.getElem?_map] at hr
  obtain ⟨a, ea, rfl⟩ := Option.map_eq_some_iff.mp hr
  rw [unit_getD] at hd
  by_cases c : d < dd ∧ d = a
  · obtain ⟨c1, rfl⟩ := c
    have hw : w < ww := by rw [← hl]; exact (List.getElem?_eq_some_iff.mp ea).1
    have := (best_unit h hw c1).mp (ha w d ea) e he
    rw [List.getD_eq_getElem?_getD (l := hss), hx] at this
    exact this
  · rw [if_neg c] at hd
    exact absurd rfl hd
end Hr

set_option Elab.async false
set_option linter.all false
set_option maxRecDepth 100000
set_option maxHeartbeats 4000000
namespace Hr
open PySem PySem.Spec PyProof.Rows L2 BX EXB Co Ru
open Dz Cs
open Fr (Bd)
def spChanceP (K : PySem.W.Frag) (C CR : Addr) : Sp := fun vs H Q _ => ∃ (x y : Addr) (i : Nat) (qs : List Rat) (hss tss rss : List (List Rat)) (n m ww dd mm : Nat), vs = [.ref x, .ref y, .int (i : Int)] ∧ Ga K H C CR x y qs hss tss rss n m ww dd mm ∧ i < mm ∧
  ∀ p H', Same H H' → SqT K H' p (rp (wq rss qs i)) → Q (.ref p) H'
def spBeliefsP (K : PySem.W.Frag) (C CR : Addr) : Sp := fun vs H Q _ => ∃ (x y : Addr) (i : Nat) (qs : List Rat) (hss tss rss : List (List Rat)) (n m ww dd mm : Nat), vs = [.ref x, .ref y, .int (i : Int)] ∧ Ga K H C CR x y qs hss tss rss n m ww dd mm ∧ i < mm ∧ wq rss qs i ≠ 0 ∧
  ∀ p cs H', Same H H' → H p = none → H' p = some (.lst cs) → FrN K H' (n + m + ((n + m + 1) * 5 + 1)) cs (belq rss qs i) → Q (.ref p) H'
def spCWithG (K : PySem.W.Frag) (C : Addr) : Sp := fun vs H Q _ => ∃ (x S : Addr) (qs : List Rat) (hss tss : List (List Rat)) (ws : List Rat) (cs : List V) (n m ww dd : Nat), vs = [.ref x, .ref S] ∧ IsCase K H C x qs hss tss n ∧ GoodC qs hss tss ww dd ∧ H S = some (.lst cs) ∧ FrN K H m cs ws ∧ RowOk ww ws ∧ m ≤ n ∧ n ≤ 1000 ∧
  ∀ z H', Same H H' → H z = none → IsCase K H' C z ws hss tss n → Q (.ref z) H'
/-! ### k26 -/
def spWeighed (K : PySem.W.Frag) (C CR : Addr) : Sp := fun vs H Q _ => ∃ (x y : Addr) (qs : List Rat) (hss tss rss : List (List Rat)) (m ww dd : Nat), vs = [.ref x, .ref y] ∧ Ga K H C CR x y qs hss tss rss 43 m ww dd dd ∧ 1 ≤ m ∧ m ≤ 35 ∧ (∀ q ∈ qs, Bd 8 q) ∧
  ∀ p cs H', Same H H' → H p = none → H' p = some (.lst cs) → FauAt K H' cs (faultsL qs hss rss dd dd) → Q (.ref p) H'
def spMixed (K : PySem.W.Frag) (CR : Addr) : Sp := fun vs H Q _ => ∃ (y z pp : Addr) (as bs : List (List Rat)) (p : Rat) (n m k : Nat), vs = [.ref y, .ref z, .ref pp] ∧ IsRule K H CR y as n ∧ IsRule K H CR z bs m ∧ Good as k ∧ Good bs k ∧ as.length = bs.length ∧ SqT K H pp (rp p) ∧ Bd 8 p ∧ 0 ≤ p ∧ p ≤ 1 ∧ n ≤ 100 ∧ m ≤ 100 ∧
  ∀ x H', Same H H' → H x = none → IsRule K H' CR x (mixR p as bs) (n + m + 19) → Q (.ref x) H'
def spBestRule (K : PySem.W.Frag) (C CR : Addr) : Sp := fun vs H Q _ => ∃ (l x : Addr) (z : Int) (qs : List Rat) (hss tss : List (List Rat)) (ww dd : Nat), vs = [.ref l, .ref x] ∧ H l = some (.lst [.int z]) ∧ IsCase K H C x qs hss tss 43 ∧ GoodC qs hss tss ww dd ∧
  ∀ y as z' H', SameB l H H' → H' l = some (.lst [.int z']) → IsRule K H' CR y (bestR as dd) 1 → as.length = ww → (∀ (w a : Nat), as[w]? = some a → a ∈ bestL hss (unit ww w) dd) → Q (.ref y) H'
def spInOne (K : PySem.W.Frag) (C CR : Addr) : Sp := fun vs H Q _ => ∃ (x y : Addr) (qs : List Rat) (hss tss rss : List (List Rat)) (m ww dd : Nat), vs = [.ref x, .ref y] ∧ Ga K H C CR x y qs hss tss rss 43 m ww dd dd ∧ ∀ H', Same H H' → Q (.bl true) H'
theorem bel_ok {rss : List (List Rat)} {qs : List Rat} {i ww : Nat} (hl : qs.length = rss.length) (hw : qs.length = ww) (h1 : ∀ q ∈ qs, 0 ≤ q) (h2 : ∀ r ∈ rss, ∀ q ∈ r, 0 ≤ q) (h0 : wq rss qs i ≠ 0) : RowOk ww (belq rss qs i) := by
  have hp := wq_pos h1 h2 h0
  refine ⟨by unfold belq; rw [List.length_map, prods_len hl, hw], fun q hq => ?_, ?_⟩
  · unfold belq at hq
    obtain ⟨w, hw', rfl⟩ := List.mem_map.mp hq
    rw [Rat.div_def]
    exact Rat.mul_nonneg (prods_nn h1 h2 w hw') (Rat.le_of_lt (Rat.inv_pos.mpr hp))
  · have e : belq rss qs i = (prods rss qs i).map fun o => (wq rss qs i)⁻¹ * o := by
      unfold belq
      refine List.map_congr_left fun w _ => ?_
      rw [Rat.div_def, Rat.mul_comm]
    rw [e, sum_map_mul]
    exact (Rat.mul_comm _ _).trans (Rat.mul_inv_cancel _ h0)
/-- data of what falls short -/
def dF1 (z : Nat × Nat × Rat) : PyData := .tuple [.int (z.1 : Int), .int (z.2.1 : Int), dR z.2.2]
def dF (l : List (Nat × Nat × Rat)) : PyData := .list (l.map dF1)
theorem FauAt.dps {K : PySem.W.Frag} {H : Hp} : ∀ {cs : List V} {l : List (Nat × Nat × Rat)}, FauAt K H cs l → DpAll K H cs (l.map dF1)
  | [], [], _ => .nil
  | [], _ :: _, h => by have := h.1; simp at this
  | _ :: _, [], h => by have := h.1; simp at this
  | v :: cs, z :: l, h => by
    obtain ⟨d, e, m, t, p, e1, rfl, e3, e4⟩ := h.2 0 v rfl
    have ez : z = (d, e, m) := Option.some.inj e1
    subst ez
    exact .cons (.tup e3 (.cons (.int _) (.cons (.int _) (.cons (dp_r e4) .nil)))) (FauAt.dps ⟨by have := h.1; simpa using this, fun j x ej => h.2 (j + 1) x ej⟩)
theorem dF_lays : ∀ l : List (Nat × Nat × Rat), PyData.canLayAll0 (l.map dF1) = true
  | [] => rfl
  | z :: l => by
    show ((dF1 z).canLay0 && PyData.canLayAll0 (l.map dF1)) = true
    rw [dF_lays l]
    rfl
theorem dF_deps : ∀ l : List (Nat × Nat × Rat), PyData.depthAll (l.map dF1) ≤ 2
  | [] => by decide
  | z :: l => by
    have := dF_deps l
    have h : PyData.depth (dF1 z) = 2 := rfl
    show max (PyData.depth (dF1 z)) (PyData.depthAll (l.map dF1)) ≤ 2
    omega
theorem dF_lay (l : List (Nat × Nat × Rat)) : (dF l).canLay0 = true := dF_lays l
theorem dF_shaped (l : List (Nat × Nat × Rat)) : SeqAt.shaped (dF l) = true := by
  unfold SeqAt.shaped
  rw [dF_lay, Bool.true_and]
  refine decide_eq_true ?_
  have := dF_deps l
  show PyData.depthAll (l.map dF1) + 1 ≤ 64
  omega
theorem in_ds (d : Nat) : ∀ l : List Nat, inV (.int (d : Int)) (dsV l) = decide (d ∈ l)
  | [] => rfl
  | x :: l => by
    have e : inV (.int (d : Int)) (dsV (x :: l)) = (eqV (.int (x : Int)) (.int (d : Int)) || inV (.int (d : Int)) (dsV l)) := rfl
    rw [e, in_ds d l, Bool.eq_iff_iff, Bool.or_eq_true, decide_eq_true_eq, decide_eq_true_eq, List.mem_cons]
    have h : eqV (.int (x : Int)) (.int (d : Int)) = true ↔ d = x := by
      show ((x : Int) == (d : Int)) = true ↔ _
      rw [beq_iff_eq]
      constructor
      · intro z; omega
      · intro z; omega
    rw [h]
theorem ds_flat' (l : List Nat) : (dsV l).all flatV = true := List.all_eq_true.mpr fun v hv => by
  obtain ⟨p, _, rfl⟩ := List.mem_map.mp hv
  rfl
/-- data of numbers -/
def dNs (ps : List Nat) : PyData := .list (ps.map fun (d : Nat) => PyData.int (d : Int))
theorem dNs_lays : ∀ ps : List Nat, PyData.canLayAll0 (ps.map fun (d : Nat) => PyData.int (d : Int)) = true
  | [] => rfl
  | p :: ps => by
    show (true && PyData.canLayAll0 (ps.map fun (d : Nat) => PyData.int (d : Int))) = true
    rw [dNs_lays ps]
    rfl
theorem dNs_deps : ∀ ps : List Nat, PyData.depthAll (ps.map fun (d : Nat) => PyData.int (d : Int)) ≤ 0
  | [] => by decide
  | p :: ps => by
    have := dNs_deps ps
    show max 0 (PyData.depthAll (ps.map fun (d : Nat) => PyData.int (d : Int))) ≤ 0
    omega
theorem dNs_shaped (ps : List Nat) : SeqAt.shaped (dNs ps) = true := by
  unfold SeqAt.shaped
  have h : (dNs ps).canLay0 = true := dNs_lays ps
  rw [h, Bool.true_and]
  refine decide_eq_true ?_
  have := dNs_deps ps
  show PyData.depthAll (ps.map fun (d : Nat) => PyData.int (d : Int)) + 1 ≤ 64
  omega
theorem dNs_nil (ps : List Nat) : PyData.eqv (dNs ps) (.list []) = decide (ps = []) := by
  cases ps with
  | nil => rfl
  | cons p ps => rfl
theorem part7 {d : Int} (h0 : 0 ≤ d) (h8 : d < 8) : 0 ≤ Rat.divInt d 7 ∧ Rat.divInt d 7 ≤ 1 ∧ Bd 8 (Rat.divInt d 7) := by
  have : d = 0 ∨ d = 1 ∨ d = 2 ∨ d = 3 ∨ d = 4 ∨ d = 5 ∨ d = 6 ∨ d = 7 := by omega
  have b : Bd 8 (Rat.divInt d 7) := Fr.bd_low (Nat.lt_of_le_of_lt (show d.natAbs ≤ 7 by omega) (by decide)) (by decide) (by decide)
  refine ⟨?_, ?_, b⟩
  · exact Rs.divInt_nn h0 (by decide)
  · clear b
    rcases this with rfl | rfl | rfl | rfl | rfl | rfl | rfl | rfl <;> decide +kernel
/-- a rule with some bound -/
def RuX (K : PySem.W.Frag) (H : Hp) (CR : Addr) (v : V) (ww dd : Nat) : Prop := ∃ (y : Addr) (rss : List (List Rat)) (m : Nat), v = .ref y ∧ IsRule K H CR y rss m ∧ 1 ≤ m ∧ m ≤ 35 ∧ Good rss dd ∧ rss.length = ww
theorem RuX.same {K : PySem.W.Frag} {H H' : Hp} {CR : Addr} {v : V} {ww dd : Nat} (h : RuX K H CR v ww dd) (s : Same H H') : RuX K H' CR v ww dd :=
  let ⟨y, rss, m, a, b, c⟩ := h; ⟨y, rss, m, a, b.same s, c⟩
end Hr

set_option Elab.async false
set_option linter.all false
set_option maxRecDepth 100000
set_option maxHeartbeats 4000000
namespace EXB
open PySem PySem.Spec PyProof.Rows L2
/-- an own error class over B whose fields are stored as an object's -/
structure ExS (K : PySem.W.Frag) (C : Addr) (newId : String) (bmB : List Value) : Prop where
  c : ExC K C newId bmB
  sa : PySem.W.findIn K (.ref C) "__setattr__" = some (some (.builtin "object.__setattr__"))
section
open Builtin Builtin.ObjectAttr
variable {prog : Program} {w : World} {A : Around} {hp : Heap} {g : Array GenState} {d : Drawn} {t : Nat} {os : OsState} {R : Result → Shared → Prop}
/-- the first field of an own error over any base whose types let it by -/
theorem osaG {K : W.Frag} {nmf : Str} {tk : Tok} {v : Value} {x C : Addr} {fv : Array Value} {cd : ClassData} {bmB : List Value} {B : String} (SB : StoreFacts B bmB "object.__setattr__" "object") (hobj : bmB.contains (.type "object") = true)
    (X : K.In hp) (hx : hp.get? x = some { cls := .ref C, data := .fields fv }) (hcd : W.clsIn K C = some cd) (hm : cd.mro = .ref C :: bmB) (hh : cd.hasDict = true) (ha : W.findIn K (.ref C) nmf = some none)
    (hq : ∀ h2 tk2 dx, (∀ b o, b ≠ x → hp.get? b = some o → h2.get? b = some o) → hp.objs.size ≤ dx → dx ≠ x → h2.get? x = some { cls := .ref C, dict := some dx, data := .fields fv } → h2.Ns1 dx (fun y => if y = nmf then some v else none) → R (.ok (.ret .none)) ⟨h2, g, d, tk2, os⟩) :
    codeAny (model prog w) A (.call (.builtin "object.__setattr__") ⟨[.ref x, .str nmf tk, v], []⟩) R ⟨hp, g, d, t, os⟩ := by
  have J : W.InstAt hp x { cls := .ref C, data := .fields fv } C none := ⟨hx, rfl, rfl, trivial⟩
  have SF := PySem.F.store_object
  have hne : cd.mro.isEmpty = false := by rw [hm]; rfl
  have hob : cd.mro.contains (.type "object") = true := by
    rw [hm, List.contains_cons, hobj, Bool.or_true]
  have hxs : x ≠ hp.objs.size := Nat.ne_of_lt (Heap.lt_size hx)
  have isO : W.Looks (model prog w) hp (isInstance (.ref x) (.type "object")) true := J.type.andThen (W.looks_mroIn X (by unfold W.mroIn; rw [hcd, Option.bind_some, if_neg (by rw [hne]; decide), hob]))
  refine codeAny_call_builtin SF.slot.plain SF.entry (@W.check_slot (model prog w) _ _ ⟨hp, g, d, t, os⟩ "object.__setattr__" "object" "__setattr__" (.ref x) [.str nmf tk, v] [] _ SF.kind SF.split isO (SF.args (.ref x) (.str nmf tk) v) ?_)
  have lm : W.Looks (model prog w) hp (mroOf (.ref C)) cd.mro := (W.looks_clsIn X hcd).andThen .now
  have l3 : W.Looks (model prog w) hp (storeTaker? none) none := .now
  have lc : W.Looks (model prog w) hp (classData C) cd := W.looks_clsIn X hcd
  rw [W.osa_eq, refuse_eq]
  refine wpAny_bind (wpAny_bind (J.type.at (wpAny_bind (lm.at ?_))))
  rw [hm, refuseLoop_ref, SB.passes (.ref x)]
  refine wpAny_pure (wpAny_bind (J.type.at (wpAny_bind ((W.looks_findIn X ha).at (wpAny_bind (l3.at ?_))))))
  show wpAny _ _ (storeInOwnDict (.ref x) (.ref C) (.str nmf tk) nmf v false) _ _ _
  clear hm hob hne lm
  obtain ⟨nm, bs, mro, ns, qn, hd, sn, sb, ab, col, del⟩ := cd
  dsimp only at hh
  subst hh
  unfold storeInOwnDict ownDictForStores
  repeat (first | with_reducible refine PySem.HandSPX.store_in_new ?_ ?_ | with_reducible refine wpAny_loadPart_at hx ?_ | with_reducible refine lc.at ?_ | wp_step)
  · exact ⟨_, #[], _, (Heap.get?_update_ne _ _ _ _ hxs.symm).trans (Heap.get?_push_at rfl rfl), rfl, fun en hen => absurd hen (by simp), fun _ => rfl⟩
  · intro h2 tk2 hn2 hs
    have hx1 : (hp.push { cls := .type "dict", data := .dict #[] }).get? x = some { cls := .ref C, data := .fields fv } := Heap.get?_push_of_some _ hx
    refine hq h2 tk2 hp.objs.size (fun b o hb hbo => ?_) (Nat.le_refl _) hxs.symm ?_ hn2
    · exact (hs.2 b (Nat.ne_of_lt (Heap.lt_size hbo))).trans ((Heap.get?_update_ne _ _ _ _ hb).trans (Heap.get?_push_of_some _ hbo))
    · exact (hs.2 x hxs).trans (Heap.get?_update_self _ hx1 rfl)
end
section
variable {X : Cx} {pins : List (Addr × Obj)} {σ : L2.St} {H : Hp} {s : Shared} {a C dx : Addr} {f : Str} {y : V} {u : Value} {Q : Unit → Shared → Prop} {E : Value → Shared → Prop} {A : Around} {B newId initId : String} {bmB : List Value}
theorem ostG (SB : StoreFacts B bmB "object.__setattr__" "object") (hobj : bmB.contains (.type "object") = true) (T : ExS X.K C newId bmB) (I : Inv X pins σ H s) (e : H a = some (exo a C none)) (hno : PySem.W.findIn X.K (.ref C) f = some none) (ry : RelV y u)
    (h : ∀ dx s', H dx = none → dx ≠ a → Inv X pins σ (upd (upd H dx (exd dx [(f, y)])) a (exo a C (some dx))) s' → Q () s') : wpAny (model X.prog X.w) A (setAttr (.ref a) f u) Q E s := by
  obtain ⟨nm, q, N, bs, sn, sub, ab, col, dd, k0, k1, k2, k3, k5, hC⟩ := T.c.cls
  have hcl : PySem.W.clsIn X.K C = some { name := nm, bases := bs, mro := .ref C :: bmB, ns := N, qualname := q, hasDict := true, slotNames := sn, subclasses := sub, abstract := ab, collection := col, hasDel := false } := by
    unfold PySem.W.clsIn
    rw [hC] <;> rfl
  obtain ⟨t1, ho⟩ := exo_at I.hok e
  obtain ⟨hp, g, dr, t, os⟩ := s
  refine PySem.W.set_plain I.kIn (ox := { cls := .ref C, dict := none, data := .fields #[.ref t1, .none, .none, .none, .bool false, .none] }) (od := none) ⟨ho, rfl, rfl, trivial⟩ T.sa ?_
  refine osaG SB hobj I.kIn ho hcl rfl rfl hno (fun h2 tk2 dx kp dn dne hx hn => ?_)
  have hd0 : H dx = none := I.hok.fresh dn
  have ndx : ∀ {b : Addr} {o : Obj}, hp.get? b = some o → b ≠ dx := fun {b o} z => Nat.ne_of_lt (Nat.lt_of_lt_of_le (Heap.lt_size z) dn)
  have nea : ∀ {b : Addr}, H b = none → b ≠ a := fun {b} n z => by
    rw [z, e] at n
    cases n
  have U : Un X.fs [] H (upd (upd H dx (exd dx [(f, y)])) a (exo a C (some dx))) hp h2 := {
    keep := fun b o z n _ _ => kp b o (nea n) z
    slot := fun b o z n _ _ => ⟨o.slots, kp b o (nea n) z⟩
    free := fun b o z n _ => by rw [upd_ne (nea n), upd_ne (ndx z)]; exact n
    there := fun b o z _ => by
      by_cases hb : b = a
      · exact ⟨_, by rw [hb]; exact hx⟩
      · exact ⟨o, kp b o hb z⟩
    tups := fun b xs z => by rw [upd_ne (at_ne e z exo_tup), upd_ne (ne_of_none z hd0)]; exact z
    frzs := fun b o v z => by rw [upd_ne (at_ne e z exo_frz), upd_ne (ne_of_none z hd0)]; exact z
    tbls := fun b ps z => ⟨#[], by rw [upd_ne (at_ne e z exo_tbl), upd_ne (ne_of_none z hd0), z]; simp⟩ }
  refine h dx _ hd0 dne (I.un (t' := tk2) U fun b o z => ?_)
  by_cases hb : b = a
  · subst hb
    rw [upd_same] at z
    cases z
    exact exo_ok hx
  · rw [upd_ne hb] at z
    by_cases hd : b = dx
    · subst hd
      rw [upd_same] at z
      cases z
      exact exd_ok hn (relO_put (fs := []) ry fun _ => True.intro)
    · rw [upd_ne hd] at z
      refine (I.hok b o z).stay (fun c v hc zz => kp c v ?_ zz) (fun c hc => ?_) (fun c xs hc => ?_)
      · rcases hc with hc | hc
        · rw [hc]
          exact hb
        · exact at_ne e hc exo_own
      · rw [upd_ne (at_ne e hc exo_own), upd_ne (ne_of_none hc hd0)]
        exact hc
      · rw [upd_ne (at_ne e hc exo_tup), upd_ne (ne_of_none hc hd0)]
        exact hc
end
def tOsG (K : PySem.W.Frag) (newId : String) (bmB : List Value) (f : Str) (to te : TE) : TS := fun D σ H => te σ H fun y H1 => to σ H1 fun x H2 => ∃ a C : Addr, x = .ref a ∧ ExS K C newId bmB ∧ PySem.W.findIn K (.ref C) f = some none ∧ H2 a = some (exo a C none) ∧
  ∀ dx, H2 dx = none → dx ≠ a → D.nx σ (upd (upd H2 dx (exd dx [(f, y)])) a (exo a C (some dx)))
section
variable {X : Cx} {o e : Expr} {es : List Expr} {to te : TE} {ta : TA} {f : Str} {p p' p1 p2 pos : Pos} {B newId initId : String} {bmB : List Value}
theorem ps_osG (SB : StoreFacts B bmB "object.__setattr__" "object") (hobj : bmB.contains (.type "object") = true) (ho : PE X o to) (he : PE X e te) (hs : swapsWith e (some (.Attribute o f p')) pos.line X.env = pure false := by rfl) : PS X (.Assign [.Attribute o f p'] e pos) (tOsG X.K newId bmB f to te) := by
  refine ⟨fun pins s σ H D I h => ?_⟩
  refine plainObj_wpAny_Assign_Attribute (thn (he.run pins s σ H _ I h) fun v s1 ⟨y, H1, I1, r1, q1⟩ => thn (ho.run pins s1 σ H1 _ I1 q1) fun u s2 ⟨x, H2, I2, r2, a, C, ex, T, hno, ea, q⟩ => ?_) hs
  subst ex
  obtain rfl : u = Value.ref a := r2
  exact ostG SB hobj T I2 ea hno r1 fun dx s' n ne J => ⟨σ, _, J, q dx n ne⟩
/-- C(e, ..), its own __init__ keeping sp -/
theorem pmk_exF {CX : CXT} {x : Str} {C fI : Addr} {k : Nat} {fd : FuncData} {ps : List Str} {sp : Sp} {ds : List Value} {dvs : List V} (Fb : ExcBaseFacts B newId initId bmB) (T : ExC X.K C newId bmB) (iC : PySem.W.findIn X.K (.ref C) "__init__" = some (some (.ref fI))) (tI : PySem.W.typeIn X.K (.ref fI) = some (.type "function"))
    (F1 : FnOk X.prog X.w X.K X.mg X.base CX k fI fd ps sp) (hr : Room (k + 1) X.A) (hb : Binds X.K fd ps ds) (hd : Vals dvs ds) (hx : Passes CX X (fun _ _ _ => False)) (hg : Gl X x) (hm : X.mg x = some (.ref C)) (ha : PA X (e :: es) ta)
    (hdb : (x == ("__debug__" : Str)) = false := by decide) (he : starEach (e :: es) X.env = (false, eval e X.env) :: starEach es X.env := by rfl) (hpl : (backTo pos (starEach es X.env)).any (·.1) = false := by rfl) :
    PMk X (.Call (.Name x p) (e :: es) [] pos) (tMkO C sp dvs ta) := by
  intro pins s σ H Q I h
  obtain ⟨nm, q, N, bs, sn, sub, ab, col, dd, k0, k1, k2, k3, k5, hC⟩ := T.cls
  refine wpAny_Call_Name_kw (ld_glob I hg hm ?_ hdb)
  refine PySem.W.callWith_K (h₀ := X.base) I.ok.mod.kin T.kC (thn (ha.run pos pins s σ H _ I h) fun us s1 ⟨vs, H1, I1, r1, hz, q1⟩ => ⟨I1.kIn, ?_⟩) he hpl
  show wpAny _ _ (call (.ref C) us) _ _ _
  obtain ⟨hp, g, dr, tk, os⟩ := s1
  have hsz : hp.objs.size ≤ hp.objs.size + 1 := Nat.le_succ _
  have hq := q1 (hp.objs.size + 1) (I1.hok.fresh hsz)
  have kk : ∀ b o, hp.get? b = some o → ((hp.push (PySem.W.kdv_tup us)).push (PySem.HandSPX.excO C hp.objs.size)).get? b = some o := fun b o z => Heap.get?_push_of_some _ (Heap.get?_push_of_some _ z)
  have hget : ((hp.push (PySem.W.kdv_tup us)).push (PySem.HandSPX.excO C hp.objs.size)).get? (hp.objs.size + 1) = some (PySem.HandSPX.excO C hp.objs.size) := by heap_get
  have I2 : Inv X pins σ (upd H1 (hp.objs.size + 1) (exo (hp.objs.size + 1) C none)) ⟨(hp.push (PySem.W.kdv_tup us)).push (PySem.HandSPX.excO C hp.objs.size), g, dr, tk, os⟩ :=
    I1.laid (t' := tk) (a := hp.objs.size + 1) (o := exo (hp.objs.size + 1) C none) (h' := (hp.push (PySem.W.kdv_tup us)).push (PySem.HandSPX.excO C hp.objs.size)) kk hsz (exo_ok hget)
  have r2 : Vals (V.ref (hp.objs.size + 1) :: (vs ++ dvs)) (Value.ref (hp.objs.size + 1) :: (us ++ ds)) := .cons rfl (r1.append hd)
  have hl : (Value.ref (hp.objs.size + 1) :: us ++ ds).length = ps.length := by
    have z := r2.length
    rw [F1.len _ _ _ _ hq] at z
    exact z.symm
  have hus : us.length ≤ sizeLine := by
    rw [← Paired.length r1, sizeLine_eq]
    omega
  refine wpAny_call (PySem.HandSPX.call_own Fb (fun Y => rfl) (I1.kIn _ _ hC) (PySem.W.looks_findIn I1.kIn iC) (fun self => PySem.W.bind_fn I1.kIn self tI) hus
    (codeAny_mono (F1.run _ X.stack _ _ ⟨Value.ref (hp.objs.size + 1) :: us, []⟩ (Value.ref (hp.objs.size + 1) :: (us ++ ds)) _ _ (fun _ _ _ => False) (hr.make C us []) (I2.env0.make C us []) (hb _ (Value.ref (hp.objs.size + 1) :: us) I2.kIn hl) r2 hq) fun r s' hq' => ?_))
  cases r with
  | error er => exact hx pins σ _ _ er s' I2 hq'
  | ok fl =>
    cases fl with
    | ret u =>
      obtain ⟨v, H2, os2, bare2, un2, hok2, rv, ev, d, fs, ea, ed, hd1, q2⟩ := hq'
      subst ev
      obtain ⟨h2, g2, d2, t2, os'⟩ := s'
      exact ⟨rv, mk_end (raises_own T.exC T.tyC) I1 hsz kk un2 hok2 os2 bare2 ea ed hd1 q2⟩
    | next => exact False.elim hq'
    | brk => exact False.elim hq'
    | cont => exact False.elim hq'
theorem typ_OverflowError : typeOf (.type "OverflowError") = pure (.type "type") := by kernel_rfl
theorem pe_initOverflowError {pl : Sem Bool} (hg : Gl X "OverflowError") (hm : X.mg "OverflowError" = none) (vV : PySem.W.findCls X.K (.type "OverflowError") (.type "type") "__init__" = some (.val (.builtin "OverflowError.__init__"))) (ha : PA X (e :: es) ta)
    (hc : eval (.Call (.Attribute (.Name "OverflowError" p1) "__init__" p2) (e :: es) [] pos) X.env = (do
      let ov ← eval (.Name "OverflowError" p1) X.env
      standAt p2.atName
      let (f, first) ← holding [ov] (getMethod ov "__init__" pl)
      callWith pos f first (backTo pos (starEach (e :: es) X.env)) (backToKw pos (keywordEach [] X.env))) := by rfl)
    (he : starEach (e :: es) X.env = (false, eval e X.env) :: starEach es X.env := by rfl) (hpl : (backTo pos (starEach es X.env)).any (·.1) = false := by rfl) :
    PE X (.Call (.Attribute (.Name "OverflowError" p1) "__init__" p2) (e :: es) [] pos) (tExI X.K "OverflowError.__new__" [.type "OverflowError", .type "ArithmeticError", .type "Exception", .type "BaseException", .type "object"] ta) := by
  refine ⟨fun pins s σ H Q I h => ?_⟩
  refine PySem.W.methodCall_KW (ld_blt I hg hm PyProof.Rows.Boot.«OverflowError» ?_ (by decide) (by decide)) hc
  obtain ⟨m, fr⟩ := I.fr
  refine PySem.W.method_type fr I.ok.mod.kin typ_OverflowError (by decide +kernel) vV (by decide +kernel) ?_
  show wpAny _ _ (callWith pos (Value.builtin "OverflowError.__init__") [] (backTo pos (starEach (e :: es) X.env)) []) _ _ _
  refine PyProof.Rows.callWith_method1 (thn (ha.run pos pins _ σ H _ (I.tok _) h) fun us s1 ⟨vs, H1, I1, r1, a, C, ws, ev, hl, T, ea, q⟩ => ?_) he hpl
  subst ev
  cases r1 with
  | @cons _ u0 _ ur ra rw' =>
    obtain rfl : u0 = Value.ref a := ra
    have hlen : ur.length ≤ sizeLine := by
      rw [← Paired.length rw', sizeLine_eq]
      omega
    exact einit_ok PySem.F.excBase_OverflowError T I1 ea hlen fun s' J => ⟨.non, H1, J, rfl, q⟩
end
end EXB

set_option Elab.async false
set_option linter.all false
set_option maxRecDepth 100000
set_option maxHeartbeats 4000000
namespace PySem.F
theorem exk_store : StoreFacts "KeyError" [.type "KeyError", .type "LookupError", .type "Exception", .type "BaseException", .type "object"] "object.__setattr__" "object" := { store_IndexError with
  mro := (by kernel_rfl)
  slot := (.of (owner := "object") (n := "__setattr__") (by rw [typeLookup_type, builtinLookup_eq_fast]; kernel_rfl) (by decide +kernel) (by decide +kernel) (by decide +kernel) (by first | exact .inl (by decide +kernel) | exact .inr (by decide +kernel)) (by rw [isSubtype_type]; kernel_rfl))
  passes := (fun self => by kernel_rfl) }
end PySem.F
namespace EXB
open PySem PySem.Spec PyProof.Rows L2
/-- what making an error by newId asks of the types above its class -/
def NwF (newId : String) (bm : List Value) : Prop := ∃ B initId bmB, ExcBaseFacts B newId initId bmB ∧ bm.contains (.type B) = true ∧ bm.contains (.type "AttributeError") = false ∧ bm.contains (.type "NameError") = false
theorem NwF.of {B newId initId : String} {bmB : List Value} (F : ExcBaseFacts B newId initId bmB) : NwF newId bmB := ⟨B, initId, bmB, F, F.hasB, F.noAttr, F.noName⟩
theorem nw_key : NwF "LookupError.__new__" [.type "KeyError", .type "LookupError", .type "Exception", .type "BaseException", .type "object"] := ⟨_, _, _, PySem.F.excBase_LookupError, by decide +kernel, by decide +kernel, by decide +kernel⟩
/-- what B.__init__(e, ..) asks -/
structure InF (B initId : String) (bm : List Value) : Prop where
  plain : plainId initId = true
  entry : entryFor table initId = some Builtin.«BaseException.__init__»
  split : splitId initId = some (B, "__init__")
  kind : builtinKind initId = some .slot
  row : Manifest.signature? initId = some ⟨.positional, "*", B, .self, [⟨"args", .varPos, false⟩]⟩
  star : (B != "*") = true
  hasB : bm.contains (.type B) = true
theorem InF.of {B newId initId : String} {bmB : List Value} (F : ExcBaseFacts B newId initId bmB) : InF B initId bmB := ⟨F.init.plain, F.initEntry, F.initSplit, F.initKind, F.initRow, F.noStar, F.hasB⟩
open PySem.F in
theorem in_key : InF "KeyError" "KeyError.__init__" [.type "KeyError", .type "LookupError", .type "Exception", .type "BaseException", .type "object"] where
  plain := (by decide +kernel)
  entry := (entryFor_alias (id' := "BaseException.__init__") (by rw [fastTable_eq_tree]; kernel_rfl) (by first | rfl | decide +kernel) (by decide +kernel) (by rw [fastTable_eq_tree]; kernel_rfl))
  split := (by kernel_rfl)
  kind := (by kernel_rfl)
  row := (by kernel_rfl)
  star := (by decide +kernel)
  hasB := (by decide +kernel)
section
variable {prog : Program} {w : World} {A : Around} {E : Value → Shared → Prop} {R : Result → Shared → Prop} {h : Heap} {g : Array GenState} {d : Drawn} {t : Nat} {os : OsState}
variable {nm q : Str} {C N : Addr} {bs bm : List Value} {hdct : Bool} {sn : List Str} {sub : List Value} {ab : Bool} {col : Option Bool} {dd : Option Addr} {k0 k1 k2 k3 k5 : Option Value} {B newId initId : String}
theorem newW (F : NwF newId bm) {rest : List Value} (hC : h.get? C = some (excClassObj nm q C N bs bm hdct sn sub ab col dd k0 k1 k2 k3 k5 newId))
    (hq : R (.ok (.ret (.ref (h.objs.size + 1)))) ⟨(h.push (PySem.W.kdv_tup rest)).push (PySem.HandSPX.excO C h.objs.size), g, d, t, os⟩) (hrest : rest.length ≤ sizeLine) :
    codeAny (model prog w) A (.builtin newId ⟨.ref C :: rest, []⟩) R ⟨h, g, d, t, os⟩ := by
  obtain ⟨B, initId, bmB, F, hB, hA, hN⟩ := F
  have hends := F.ends
  have cB : (Value.ref C :: bm).contains (.type B) = true := by rw [List.contains_cons, hB, Bool.or_true]
  have cA : (Value.ref C :: bm).contains (.type "AttributeError") = false := by rw [List.contains_cons, hA]; rfl
  have cN : (Value.ref C :: bm).contains (.type "NameError") = false := by rw [List.contains_cons, hN]; rfl
  refine codeAny_builtinAt F.entry ?_
  unfold Builtin.«BaseException.__new__»
  refine PySem.wpAt_bind ?_
  show PySem.wpAt _ _ _ (stack >>= _) _ _ _
  refine PySem.wpAt_bind (PySem.wpAt_stack fun p below => PySem.wpAt_of_wpAny ?_)
  wp_walk
  refine PySem.wpAt_of_wpAny ?_
  rw [F.owner]
  repeat (first | with_reducible refine wpAny_madeHere_exc F.canon hC ?_ | with_reducible refine wpAny_loadPart_at hC ?_ | (with_reducible refine wpAny_isSubtype_exc hC ?_; first | rw [cB] | rw [cA] | rw [cN]) | wp_step)
  show R _ _
  rw [Heap.size_push]
  exact hq
theorem chkW {M : Model} (F : NwF newId bm) {rest : List Value} {Q : Unit → Shared → Prop} (hC : h.get? C = some (excClassObj nm q C N bs bm hdct sn sub ab col dd k0 k1 k2 k3 k5 newId)) (hq : Q () ⟨h, g, d, t, os⟩) :
    wpAny M A (checkBuiltinCall newId ⟨.ref C :: rest, []⟩) Q E ⟨h, g, d, t, os⟩ := by
  obtain ⟨B, initId, bmB, F, hB, hA, hN⟩ := F
  have cB : (Value.ref C :: bm).contains (.type B) = true := by rw [List.contains_cons, hB, Bool.or_true]
  have hstar := F.noStar
  simp only [checkBuiltinCall, F.newKind, F.newSplit, F.newRow]
  repeat (first | refine wpAny_loadPart_at hC ?_ | (refine wpAny_isSubtype_exc hC ?_; rw [cB]) | refine wpAny_staticBase_exc hC ?_ | refine wpAny_madeBy_exc hC ?_ | simp only [bne_self_eq_false, Bool.false_eq_true, if_false] | wp_step)
  exact hq
theorem NwF.quiet (F : NwF newId bm) : newId.startsWith "lifetime." = false := by
  obtain ⟨B, initId, bmB, F, _⟩ := F
  exact F.quiet
theorem tcW (F : NwF newId bm) {rest : List Value} {fI : Addr} {Q : Fin → Shared → Prop}
    (hC : h.get? C = some (excClassObj nm q C N bs bm hdct sn sub ab col dd k0 k1 k2 k3 k5 newId)) (hi : PySem.W.Looks (model prog w) h (typeLookup (.ref C) "__init__") (some (.ref fI)))
    (hb : ∀ self, PySem.W.Looks (model prog w) h (bindSpecial (.ref fI) self) (.ref fI, [self])) (hrest : rest.length ≤ sizeLine)
    (hq : codeAny (model prog w) A (.call (.ref fI) ⟨.ref (h.objs.size + 1) :: rest, []⟩) (fun r s' => match r with | .ok (.ret v) => v = .none ∧ Q (.done (.ret (.ref (h.objs.size + 1)))) s' | .ok _ => False | .error e => E e s')
      ⟨(h.push (PySem.W.kdv_tup rest)).push (PySem.HandSPX.excO C h.objs.size), g, d, t, os⟩) :
    wpAny (model prog w) A (Builtin.«type.__call__» ⟨.ref C :: rest, []⟩) Q E ⟨h, g, d, t, os⟩ := by
  repeat (first | with_reducible refine wpAny_loadPart_at hC ?_ | with_reducible refine wpAny_madeBy_exc hC ?_ | wp_step)
  refine codeAny_call_builtin_code (Code.quiet_builtin _ F.quiet) (chkW F hC (newW F hC ?_ hrest))
  show wpAny _ _ _ _ _ _
  have k : ∀ b o, h.get? b = some o → ((h.push (PySem.W.kdv_tup rest)).push (PySem.HandSPX.excO C h.objs.size)).get? b = some o := fun b o e => Heap.get?_push_of_some _ (Heap.get?_push_of_some _ e)
  have hC1 := k _ _ hC
  have hget : ((h.push (PySem.W.kdv_tup rest)).push (PySem.HandSPX.excO C h.objs.size)).get? (h.objs.size + 1) = some (PySem.HandSPX.excO C h.objs.size) := by heap_get
  have cC : (Value.ref C :: bm).contains (.ref C) = true := by simp
  have i1 := hi.keeps k
  have b1 := (hb (.ref (h.objs.size + 1))).keeps k
  unfold isInstance
  repeat (first | with_reducible refine wpAny_loadPart_at hget ?_ | (with_reducible refine wpAny_isSubtype_exc hC1 ?_; rw [cC]) | wp_step)
  show wpAny _ _ (typeLookup (.ref C) _) _ _ _
  refine i1.at ?_
  refine wpAny_holding (wpAny_bind (b1.at ?_))
  refine wpAny_bind (wpAny_call (codeAny_mono hq fun r s' z => ?_))
  rcases r with e | (v | _ | _ | _) <;> first | exact z | exact z.elim | skip
  obtain ⟨rfl, z⟩ := z
  first
    | exact wpAny_pure (wpAny_pure z)
    | (wp_walk; exact z)
/-- C(..), C an own error class, by what stands above it -/
theorem callW (F : NwF newId bm) {rest : List Value} {fI : Addr}
    (hC : h.get? C = some (excClassObj nm q C N bs bm hdct sn sub ab col dd k0 k1 k2 k3 k5 newId)) (hi : PySem.W.Looks (model prog w) h (typeLookup (.ref C) "__init__") (some (.ref fI)))
    (hb : ∀ self, PySem.W.Looks (model prog w) h (bindSpecial (.ref fI) self) (.ref fI, [self])) (hrest : rest.length ≤ sizeLine)
    (hq : codeAny (model prog w) (A.under (.builtin "type.__call__" ⟨.ref C :: rest, []⟩)) (.call (.ref fI) ⟨.ref (h.objs.size + 1) :: rest, []⟩) (PySem.W.InitBack (h.objs.size + 1) R)
      ⟨(h.push (PySem.W.kdv_tup rest)).push (PySem.HandSPX.excO C h.objs.size), g, d, t, os⟩) :
    codeAny (model prog w) A (.call (.ref C) ⟨rest, []⟩) R ⟨h, g, d, t, os⟩ := by
  have f1 := tc_lookup
  have f2 := tc_bind (.ref C)
  have hTy : (⟨h, g, d, t, os⟩ : Shared).TypeIs (.ref C) "type" := ⟨_, hC, rfl⟩
  refine codeAny_of_tree ?_
  show wpAny _ _ (callAny (.ref C) _) _ _ _
  repeat (any_goals (first | assumption | with_reducible refine wpAny_loadPart_at hC ?_ | wp_step))
  refine ⟨rfl, ?_⟩
  refine codeAny_call_builtin_at (Code.quiet_builtin _ (by decide +kernel)) entry_typeCall (wpAny_check_type_call_sub hC (tcW F hC hi hb hrest ?_))
  refine codeAny_mono hq fun r s' z => ?_
  rcases r with e | (v | _ | _ | _) <;> exact z
/-- B.__init__(e, ..) by what it asks -/
theorem initW (F : InF B initId bm) {e t0 : Addr} {rest : List Value}
    (hC : h.get? C = some (excClassObj nm q C N bs bm hdct sn sub ab col dd k0 k1 k2 k3 k5 newId)) (he : h.get? e = some (PySem.HandSPX.excO C t0)) (hrest : rest.length ≤ sizeLine)
    (hq : ∀ h' t1, (∀ b o, b ≠ e → h.get? b = some o → h'.get? b = some o) → h'.get? e = some (PySem.HandSPX.excO C t1) → R (.ok (.ret .none)) ⟨h', g, d, t, os⟩) :
    codeAny (model prog w) A (.call (.builtin initId) ⟨.ref e :: rest, []⟩) R ⟨h, g, d, t, os⟩ := by
  have cB : (Value.ref C :: bm).contains (.type B) = true := by rw [List.contains_cons, F.hasB, Bool.or_true]
  have hstar := F.star
  refine codeAny_call_builtin F.plain F.entry ?_
  simp only [checkBuiltinCall, F.kind, F.split, F.row]
  repeat (first | with_reducible refine wpAny_loadPart_at he ?_ | with_reducible refine wpAny_loadPart_at hC ?_ | (with_reducible refine wpAny_isSubtype_exc hC ?_; rw [cB]) | wp_step)
  refine wpAny_onRaise ?_
  rw [show ∀ (a b : String) (n : Nat), Bind.check ⟨.positional, "*", B, .self, [⟨"args", .varPos, false⟩]⟩ a b n (List.map (fun x => x.fst) ({ pos := Value.ref e :: rest } : Args).kw) = pure () from fun a b n => check_star_args _ _ _ _ _ _]
  refine wpAny_pure ?_
  wp_walk
  refine hq _ h.objs.size (fun b o hb ho => ?_) ?_
  · rw [Heap.get?_update_other _ _ (Ne.symm hb)]
    exact Heap.get?_push_of_some _ ho
  · rw [Heap.get?_update_self _ (Heap.get?_push_of_some _ he) rfl]
    rfl
end
section
variable {X : Cx} {pins : List (Addr × Obj)} {σ : L2.St} {H : Hp} {s : Shared} {a C : Addr} {A : Around} {E : Value → Shared → Prop} {B newId initId : String} {bmB : List Value}
theorem einitW {us : List Value} {Q : Value → Shared → Prop} (F : InF B initId bmB) (T : ExC X.K C newId bmB) (I : Inv X pins σ H s) (e : H a = some (exo a C none)) (hl : us.length ≤ sizeLine) (h : ∀ s', Inv X pins σ H s' → Q .none s') :
    wpAny (model X.prog X.w) A (call (.builtin initId) (.ref a :: us)) Q E s := by
  obtain ⟨nm, q, N, bs, sn, sub, ab, col, dd, k0, k1, k2, k3, k5, hC⟩ := T.cls
  obtain ⟨t1, ho⟩ := exo_at I.hok e
  obtain ⟨hp, g, d, t, os⟩ := s
  refine wpAny_call (initW F (I.kIn _ _ hC) ho hl fun h' t2 k hx => ?_)
  have J := I.write (t' := t) (x := a) (e := a) (o := exo a C none) (by rw [e]; exact True.intro) (.inl rfl) k ⟨_, hx⟩ (exo_ok hx)
  have eu : upd H a (exo a C none) = H := by
    funext b
    by_cases hb : b = a
    · rw [hb, upd_same, e]
    · rw [upd_ne hb]
  rw [eu] at J
  exact h _ J
end
section
variable {X : Cx} {e : Expr} {es : List Expr} {ta : TA} {p p1 p2 pos : Pos} {B newId initId : String} {bmB : List Value}
theorem typ_ArithmeticError : typeOf (.type "ArithmeticError") = pure (.type "type") := by kernel_rfl
theorem pe_initArithmeticError {pl : Sem Bool} (hg : Gl X "ArithmeticError") (hm : X.mg "ArithmeticError" = none) (vV : PySem.W.findCls X.K (.type "ArithmeticError") (.type "type") "__init__" = some (.val (.builtin "ArithmeticError.__init__"))) (ha : PA X (e :: es) ta)
    (hc : eval (.Call (.Attribute (.Name "ArithmeticError" p1) "__init__" p2) (e :: es) [] pos) X.env = (do
      let ov ← eval (.Name "ArithmeticError" p1) X.env
      standAt p2.atName
      let (f, first) ← holding [ov] (getMethod ov "__init__" pl)
      callWith pos f first (backTo pos (starEach (e :: es) X.env)) (backToKw pos (keywordEach [] X.env))) := by rfl)
    (he : starEach (e :: es) X.env = (false, eval e X.env) :: starEach es X.env := by rfl) (hpl : (backTo pos (starEach es X.env)).any (·.1) = false := by rfl) :
    PE X (.Call (.Attribute (.Name "ArithmeticError" p1) "__init__" p2) (e :: es) [] pos) (tExI X.K "ArithmeticError.__new__" [.type "ArithmeticError", .type "Exception", .type "BaseException", .type "object"] ta) := by
  refine ⟨fun pins s σ H Q I h => ?_⟩
  refine PySem.W.methodCall_KW (ld_blt I hg hm PyProof.Rows.Boot.«ArithmeticError» ?_ (by decide) (by decide)) hc
  obtain ⟨m, fr⟩ := I.fr
  refine PySem.W.method_type fr I.ok.mod.kin typ_ArithmeticError (by decide +kernel) vV (by decide +kernel) ?_
  show wpAny _ _ (callWith pos (Value.builtin "ArithmeticError.__init__") [] (backTo pos (starEach (e :: es) X.env)) []) _ _ _
  refine PyProof.Rows.callWith_method1 (thn (ha.run pos pins _ σ H _ (I.tok _) h) fun us s1 ⟨vs, H1, I1, r1, a, C, ws, ev, hl, T, ea, q⟩ => ?_) he hpl
  subst ev
  cases r1 with
  | @cons _ u0 _ ur ra rw' =>
    obtain rfl : u0 = Value.ref a := ra
    have hlen : ur.length ≤ sizeLine := by
      rw [← Paired.length rw', sizeLine_eq]
      omega
    exact einitW (InF.of PySem.F.excBase_ArithmeticError) T I1 ea hlen fun s' J => ⟨.non, H1, J, rfl, q⟩
theorem typ_IndexError : typeOf (.type "IndexError") = pure (.type "type") := by kernel_rfl
theorem pe_initIndexError {pl : Sem Bool} (hg : Gl X "IndexError") (hm : X.mg "IndexError" = none) (vV : PySem.W.findCls X.K (.type "IndexError") (.type "type") "__init__" = some (.val (.builtin "IndexError.__init__"))) (ha : PA X (e :: es) ta)
    (hc : eval (.Call (.Attribute (.Name "IndexError" p1) "__init__" p2) (e :: es) [] pos) X.env = (do
      let ov ← eval (.Name "IndexError" p1) X.env
      standAt p2.atName
      let (f, first) ← holding [ov] (getMethod ov "__init__" pl)
      callWith pos f first (backTo pos (starEach (e :: es) X.env)) (backToKw pos (keywordEach [] X.env))) := by rfl)
    (he : starEach (e :: es) X.env = (false, eval e X.env) :: starEach es X.env := by rfl) (hpl : (backTo pos (starEach es X.env)).any (·.1) = false := by rfl) :
    PE X (.Call (.Attribute (.Name "IndexError" p1) "__init__" p2) (e :: es) [] pos) (tExI X.K "IndexError.__new__" [.type "IndexError", .type "LookupError", .type "Exception", .type "BaseException", .type "object"] ta) := by
  refine ⟨fun pins s σ H Q I h => ?_⟩
  refine PySem.W.methodCall_KW (ld_blt I hg hm PyProof.Rows.Boot.«IndexError» ?_ (by decide) (by decide)) hc
  obtain ⟨m, fr⟩ := I.fr
  refine PySem.W.method_type fr I.ok.mod.kin typ_IndexError (by decide +kernel) vV (by decide +kernel) ?_
  show wpAny _ _ (callWith pos (Value.builtin "IndexError.__init__") [] (backTo pos (starEach (e :: es) X.env)) []) _ _ _
  refine PyProof.Rows.callWith_method1 (thn (ha.run pos pins _ σ H _ (I.tok _) h) fun us s1 ⟨vs, H1, I1, r1, a, C, ws, ev, hl, T, ea, q⟩ => ?_) he hpl
  subst ev
  cases r1 with
  | @cons _ u0 _ ur ra rw' =>
    obtain rfl : u0 = Value.ref a := ra
    have hlen : ur.length ≤ sizeLine := by
      rw [← Paired.length rw', sizeLine_eq]
      omega
    exact einitW (InF.of PySem.F.excBase_IndexError) T I1 ea hlen fun s' J => ⟨.non, H1, J, rfl, q⟩
theorem typ_LookupError : typeOf (.type "LookupError") = pure (.type "type") := by kernel_rfl
theorem pe_initLookupError {pl : Sem Bool} (hg : Gl X "LookupError") (hm : X.mg "LookupError" = none) (vV : PySem.W.findCls X.K (.type "LookupError") (.type "type") "__init__" = some (.val (.builtin "LookupError.__init__"))) (ha : PA X (e :: es) ta)
    (hc : eval (.Call (.Attribute (.Name "LookupError" p1) "__init__" p2) (e :: es) [] pos) X.env = (do
      let ov ← eval (.Name "LookupError" p1) X.env
      standAt p2.atName
      let (f, first) ← holding [ov] (getMethod ov "__init__" pl)
      callWith pos f first (backTo pos (starEach (e :: es) X.env)) (backToKw pos (keywordEach [] X.env))) := by rfl)
    (he : starEach (e :: es) X.env = (false, eval e X.env) :: starEach es X.env := by rfl) (hpl : (backTo pos (starEach es X.env)).any (·.1) = false := by rfl) :
    PE X (.Call (.Attribute (.Name "LookupError" p1) "__init__" p2) (e :: es) [] pos) (tExI X.K "LookupError.__new__" [.type "LookupError", .type "Exception", .type "BaseException", .type "object"] ta) := by
  refine ⟨fun pins s σ H Q I h => ?_⟩
  refine PySem.W.methodCall_KW (ld_blt I hg hm PyProof.Rows.Boot.«LookupError» ?_ (by decide) (by decide)) hc
  obtain ⟨m, fr⟩ := I.fr
  refine PySem.W.method_type fr I.ok.mod.kin typ_LookupError (by decide +kernel) vV (by decide +kernel) ?_
  show wpAny _ _ (callWith pos (Value.builtin "LookupError.__init__") [] (backTo pos (starEach (e :: es) X.env)) []) _ _ _
  refine PyProof.Rows.callWith_method1 (thn (ha.run pos pins _ σ H _ (I.tok _) h) fun us s1 ⟨vs, H1, I1, r1, a, C, ws, ev, hl, T, ea, q⟩ => ?_) he hpl
  subst ev
  cases r1 with
  | @cons _ u0 _ ur ra rw' =>
    obtain rfl : u0 = Value.ref a := ra
    have hlen : ur.length ≤ sizeLine := by
      rw [← Paired.length rw', sizeLine_eq]
      omega
    exact einitW (InF.of PySem.F.excBase_LookupError) T I1 ea hlen fun s' J => ⟨.non, H1, J, rfl, q⟩
theorem typ_RuntimeError : typeOf (.type "RuntimeError") = pure (.type "type") := by kernel_rfl
theorem pe_initRuntimeError {pl : Sem Bool} (hg : Gl X "RuntimeError") (hm : X.mg "RuntimeError" = none) (vV : PySem.W.findCls X.K (.type "RuntimeError") (.type "type") "__init__" = some (.val (.builtin "RuntimeError.__init__"))) (ha : PA X (e :: es) ta)
    (hc : eval (.Call (.Attribute (.Name "RuntimeError" p1) "__init__" p2) (e :: es) [] pos) X.env = (do
      let ov ← eval (.Name "RuntimeError" p1) X.env
      standAt p2.atName
      let (f, first) ← holding [ov] (getMethod ov "__init__" pl)
      callWith pos f first (backTo pos (starEach (e :: es) X.env)) (backToKw pos (keywordEach [] X.env))) := by rfl)
    (he : starEach (e :: es) X.env = (false, eval e X.env) :: starEach es X.env := by rfl) (hpl : (backTo pos (starEach es X.env)).any (·.1) = false := by rfl) :
    PE X (.Call (.Attribute (.Name "RuntimeError" p1) "__init__" p2) (e :: es) [] pos) (tExI X.K "RuntimeError.__new__" [.type "RuntimeError", .type "Exception", .type "BaseException", .type "object"] ta) := by
  refine ⟨fun pins s σ H Q I h => ?_⟩
  refine PySem.W.methodCall_KW (ld_blt I hg hm PyProof.Rows.Boot.«RuntimeError» ?_ (by decide) (by decide)) hc
  obtain ⟨m, fr⟩ := I.fr
  refine PySem.W.method_type fr I.ok.mod.kin typ_RuntimeError (by decide +kernel) vV (by decide +kernel) ?_
  show wpAny _ _ (callWith pos (Value.builtin "RuntimeError.__init__") [] (backTo pos (starEach (e :: es) X.env)) []) _ _ _
  refine PyProof.Rows.callWith_method1 (thn (ha.run pos pins _ σ H _ (I.tok _) h) fun us s1 ⟨vs, H1, I1, r1, a, C, ws, ev, hl, T, ea, q⟩ => ?_) he hpl
  subst ev
  cases r1 with
  | @cons _ u0 _ ur ra rw' =>
    obtain rfl : u0 = Value.ref a := ra
    have hlen : ur.length ≤ sizeLine := by
      rw [← Paired.length rw', sizeLine_eq]
      omega
    exact einitW (InF.of PySem.F.excBase_RuntimeError) T I1 ea hlen fun s' J => ⟨.non, H1, J, rfl, q⟩
theorem typ_KeyError : typeOf (.type "KeyError") = pure (.type "type") := by kernel_rfl
theorem pe_initKeyError {pl : Sem Bool} (hg : Gl X "KeyError") (hm : X.mg "KeyError" = none) (vV : PySem.W.findCls X.K (.type "KeyError") (.type "type") "__init__" = some (.val (.builtin "KeyError.__init__"))) (ha : PA X (e :: es) ta)
    (hc : eval (.Call (.Attribute (.Name "KeyError" p1) "__init__" p2) (e :: es) [] pos) X.env = (do
      let ov ← eval (.Name "KeyError" p1) X.env
      standAt p2.atName
      let (f, first) ← holding [ov] (getMethod ov "__init__" pl)
      callWith pos f first (backTo pos (starEach (e :: es) X.env)) (backToKw pos (keywordEach [] X.env))) := by rfl)
    (he : starEach (e :: es) X.env = (false, eval e X.env) :: starEach es X.env := by rfl) (hpl : (backTo pos (starEach es X.env)).any (·.1) = false := by rfl) :
    PE X (.Call (.Attribute (.Name "KeyError" p1) "__init__" p2) (e :: es) [] pos) (tExI X.K "LookupError.__new__" [.type "KeyError", .type "LookupError", .type "Exception", .type "BaseException", .type "object"] ta) := by
  refine ⟨fun pins s σ H Q I h => ?_⟩
  refine PySem.W.methodCall_KW (ld_blt I hg hm PyProof.Rows.Boot.«KeyError» ?_ (by decide) (by decide)) hc
  obtain ⟨m, fr⟩ := I.fr
  refine PySem.W.method_type fr I.ok.mod.kin typ_KeyError (by decide +kernel) vV (by decide +kernel) ?_
  show wpAny _ _ (callWith pos (Value.builtin "KeyError.__init__") [] (backTo pos (starEach (e :: es) X.env)) []) _ _ _
  refine PyProof.Rows.callWith_method1 (thn (ha.run pos pins _ σ H _ (I.tok _) h) fun us s1 ⟨vs, H1, I1, r1, a, C, ws, ev, hl, T, ea, q⟩ => ?_) he hpl
  subst ev
  cases r1 with
  | @cons _ u0 _ ur ra rw' =>
    obtain rfl : u0 = Value.ref a := ra
    have hlen : ur.length ≤ sizeLine := by
      rw [← Paired.length rw', sizeLine_eq]
      omega
    exact einitW in_key T I1 ea hlen fun s' J => ⟨.non, H1, J, rfl, q⟩
end
/-- an error that stands, of the class at C -/
def IsEr (H : Hp) (C a : Addr) : Prop := H a = some (exo a C none) ∨ ∃ d fs, H a = some (exo a C (some d)) ∧ H d = some (exd d fs)
theorem IsEr.same {H H' : Hp} {C a : Addr} (h : IsEr H C a) (s : Same H H') : IsEr H' C a := by
  rcases h with h | ⟨d, fs, h1, h2⟩
  · exact .inl (s _ _ h)
  · exact .inr ⟨d, fs, s _ _ h1, s _ _ h2⟩
def tMkE (C : Addr) (sp : Sp) (ta : TA) : TE := fun σ H Q => ta σ H fun vs H1 => vs.length ≤ 1000 ∧ ∀ a, H1 a = none → sp (.ref a :: vs) (upd H1 a (exo a C none)) (fun v H2 => v = .non ∧ Q (.ref a) H2) (fun _ _ _ => False)
section
variable {X : Cx} {e : Expr} {es : List Expr} {ta : TA} {p pos : Pos} {B newId initId : String} {bmB : List Value}
/-- the call C(..) of arguments that stand -/
theorem mkE_run {C fI : Addr} {k : Nat} {fd : FuncData} {ps : List Str} {sp : Sp} {pins : List (Addr × Obj)} {σ : L2.St} {H1 : Hp} {s1 : Shared} {us : List Value} {vs : List V} {Q : VK} (Fb : NwF newId bmB) (T : ExC X.K C newId bmB) (iC : PySem.W.findIn X.K (.ref C) "__init__" = some (some (.ref fI))) (tI : PySem.W.typeIn X.K (.ref fI) = some (.type "function"))
    (F1 : FnOk X.prog X.w X.K X.mg X.base CX0 k fI fd ps sp) (hr : Room (k + 1) X.A) (hb : Binds X.K fd ps []) (I1 : Inv X pins σ H1 s1) (r1 : Vals vs us) (hz : vs.length ≤ 1000) (q1 : ∀ a, H1 a = none → sp (.ref a :: vs) (upd H1 a (exo a C none)) (fun v H2 => v = .non ∧ Q (.ref a) H2) (fun _ _ _ => False)) :
    wpAny (model X.prog X.w) X.A (call (.ref C) us) (EP X pins σ Q) X.xe s1 := by
  obtain ⟨nm, q, N, bs, sn, sub, ab, col, dd, k0, k1, k2, k3, k5, hC⟩ := T.cls
  obtain ⟨hp, g, dr, tk, os⟩ := s1
  have hsz : hp.objs.size ≤ hp.objs.size + 1 := Nat.le_succ _
  have hq := q1 (hp.objs.size + 1) (I1.hok.fresh hsz)
  have kk : ∀ b o, hp.get? b = some o → ((hp.push (PySem.W.kdv_tup us)).push (PySem.HandSPX.excO C hp.objs.size)).get? b = some o := fun b o z => Heap.get?_push_of_some _ (Heap.get?_push_of_some _ z)
  have hget : ((hp.push (PySem.W.kdv_tup us)).push (PySem.HandSPX.excO C hp.objs.size)).get? (hp.objs.size + 1) = some (PySem.HandSPX.excO C hp.objs.size) := by heap_get
  have I2 : Inv X pins σ (upd H1 (hp.objs.size + 1) (exo (hp.objs.size + 1) C none)) ⟨(hp.push (PySem.W.kdv_tup us)).push (PySem.HandSPX.excO C hp.objs.size), g, dr, tk, os⟩ :=
    I1.laid (t' := tk) (a := hp.objs.size + 1) (o := exo (hp.objs.size + 1) C none) (h' := (hp.push (PySem.W.kdv_tup us)).push (PySem.HandSPX.excO C hp.objs.size)) kk hsz (exo_ok hget)
  have r2 : Vals (V.ref (hp.objs.size + 1) :: vs) (Value.ref (hp.objs.size + 1) :: us) := .cons rfl r1
  have hl : (Value.ref (hp.objs.size + 1) :: us ++ []).length = ps.length := by
    have z := r2.length
    rw [F1.len _ _ _ _ hq] at z
    simpa using z.symm
  have hus : us.length ≤ sizeLine := by
    rw [← Paired.length r1, sizeLine_eq]
    omega
  refine wpAny_call (callW Fb (I1.kIn _ _ hC) (PySem.W.looks_findIn I1.kIn iC) (fun self => PySem.W.bind_fn I1.kIn self tI) hus
    (codeAny_mono (F1.run _ X.stack _ _ ⟨Value.ref (hp.objs.size + 1) :: us, []⟩ (Value.ref (hp.objs.size + 1) :: us) _ _ (fun _ _ _ => False) (hr.make C us []) (I2.env0.make C us []) (by simpa using hb _ (Value.ref (hp.objs.size + 1) :: us) I2.kIn hl) r2 hq) fun r s' hq' => ?_))
  cases r with
  | error er => exact False.elim hq'
  | ok fl =>
    cases fl with
    | ret u =>
      obtain ⟨v, H', I3, rv, ev, q3⟩ := I2.after hq'
      subst ev
      exact ⟨rv, ⟨V.ref (hp.objs.size + 1), H', (I3 : Inv X pins σ H' s'), rfl, q3⟩⟩
    | next => exact False.elim hq'
    | brk => exact False.elim hq'
    | cont => exact False.elim hq'
/-- C(e, ..), the error being kept -/
theorem pe_mkE {x : Str} {C fI : Addr} {k : Nat} {fd : FuncData} {ps : List Str} {sp : Sp} (Fb : NwF newId bmB) (T : ExC X.K C newId bmB) (iC : PySem.W.findIn X.K (.ref C) "__init__" = some (some (.ref fI))) (tI : PySem.W.typeIn X.K (.ref fI) = some (.type "function"))
    (F1 : FnOk X.prog X.w X.K X.mg X.base CX0 k fI fd ps sp) (hr : Room (k + 1) X.A) (hb : Binds X.K fd ps []) (hg : Gl X x) (hm : X.mg x = some (.ref C)) (ha : PA X (e :: es) ta)
    (hdb : (x == ("__debug__" : Str)) = false := by decide) (he : starEach (e :: es) X.env = (false, eval e X.env) :: starEach es X.env := by rfl) (hpl : (backTo pos (starEach es X.env)).any (·.1) = false := by rfl) :
    PE X (.Call (.Name x p) (e :: es) [] pos) (tMkE C sp ta) := by
  refine ⟨fun pins s σ H Q I h => ?_⟩
  refine wpAny_Call_Name_kw (ld_glob I hg hm ?_ hdb)
  refine PySem.W.callWith_K (h₀ := X.base) I.ok.mod.kin T.kC (thn (ha.run pos pins s σ H _ I h) fun us s1 ⟨vs, H1, I1, r1, hz, q1⟩ => ⟨I1.kIn, ?_⟩) he hpl
  exact mkE_run Fb T iC tI F1 hr hb I1 r1 hz q1
/-- C(), the error being kept -/
theorem pe_mkE0 {x : Str} {C fI : Addr} {k : Nat} {fd : FuncData} {ps : List Str} {sp : Sp} (Fb : NwF newId bmB) (T : ExC X.K C newId bmB) (iC : PySem.W.findIn X.K (.ref C) "__init__" = some (some (.ref fI))) (tI : PySem.W.typeIn X.K (.ref fI) = some (.type "function"))
    (F1 : FnOk X.prog X.w X.K X.mg X.base CX0 k fI fd ps sp) (hr : Room (k + 1) X.A) (hb : Binds X.K fd ps []) (hg : Gl X x) (hm : X.mg x = some (.ref C)) (hdb : (x == ("__debug__" : Str)) = false := by decide) :
    PE X (.Call (.Name x p) [] [] pos) (tMkE C sp tNil) := by
  refine ⟨fun pins s σ H Q I h => ?_⟩
  refine wpAny_Call_Name_kw (ld_glob I hg hm ?_ hdb)
  refine PySem.W.callWith_K0 I.kIn T.kC ?_
  have h' : ([] : List V).length ≤ 1000 ∧ ∀ a, H a = none → sp (.ref a :: []) (upd H a (exo a C none)) (fun v H2 => v = .non ∧ Q (.ref a) H2) (fun _ _ _ => False) := h
  exact mkE_run Fb T iC tI F1 hr hb I .nil h'.1 h'.2
end
/-- isinstance(x, c), x an error that stands -/
def rIsV (K : PySem.W.Frag) : List V → Hp → VK → Prop := fun xs H Q => ∃ (a D : Addr) (c : V) (u : Value) (b : Bool), xs = [.ref a, c] ∧ IsEr H D a ∧ ExcC K D ∧ (∀ w, RelV c w → w = u) ∧ PySem.W.kitOne K (.ref D) u = some b ∧ Q (.bl b) H
theorem call_isV {X : Cx} : CallR X (.builtin "isinstance") (rIsV X.K) := by
  intro pins s σ H xs us Q I r h
  obtain ⟨a, D, c, u, b, rfl, he, C, hcv, e, q⟩ := h
  cases r with
  | cons rx rr =>
    cases rr with
    | cons rt rr =>
      cases rr
      cases rx
      have ec := hcv _ rt
      subst ec
      have hcl : (PySem.W.clsIn X.K D).isSome = true := by
        obtain ⟨cd, hc, _⟩ := PySem.W.any_some C.hd
        rw [hc]
        rfl
      have J : ∃ oe od, PySem.W.InstAt s.heap a oe D od := by
        rcases he with he | ⟨d, fs, h1, h2⟩
        · obtain ⟨t1, ho⟩ := exo_at I.hok he
          exact ⟨_, none, ho, rfl, rfl, trivial⟩
        · obtain ⟨t1, ho⟩ := exo_at I.hok h1
          obtain ⟨o, hd⟩ := objOk_get (I.hok d _ h2)
          exact ⟨_, some o, ho, rfl, rfl, hd⟩
      obtain ⟨oe, od, J⟩ := J
      exact PySem.W.kia_one (PySem.W.kitx_exc hcl C.hg C.hk C.hs C.ha C.hn C.ht C.hm) I.kIn J e (fun z => nomatch z) fun tk => ⟨.bl b, H, I.kept (t' := tk) fun _ _ z => z, rfl, q⟩
/-- the field n of an error that stands -/
def tFE (K : PySem.W.Frag) (n : Str) (te : TE) : TE := fun σ H Q => te σ H fun x H1 => ∃ (a C dd : Addr) (fs : List (Str × V)) (v : V), x = .ref a ∧ H1 a = some (exo a C (some dd)) ∧ H1 dd = some (exd dd fs) ∧ XfC K C ∧ PySem.W.findIn K (.ref C) n = some none ∧ fs.lookup n = some v ∧ Q v H1
theorem pe_fE {X : Cx} {e : Expr} {te : TE} {pos : Pos} {n : Str} (he : PE X e te) (hb : attributeBase e n X.env (eval e X.env) = eval e X.env := by rfl) : PE X (.Attribute e n pos) (tFE X.K n te) := by
  refine ⟨fun pins s σ H Q I h => ?_⟩
  refine attr_of hb (thn (he.run pins s σ H _ I h) fun u s1 hh => ?_)
  obtain ⟨x, H1, I1, rx, a, C, dd, fs, v, ex, ea, ed, T, hno, l, q⟩ := hh
  subst ex
  obtain rfl : u = Value.ref a := rx
  obtain ⟨t1, ha⟩ := exo_at I1.hok ea
  obtain ⟨mA, hns, hr⟩ := exd_at I1.hok ed
  obtain ⟨od, ho, hl⟩ := lookIn_ns hns
  obtain ⟨u, hu, ru⟩ := RelO.some_of (v := v) (o := mA n) (by rw [← l]; exact hr n)
  have J : PySem.W.InstAt s1.heap a { cls := .ref C, dict := some dd, data := .fields #[.ref t1, .none, .none, .none, .bool false, .none] } C (some od) := ⟨ha, rfl, rfl, ho⟩
  exact HandSPX.exc_get I1.kIn J T.ga T.gg T.exC (PySem.W.findObj_own T.hdC hno rfl (by rw [hl, hu])) (handed_of ru) ⟨v, H1, I1.tok _, ru, q⟩
end EXB

set_option Elab.async false
set_option linter.all false
set_option maxRecDepth 100000
set_option maxHeartbeats 4000000
namespace Tk
open PySem PySem.Spec PyProof.Rows L2
/-! ### an error that was caught and is kept -/
/-- the caught error's object, of the class cls, with the dict d -/
def ErK (cls : Value) (d : Option Addr) (a : Addr) : HO := .ext fun h => ∃ (oe : Obj) (vs : Array Value), h.get? a = some oe ∧ Zc cls d oe ∧ oe.data = .fields vs
theorem erK_ok {P : Program} {w : World} {H : Hp} {h : Heap} {a : Addr} {cls : Value} {d : Option Addr} {oe : Obj} {vs : Array Value} (e : h.get? a = some oe) (z : Zc cls d oe) (hd : oe.data = .fields vs) : ObjOk P w H h a (ErK cls d a) :=
  ⟨⟨oe, vs, e, z, hd⟩, ⟨oe, e⟩, fun _ _ ⟨o, v, q, r⟩ k => ⟨o, v, k o q, r⟩⟩
section
variable {X : Cx} {pins : List (Addr × Obj)} {σ : L2.St} {H : Hp} {s : Shared}
/-- an object that stands, untracked so far, is tracked from here on -/
theorem Inv.track {a : Addr} {oe : Obj} {vs : Array Value} {cls : Value} {d : Option Addr} (I : Inv X pins σ H s) (e : s.heap.get? a = some oe) (z : Zc cls d oe) (hd : oe.data = .fields vs) (na : H a = none) (nL : X.env.locals ≠ a)
    (n0 : ∀ b o, X.s_0.heap.get? b = some o → b ∉ X.ex → b ≠ a) (nC : ∀ x c, X.env.cells.lookup x = some c → c ≠ a) (nP : ∀ p ∈ X.pn ++ pins, p.1 ≠ a) : Inv X pins σ (upd H a (ErK cls d a)) s := by
  have neS : ∀ b o, H b = some o → b ≠ a := fun b o q => ne_of_none q na
  refine ⟨I.ok, I.os, I.bare, ⟨I.base.keep, I.base.slot, fun b o q n x => ?_, I.base.there, fun b xs q => ?_, fun b o u q => ?_, fun b ps q => ?_⟩, I.loc, I.cell, ?_, fun x c q => ?_, fun p hp => ?_, fun b ob q => ?_, I.len⟩
  · rw [upd_ne (n0 b o q x)]
    exact I.base.free b o q n x
  · have := I.base.tups b xs q
    rw [upd_ne (neS b _ this)]
    exact this
  · have := I.base.frzs b o u q
    rw [upd_ne (neS b _ this)]
    exact this
  · obtain ⟨more, this⟩ := I.base.tbls b ps q
    exact ⟨more, by rw [upd_ne (neS b _ this)]; exact this⟩
  · rw [upd_ne nL]
    exact I.free
  · rw [upd_ne (nC x c q)]
    exact I.freeC x c q
  · obtain ⟨p1, p2, p3, p4, p5⟩ := I.pin p hp
    exact ⟨p1, by rw [upd_ne (nP p hp)]; exact p2, p3, p4, p5⟩
  · by_cases hb : b = a
    · subst hb
      rw [upd_same] at q
      cases q
      exact erK_ok e z hd
    · rw [upd_ne hb] at q
      exact (I.hok b ob q).stay (fun c v _ k => k) (fun c k => by rw [upd_ne (neS c _ k)]; exact k) fun c xs k => by rw [upd_ne (neS c _ k)]; exact k
end
/-! ### a clause that names several classes -/
section
variable {M : Model} {A : Around} {E : Value → Shared → Prop} {s : Shared}
theorem loop_unit {f : Value → PUnit → Sem (ForInStep PUnit)} : ∀ {cs : List Value} {Q : PUnit → Shared → Prop}, (∀ c ∈ cs, ∀ {R : ForInStep PUnit → Shared → Prop}, R (.yield ⟨⟩) s → wpAny M A (f c ⟨⟩) R E s) → Q ⟨⟩ s → wpAny M A (forIn cs ⟨⟩ f) Q E s
  | [], Q, _, q => by
    rw [List.forIn_nil]
    exact wpAny_pure q
  | c :: cs, Q, h, q => by
    rw [List.forIn_cons]
    refine wpAny_bind (h c (List.mem_cons_self ..) ?_)
    exact loop_unit (fun x hx => h x (List.mem_cons_of_mem _ hx)) q
theorem loop_any {β : Type} {init d : β} {hit : Value → Bool} {f : Value → β → Sem (ForInStep β)} : ∀ {cs : List Value} {Q : β → Shared → Prop}, (∀ c ∈ cs, ∀ {R : ForInStep β → Shared → Prop}, R (if hit c = true then .done d else .yield init) s → wpAny M A (f c init) R E s) → Q (if cs.any hit = true then d else init) s → wpAny M A (forIn cs init f) Q E s
  | [], Q, _, q => by
    rw [List.forIn_nil]
    exact wpAny_pure q
  | c :: cs, Q, h, q => by
    rw [List.forIn_cons]
    refine wpAny_bind (h c (List.mem_cons_self ..) ?_)
    by_cases hc : hit c = true
    · rw [if_pos hc]
      rw [List.any_cons, hc, Bool.true_or, if_pos rfl] at q
      exact wpAny_pure q
    · rw [if_neg hc]
      refine loop_any (fun x hx => h x (List.mem_cons_of_mem _ hx)) ?_
      rw [List.any_cons, Bool.eq_false_iff.mpr hc, Bool.false_or] at q
      exact q
end
def hitK (K : PySem.W.Frag) (cls c : Value) : Bool := PySem.W.exmOne K cls c == some true
theorem any_hit {K : PySem.W.Frag} {cls : Value} : ∀ {cs : List Value} {b : Bool}, PySem.W.exmAny K cls cs = some b → cs.any (hitK K cls) = b ∧ ∀ c ∈ cs, ∃ v, PySem.W.exmOne K cls c = some v
  | [], b, h => by
    have : some false = some b := h
    cases this
    exact ⟨rfl, fun c hc => by cases hc⟩
  | c :: cs, b, h => by
    obtain ⟨b1, d1, e1, e2, rfl⟩ := PySem.W.exmAny_cons h
    obtain ⟨i1, i2⟩ := any_hit e2
    refine ⟨?_, fun x hx => ?_⟩
    · rw [List.any_cons, i1]
      unfold hitK
      rw [e1]
      cases b1 <;> rfl
    · rcases List.mem_cons.mp hx with rfl | hx
      · exact ⟨b1, e1⟩
      · exact i2 x hx
section
variable {M : Model} {K : PySem.W.Frag}
open PySem.W in
theorem exm_tupN {cs : List Value} {cls : Value} {tp e : Addr} {b : Bool} {h : Heap} (X : K.In h) (LT : Looks M h (typeOf (.ref e)) cls) (hp : h.get? tp = some { cls := .type "tuple", data := .seq cs.toArray }) (hx : exmAny K cls cs = some b) :
    Looks M h (excMatches (.ref e) (.ref tp)) b := by
  intro A Q E s k₀ q
  obtain ⟨hh, g, d, tk, os⟩ := s
  have k : ∀ b o, h.get? b = some o → hh.get? b = some o := k₀
  have LT0 : Looks M h (isInstance (.ref tp) (.type "tuple")) true := ((Looks.ld hp).andThen .now).andThen (Looks.of_pure isSubtype_tuple_tuple)
  obtain ⟨ha, hall⟩ := any_hit hx
  have LT := LT.keeps k
  have LT0 := LT0.keeps k
  have hp' := k _ _ hp
  subst ha
  unfold excMatches
  refine wpAny_bind (LT0.at ?_)
  dsimp only
  rw [if_pos rfl]
  first
    | refine wpAny_bind (wpAny_seqItems hp' rfl ?_)
    | refine wpAny_bind (wpAny_bind (wpAny_seqItems hp' rfl (wpAny_pure ?_)))
  dsimp only [Option.getD_some, Option.getD]
  have ec : cs.toArray.toList = cs := by simp
  try rw [ec]
  first
    | refine wpAny_bind (wpAny_pure ?_)
    | skip
  refine wpAny_bind (loop_unit (fun c hc {R} r => ?_) ?_)
  · obtain ⟨v, hv⟩ := hall c hc
    obtain ⟨e1, _⟩ := exm_cls (M := M) X hv
    refine wpAny_bind ((e1.keeps k).at ?_)
    simp only [Bool.not_true, Bool.false_eq_true, if_false]
    exact wpAny_pure r
  refine wpAny_bind (LT.at ?_)
  refine wpAny_bind (loop_any (hit := hitK K cls) (d := (some true, ())) (fun c hc {R} r => ?_) ?_)
  · obtain ⟨v, hv⟩ := hall c hc
    obtain ⟨_, S1⟩ := exm_cls (M := M) X hv
    refine wpAny_bind ((S1.keeps k).at ?_)
    have hh : hitK K cls c = v := by
      unfold hitK
      rw [hv]
      cases v <;> rfl
    rw [hh] at r
    cases v with
    | true => exact wpAny_pure r
    | false => exact wpAny_pure r
  cases hcs : cs.any (hitK K cls) with
  | true =>
    rw [hcs] at q
    exact wpAny_pure q
  | false =>
    rw [hcs] at q
    exact wpAny_pure q
end
/-! ### try: body, except T as n: suite; the error is kept -/
theorem flying_keeps {base h h' : Heap} {l : List Env} {e : Addr} {Z : Obj → Prop} (x : HandSPX.FlyingZ base l e Z h) (k : ∀ b o, h.get? b = some o → h'.get? b = some o) : HandSPX.FlyingZ base l e Z h' := by
  obtain ⟨a1, a2, a3, oe, vs, T, oT, ts, e1, e2, e3, e4, e5, e6, e7, e8, e9⟩ := x
  exact ⟨fun b o q => k b o (a1 b o q), a2, Heap.FunFrames.of_keeps (fun b o q _ => ⟨o, k b o q, rfl⟩) a3, oe, vs, T, oT, ts, k _ _ e1, e2, e3, e4, e5, e6, k _ _ e7, e8, e9⟩
/-- what the clause's expression T says of an error of the class cls -/
def TestOk (X : Cx) (T : Expr) (tst : Value → Option Bool) : Prop :=
  ∀ (a : Addr) (pn : List (Addr × Obj)) (σ : L2.St) (H : Hp) (s : Shared) (cls : Value) (b : Bool) (Q : Bool → Shared → Prop) (E : Value → Shared → Prop), Inv (X.suite a pn) [] σ H s → PySem.W.Looks (model X.prog X.w) s.heap (typeOf (.ref a)) cls → tst cls = some b →
    (∀ h', (∀ q o, s.heap.get? q = some o → h'.get? q = some o) → Q b { s with heap := h' }) →
    wpAny (model X.prog X.w) (X.A.mark (some (.ref a))) (eval T X.env) (fun c s1 => wpAny (model X.prog X.w) (X.A.mark (some (.ref a))) (excMatches (.ref a) c) Q E s1) E s
section
variable {X : Cx}
theorem name_at {x : Str} {c : Value} {np : Pos} {a : Addr} {pn : List (Addr × Obj)} {σ : L2.St} {H : Hp} {s : Shared} {Q : Value → Shared → Prop} {E : Value → Shared → Prop} (hc : Names X x c) (S : Inv (X.suite a pn) [] σ H s) (q : Q c s) : wpAny (model X.prog X.w) (X.A.mark (some (.ref a))) (eval (.Name x np) X.env) Q E s := by
  obtain ⟨hg, hdbg, hm | ⟨hm, hv, hnn⟩⟩ := hc
  · exact ld_glob (X := X.suite a pn) S hg hm q hdbg
  · exact ld_blt (X := X.suite a pn) S hg hm hv q hnn hdbg
theorem test_one {x : Str} {c : Value} {np : Pos} (hc : Names X x c) : TestOk X (.Name x np) (fun cls => PySem.W.exmOne X.K cls c) := by
  intro a pn σ H s cls b Q E S LT hb q
  refine name_at hc S ?_
  exact (PySem.W.exm_one (M := model X.prog X.w) (S.kIn) LT hb).here (q s.heap fun _ _ z => z)
inductive NamesL (X : Cx) : List Expr → List Value → Prop
  | nil : NamesL X [] []
  | cons {x : Str} {c : Value} {np : Pos} {es : List Expr} {cs : List Value} (hc : Names X x c) (r : NamesL X es cs) : NamesL X (.Name x np :: es) (c :: cs)
theorem items_at {pos : Pos} {a : Addr} {pn : List (Addr × Obj)} {σ : L2.St} {H : Hp} {s : Shared} {E : Value → Shared → Prop} (S : Inv (X.suite a pn) [] σ H s) {es : List Expr} {cs : List Value} (nl : NamesL X es cs) : ∀ {Q : List Value → Shared → Prop}, Q cs s → wpAny (model X.prog X.w) (X.A.mark (some (.ref a))) (spliced (backTo pos (starEach es X.env))) Q E s := by
  induction nl with
  | nil => exact fun q => wpAny_items_nil q
  | cons hc r ih => exact fun q => wpAny_items_cons (name_at hc S (ih q)) rfl
theorem test_tup {es : List Expr} {cs : List Value} {k : Nat} {pos : Pos} (nl : NamesL X es cs) (hl : cs.length ≤ 100) : TestOk X (.Tuple es k pos) (fun cls => PySem.W.exmAny X.K cls cs) := by
  intro a pn σ H s cls b Q E S LT hb q
  refine wpAny_Tuple (items_at S nl ⟨by rw [sizeLine_eq]; omega, ?_⟩)
  have kp : ∀ b o, s.heap.get? b = some o → (s.heap.push { cls := .type "tuple", data := .seq cs.toArray }).get? b = some o := fun _ _ z => Heap.get?_push_of_some _ z
  exact (exm_tupN (M := model X.prog X.w) ((S.kIn).keeps kp) (LT.keeps kp) (Heap.get?_push_size s.heap rfl) hb).here (q _ kp)
end
/-- what such a clause wishes: n is slot i; the error stays in the heap -/
def wKeep (tst : Value → Option Bool) (i : Nat) (ts : Addr → Value → Option Addr → TS) (Wout : WX) (D : Ends) : WX := fun cls d σ H =>
  ∃ b, tst cls = some b ∧ (b = true → ∀ a, H a = none → ts a cls d { nx := fun σ' H' => D.nx (σ'.set i none) (upd H' a (ErK cls d a)), rt := fun _ _ => False, bk := fun _ _ => False, ct := fun _ _ => False } (σ.set i (some (.ref a))) H) ∧
    (b = false → Wout cls d σ H)
section
variable {X : Cx} {n : Str} {T : Expr} {tst : Value → Option Bool} {i : Nat} {body suite : List Stmt} {b₀ : Stmt} {pos pos' : Pos} {tb : WX → TS} {ts : Addr → Value → Option Addr → TS} {Wout : WX}
theorem ps_try_keep (hs : X.stack = X.env :: X.outer) (hf : X.env.frame = some X.env.locals) (hN : X.N.Nodup) (hi : X.N[i]? = some n) (hln : X.env.kindOf n = some .local) (hT : TestOk X T tst) (tk : Takes X Wout)
    (hb : ∀ (W : WX) (pn : List (Addr × Obj)) (xe : Value → Shared → Prop), Takes (X.tr pn xe) W → PassesOwn (model X.prog X.w) X.A X.env xe → PSs (X.tr pn xe) body (tb W))
    (hsu : ∀ (a : Addr) (oe : Obj) (cls : Value) (d : Option Addr) (pn : List (Addr × Obj)), Zc cls d oe → (∃ vs, oe.data = .fields vs) → PSs (X.suite a ((a, oe) :: pn)) (b₀ :: suite) (ts a cls d)) :
    PS X (.Try body [.ExceptHandler (some T) (some n) (b₀ :: suite) pos'] [] [] pos) (fun D σ H => tb (wKeep tst i ts Wout D) D σ H) := by
  constructor
  intro pins s σ H D I h
  have ok := I.ok
  have frs_ : X.A.frames = some (X.env :: X.outer) := by rw [ok.frames, hs]
  have loc_ : Loc X.env.scope n := .inl hln
  apply wpAny_Try_except
  refine wpAny_mono ((hb (wKeep tst i ts Wout D) (X.pn ++ pins) (fun e s₁ => wpAny (model X.prog X.w) X.A (noteFrame e X.env) (fun _ s₂ => wpAny (model X.prog X.w) X.A (setFlight e none) (fun _ s₃ =>
    wpAny (model X.prog X.w) X.A (handleBy e X.env [.ExceptHandler (some T) (some n) (b₀ :: suite) pos']) (SP X pins D) X.xe s₃) X.xe s₂) X.xe s₁) ?cat PassesOwn.looking).run [] s σ H D (I.toTry _) h) ?bod (fun e s1 he => he)
  case bod =>
    intro f s1 hsp
    cases f with
    | next =>
      obtain ⟨σ', H', J', q⟩ := hsp
      exact wpAny_execs_nil ⟨σ', H', J'.ofTry ok, q⟩
    | brk =>
      obtain ⟨σ', H', J', q⟩ := hsp
      exact ⟨σ', H', J'.ofTry ok, q⟩
    | cont =>
      obtain ⟨σ', H', J', q⟩ := hsp
      exact ⟨σ', H', J'.ofTry ok, q⟩
    | ret u =>
      obtain ⟨v, σ', H', J', r, q⟩ := hsp
      exact ⟨v, σ', H', J'.ofTry ok, r, q⟩
  case cat =>
    intro u s' xx
    obtain ⟨a, B, sI, pins', σ', H', cls, d, rfl, J', nb, up, sky, na, os, ag, b, hb1, hyes, hno⟩ := xx
    have J : Inv X pins σ' H' sI := J'.ofTry ok
    have skyX : Sky B (X.env :: X.outer) a (Zc cls d) X.env.locals s'.heap := by rw [← hs]; exact sky
    have nB : B.get? a = none := by
      rcases skyX with h | h | h
      · exact h.2.1
      · exact h.2.1
      · exact h.2.1
    show wpAny (model X.prog X.w) X.A (noteFrame (.ref a) X.env) _ _ _
    refine Sky.land Zc.steady frs_ hf skyX fun h3 fl3 up3 => ?_
    have J3 : Inv X pins σ' H' { s' with heap := h3 } := J.landed nb fl3.1 (up.trans up3) os ag
    obtain ⟨oe3, vs3, he3, hz3, hd3⟩ := fl3.there
    have nfr : a ∉ frs (X.env :: X.outer) := fun hm => by
      obtain ⟨_, o', e', hnf⟩ := fl3.2.2.1.mem hm
      rw [he3] at e'
      cases e'
      exact hnf _ hd3
    have nL : a ≠ X.env.locals := fun z => nfr (List.mem_filterMap.mpr ⟨X.env, List.mem_cons_self, by rw [hf, z]⟩)
    have nF : a ∉ X.fs := fun hm => by
      obtain ⟨e, he, q⟩ := List.mem_filterMap.mp hm
      exact nfr (List.mem_filterMap.mpr ⟨e, List.mem_cons_of_mem _ he, q⟩)
    have nI : sI.heap.get? a = none := by
      cases e : sI.heap.get? a with
      | none => rfl
      | some o =>
        have := nb a o e (by rw [hs]; exact nfr)
        rw [nB] at this
        cases this
    have S3 := J3.suite he3 hd3 na nL nF
    refine wpAny_handleBy_cons (codeAny_handlers_test ?_) (by intro q; cases q)
    have LT : PySem.W.Looks (model X.prog X.w) h3 (typeOf (.ref a)) cls := fun A Q E s k q => wpAny_typeOf_ref (k _ _ he3) (by rw [hz3.1]; exact q)
    refine hT a _ σ' H' { s' with heap := h3 } cls b _ _ S3 LT hb1 fun h5 k5 => ?_
    have fl5 := flying_keeps fl3 k5
    have up5 : h3.UpToSlots h5 := Heap.UpToSlots.of_keeps k5
    cases b with
    | true =>
      refine codeAny_handlers_suite_as ?_
      refine HandSPX.lands_againZ fl5 fun h4 fl4 up4 => ?_
      have J4 : Inv X pins σ' H' { s' with heap := h4 } := J.landed nb fl4.1 (((up.trans up3).trans up5).trans up4) os ag
      obtain ⟨oe4, vs4, he4, hz4, hd4⟩ := fl4.there
      have S4 := J4.suite he4 hd4 na nL nF
      refine store_ok (X := X.suite a ((a, oe4) :: (X.pn ++ pins))) (v := .ref a) S4 hN hi loc_ rfl (fun s5 S5 => ?_) (.inr hln)
      refine wpAny_mono ((hsu a oe4 cls d (X.pn ++ pins) hz4 ⟨_, hd4⟩).run [] s5 _ H' _ S5 (hyes rfl a na)) (fun f s6 hsp => ?_) (fun _ _ z => False.elim z)
      cases f with
      | next =>
        obtain ⟨σ6, H6, S6, q6⟩ := hsp
        obtain ⟨p1, p2, p3, p4, p5⟩ := S6.pin (a, oe4) (List.mem_append_left _ (List.mem_cons_self ..))
        have T6 := Inv.track (S6.unsuite ok) p1 hz4 hd4 p2 (Ne.symm nL) (fun b o e x z => by
            obtain ⟨o', e'⟩ := J.base.there b o e x
            rw [z, nI] at e'
            cases e') (fun x c e z => by
            obtain ⟨v, hv⟩ := J.cell x c e
            obtain ⟨o, ho, _⟩ := hv
            rw [z, nI] at ho
            cases ho) (fun p hp z => by
            have := (J.pin p hp).1
            rw [z, nI] at this
            cases this)
        exact gone_ok T6 hN hi hln fun s7 J7 => ⟨_, _, J7, q6⟩
      | brk =>
        obtain ⟨σ6, H6, S6, q6⟩ := hsp
        exact q6.elim
      | cont =>
        obtain ⟨σ6, H6, S6, q6⟩ := hsp
        exact q6.elim
      | ret u =>
        obtain ⟨v6, σ6, H6, S6, r6, q6⟩ := hsp
        exact q6.elim
    | false =>
      show wpAny _ X.A (handleBy (.ref a) X.env []) _ _ _
      refine wpAny_handleBy_nil ?_
      obtain ⟨k1, k2, k3, oe, vs, T, oT, ts', he, hz, hd, h1, hr⟩ := id fl5
      unfold PySem.passOn
      refine wpAny_bind (wpAny_field he hd h1 ?_)
      rw [if_neg (show ¬ ((Value.ref T == Value.none) = true) from by simp)]
      have fin : wpAny (model X.prog X.w) X.A (setFlight (.ref a) X.env.frame) (fun _ s4 => wpAny (model X.prog X.w) X.A (throw (.ref a) : Sem Flow) (SP X pins D) X.xe s4) X.xe { s' with heap := h5 } := by
        rw [hf]
        refine HandSPX.setFlight_upZ fl5 fun h4 hh4 up4 => wpAny_throw (tk _ _ ?_)
        exact ⟨a, B, sI, pins, σ', H', cls, d, rfl, J, nb, ((up.trans up3).trans up5).trans up4, .inr (.inr (by rw [hs]; exact hh4)), na, os, ag, hno rfl⟩
      first
        | exact wpAny_bind (wpAny_pure (wpAny_bind fin))
        | exact wpAny_bind fin
end
end Tk

set_option Elab.async false
set_option linter.all false
set_option maxRecDepth 100000
set_option maxHeartbeats 4000000
namespace Tk
open PySem PySem.Spec PyProof.Rows L2
/-! ### questions to an error that was kept -/
/-- the error a of the own class C stands, with these fields -/
def IsK (H : Hp) (C a : Addr) (fs : List (Str × V)) : Prop := ∃ dd, H a = some (ErK (.ref C) (some dd) a) ∧ H dd = some (.xd fs)
theorem IsK.same {H H' : Hp} {C a : Addr} {fs : List (Str × V)} (h : IsK H C a fs) (s : Same H H') : IsK H' C a fs :=
  let ⟨dd, h1, h2⟩ := h; ⟨dd, s _ _ h1, s _ _ h2⟩
/-- an error that was caught, its dict a given one, is one -/
theorem IsK.of {H : Hp} {C a dd : Addr} {fs : List (Str × V)} (na : H a = none) (hd : H dd = some (.xd fs)) : IsK (upd H a (ErK (.ref C) (some dd) a)) C a fs :=
  ⟨dd, upd_same, by rw [upd_ne (ne_of_none hd na)]; exact hd⟩
theorem erK_at {P : Program} {w : World} {H : Hp} {h : Heap} {a : Addr} {cls : Value} {d : Option Addr} (hok : HOk P w H h) (e : H a = some (ErK cls d a)) : ∃ (oe : Obj) (vs : Array Value), h.get? a = some oe ∧ Zc cls d oe ∧ oe.data = .fields vs := by
  have x : ObjOk P w H h a (.ext fun h => ∃ (oe : Obj) (vs : Array Value), h.get? a = some oe ∧ Zc cls d oe ∧ oe.data = .fields vs) := hok a _ e
  exact x.1
theorem isK_at {P : Program} {w : World} {H : Hp} {h : Heap} {C a : Addr} {fs : List (Str × V)} (hok : HOk P w H h) (k : IsK H C a fs) : ∃ (oe od : Obj) (mA : Str → Option Value), PySem.W.InstAt h a oe C (some od) ∧ (∀ n, PySem.W.lookIn n od = some (mA n)) ∧ ∀ n, RelO (fs.lookup n) (mA n) := by
  obtain ⟨dd, h1, h2⟩ := k
  obtain ⟨oe, vs, ha, hz, hd⟩ := erK_at hok h1
  have hx : ObjOk P w H h dd (.xd fs) := hok dd _ h2
  obtain ⟨mA, hns, hr⟩ := hx
  obtain ⟨od, ho, hl⟩ := lookIn_ns hns
  exact ⟨oe, od, mA, ⟨ha, hz.1, by unfold PySem.W.notCls; rw [hd] <;> rfl, by rw [hz.2]; exact ho⟩, hl, hr⟩
/-- isinstance(x, c), x an error that was kept -/
def rIsK (K : PySem.W.Frag) : List V → Hp → VK → Prop := fun xs H Q => ∃ (a C : Addr) (fs : List (Str × V)) (c : V) (u : Value) (b : Bool), xs = [.ref a, c] ∧ IsK H C a fs ∧ ExcC K C ∧ (∀ w, RelV c w → w = u) ∧ PySem.W.kitOne K (.ref C) u = some b ∧ Q (.bl b) H
theorem call_isK {X : Cx} : CallR X (.builtin "isinstance") (rIsK X.K) := by
  intro pins s σ H xs us Q I r h
  obtain ⟨a, D, fs, c, u, b, rfl, he, C, hcv, e, q⟩ := h
  cases r with
  | cons rx rr =>
    cases rr with
    | cons rt rr =>
      cases rr
      cases rx
      have ec := hcv _ rt
      subst ec
      obtain ⟨oe, od, mA, J, _, _⟩ := isK_at I.hok he
      have hcl : (PySem.W.clsIn X.K D).isSome = true := by
        obtain ⟨cd, hc, _⟩ := PySem.W.any_some C.hd
        rw [hc]
        rfl
      exact PySem.W.kia_one (PySem.W.kitx_exc hcl C.hg C.hk C.hs C.ha C.hn C.ht C.hm) I.kIn J e (fun z => nomatch z) fun tk => ⟨.bl b, H, I.kept (t' := tk) fun _ _ z => z, rfl, q⟩
/-- the field n of an error that was kept -/
def tFK (K : PySem.W.Frag) (n : Str) (te : TE) : TE := fun σ H Q => te σ H fun x H1 => ∃ (a C : Addr) (fs : List (Str × V)) (v : V), x = .ref a ∧ IsK H1 C a fs ∧ XfC K C ∧ PySem.W.findIn K (.ref C) n = some none ∧ fs.lookup n = some v ∧ Q v H1
theorem pe_fK {X : Cx} {e : Expr} {te : TE} {pos : Pos} {n : Str} (he : PE X e te) (hb : attributeBase e n X.env (eval e X.env) = eval e X.env := by rfl) : PE X (.Attribute e n pos) (tFK X.K n te) := by
  refine ⟨fun pins s σ H Q I h => ?_⟩
  refine attr_of hb (thn (he.run pins s σ H _ I h) fun u s1 hh => ?_)
  obtain ⟨x, H1, I1, rx, a, C, fs, v, ex, hk, T, hno, l, q⟩ := hh
  subst ex
  obtain rfl : u = Value.ref a := rx
  obtain ⟨oe, od, mA, J, hl, hr⟩ := isK_at I1.hok hk
  obtain ⟨u, hu, ru⟩ := RelO.some_of (v := v) (o := mA n) (by rw [← l]; exact hr n)
  exact HandSPX.exc_get I1.kIn J T.ga T.gg T.exC (PySem.W.findObj_own T.hdC hno rfl (by rw [hl, hu])) (handed_of ru) ⟨v, H1, I1.tok _, ru, q⟩
/-- two promises of one def: what is told quietly, what may raise -/
theorem orX {P : Program} {w : World} {K : PySem.W.Frag} {mg : Str → Option Value} {base : Heap} {k : Nat} {f : Addr} {fd : FuncData} {ps : List Str} {sp1 sp2 : Sp} (F1 : FnOk P w K mg base CX0 k f fd ps sp1) (F2 : FnOk P w K mg base (L2.CX P w) k f fd ps sp2) :
    FnOk P w K mg base (L2.CX P w) k f fd ps (fun vs H Q E => sp1 vs H Q L2.E0 ∨ sp2 vs H Q E) := by
  refine ⟨fun vs H Q E h => h.elim (F1.len vs H Q _) (F2.len vs H Q E), fun A outer s H args us vs Q E hr e b r h => ?_⟩
  rcases h with h | h
  · refine codeAny_mono (F1.run A outer s H args us vs Q _ hr e b r h) fun r s' hq => ?_
    cases r with
    | error e => exact hq.elim
    | ok fl => cases fl <;> exact hq
  · exact F2.run A outer s H args us vs Q E hr e b r h
mutual
theorem dp_same {K : PySem.W.Frag} {H H' : Hp} (s : Same H H') : ∀ (d : PyData) (v : V), Dp K H v d → Dp K H' v d
  | .none, _, .non => .non
  | .bool b, _, .bl _ => .bl b
  | .int i, _, .int _ => .int i
  | .str x, _, .str _ => .str x
  | .list ds, _, .lst a b => .lst (s.seq a) (dps_same s ds _ b)
  | .tuple ds, _, .tup a b => .tup (Co.seqT s a) (dps_same s ds _ b)
theorem dps_same {K : PySem.W.Frag} {H H' : Hp} (s : Same H H') : ∀ (ds : List PyData) (vs : List V), DpAll K H vs ds → DpAll K H' vs ds
  | [], _, .nil => .nil
  | d :: ds, _, .cons a b => .cons (dp_same s d _ a) (dps_same s ds _ b)
end
end Tk

set_option Elab.async false
set_option linter.all false
set_option maxRecDepth 100000
set_option maxHeartbeats 4000000
namespace Tk
open PySem PySem.Spec PyProof.Rows L2
/-- isinstance(x, (c1, c2, ..)), x an error that was kept, the tuple just laid -/
def rIsKT (K : PySem.W.Frag) : List V → Hp → VK → Prop := fun xs H Q => ∃ (a C tp : Addr) (fs : List (Str × V)) (cs : List V) (us : List Value) (b : Bool), xs = [.ref a, .ref tp] ∧ H tp = some (.tup cs) ∧ Paired ClsV cs us ∧ IsK H C a fs ∧ ExcC K C ∧ PySem.W.kitAny K (.ref C) us = some b ∧ Q (.bl b) H
theorem call_isKT {X : Cx} : CallR X (.builtin "isinstance") (rIsKT X.K) := by
  intro pins s σ H xs us Q I r h
  obtain ⟨a, D, tp, fs, cs, ws, b, rfl, hT, k, he, C, e, q⟩ := h
  obtain ⟨u1, u2, rfl, r1, r2⟩ := vals2 r
  cases (show u1 = Value.ref a from r1)
  cases (show u2 = Value.ref tp from r2)
  obtain ⟨oe, od, mA, J, _, _⟩ := isK_at I.hok he
  obtain ⟨_, its, rv, o, h1, h2, n, h3⟩ := (show ObjOk X.prog X.w H s.heap tp (.tup cs) from I.hok tp _ hT)
  have e3 := ClsV.all k rv
  subst e3
  obtain ⟨oc, odt, dt, sl⟩ := o
  simp only at h2 h3
  subst h2 h3
  have hcl : (PySem.W.clsIn X.K D).isSome = true := by
    obtain ⟨cd, hc, _⟩ := PySem.W.any_some C.hd
    rw [hc]
    rfl
  exact PySem.W.kia_tup (PySem.W.kitx_exc hcl C.hg C.hk C.hs C.ha C.hn C.ht C.hm) I.kIn J h1 e (fun z => nomatch z) fun tk => ⟨.bl b, H, I.tok tk, rfl, q⟩
end Tk

set_option Elab.async false
set_option linter.all false
set_option maxRecDepth 100000
set_option maxHeartbeats 8000000
namespace K43
open PySem PySem.Spec PyProof.Rows L2 BX EXB Co Ru
open Dz Cs Hr
open Rs (Rsp Rv Ret tYes_of dV datR Flat Okr spShares spRowsL spTotal spCopied eqv_dR)
open Fr (Bd)
def topS (i : Nat) : Stmt := PySem.Challenge.pw_besttelling_k43_walked_between_corners.main.body.getD i (.Pass ⟨0, 0, 0, 0⟩)
abbrev sNoPartI : Stmt := inClass (topS 2) 0
abbrev sWhole : Stmt := topS 4
abbrev sIsR : Stmt := topS 5
abbrev sPlus : Stmt := topS 6
abbrev sMinus : Stmt := topS 7
abbrev sTimes : Stmt := topS 8
abbrev sOver : Stmt := topS 9
abbrev sUnder : Stmt := topS 10
abbrev sLowest : Stmt := topS 11
abbrev sDiv : Stmt := topS 12
abbrev sRoofAt : Stmt := topS 14
abbrev sIsPart : Stmt := topS 15
abbrev sLevel : Stmt := topS 16
abbrev sLeft : Stmt := topS 18
abbrev sDigit : Stmt := topS 19
abbrev sLow : Stmt := topS 20
abbrev sLPlus : Stmt := topS 21
abbrev sLLess : Stmt := topS 22
abbrev sLTimes : Stmt := topS 23
abbrev sLUnder : Stmt := topS 24
abbrev sShares : Stmt := topS 25
abbrev sGain : Stmt := topS 26
abbrev sGains : Stmt := topS 27
abbrev sParts : Stmt := topS 28
abbrev sCorners : Stmt := topS 29
abbrev sDue43 : Stmt := topS 30
abbrev sRef43 : Stmt := topS 31
abbrev sLaw : Stmt := topS 32
/-- an own error class: what is known of it -/
structure ErF (K : PySem.W.Frag) (mg : Str → Option Value) (nm : Str) (base newId : String) (tl : List Value) (C f : Addr) (fs : List Str) : Prop where
  s : ExS K C newId tl
  no : ∀ n ∈ fs, PySem.W.findIn K (.ref C) n = some none
  g : mg nm = some (.ref C)
  i : PySem.W.findIn K (.ref C) "__init__" = some (some (.ref f))
  t : PySem.W.typeIn K (.ref f) = some (.type "function")
  v : PySem.W.findCls K (.type base) (.type "type") "__init__" = some (.val (.builtin (base ++ ".__init__")))
  ex : ExcC K C
  xf : XfC K C
/-! ### lines between corners -/
def lvl (b c : Rat × Rat) (q : Rat) : Rat := b.2 + (c.2 - b.2) * ((q - b.1) / (c.1 - b.1))
def roofQ : List (Rat × Rat) → Rat → Rat
  | [], _ => 0
  | [b], _ => b.2
  | b :: c :: r, q => if c.1 < q then roofQ (c :: r) q else lvl b c q
/-- corners that rise -/
structure Asc (bs : List (Rat × Rat)) : Prop where
  up : ∀ i x y, bs[i]? = some x → bs[i + 1]? = some y → x.1 < y.1
/-- corners that stand -/
def BendsAt (K : PySem.W.Frag) (H : Hp) (cs : List V) (bs : List (Rat × Rat)) : Prop := cs.length = bs.length ∧ ∀ (i : Nat) (v : V), cs[i]? = some v → ∃ (t a b : Addr) (x y : Rat), bs[i]? = some (x, y) ∧ v = .ref t ∧ SqT K H t [.ref a, .ref b, .non] ∧ SqT K H a (rp x) ∧ SqT K H b (rp y) ∧ Bd 8 x ∧ Bd 8 y
theorem BendsAt.same {K : PySem.W.Frag} {H H' : Hp} {cs : List V} {bs : List (Rat × Rat)} (h : BendsAt K H cs bs) (s : Same H H') : BendsAt K H' cs bs :=
  ⟨h.1, fun i v e => let ⟨t, a, b, x, y, e1, e2, e3, e4, e5, b1, b2⟩ := h.2 i v e; ⟨t, a, b, x, y, e1, e2, seqT s e3, seqT s e4, seqT s e5, b1, b2⟩⟩
theorem BendsAt.keep {K : PySem.W.Frag} {H H' : Hp} {cs : List V} {bs : List (Rat × Rat)} (h : BendsAt K H cs bs) (s : ∀ a xs, SqT K H a xs → SqT K H' a xs) : BendsAt K H' cs bs :=
  ⟨h.1, fun i v e => let ⟨t, a, b, x, y, e1, e2, e3, e4, e5, b1, b2⟩ := h.2 i v e; ⟨t, a, b, x, y, e1, e2, s _ _ e3, s _ _ e4, s _ _ e5, b1, b2⟩⟩
theorem BendsAt.get {K : PySem.W.Frag} {H : Hp} {cs : List V} {bs : List (Rat × Rat)} (h : BendsAt K H cs bs) {i : Nat} (hi : i < bs.length) : ∃ (t a b : Addr), cs[i]? = some (.ref t) ∧ SqT K H t [.ref a, .ref b, .non] ∧ SqT K H a (rp bs[i].1) ∧ SqT K H b (rp bs[i].2) ∧ Bd 8 bs[i].1 ∧ Bd 8 bs[i].2 := by
  have hc : i < cs.length := by rw [h.1]; exact hi
  obtain ⟨t, a, b, x, y, e1, e2, e3, e4, e5, b1, b2⟩ := h.2 i cs[i] (List.getElem?_eq_getElem hc)
  rw [List.getElem?_eq_getElem hi] at e1
  have e : bs[i] = (x, y) := Option.some.inj e1
  exact ⟨t, a, b, by rw [List.getElem?_eq_getElem hc, e2], e3, by rw [e]; exact e4, by rw [e]; exact e5, by rw [e]; exact b1, by rw [e]; exact b2⟩
theorem roof_drop {bs : List (Rat × Rat)} {q : Rat} {k : Nat} (h : k + 1 < bs.length) : roofQ (bs.drop k) q = if bs[k + 1].1 < q then roofQ (bs.drop (k + 1)) q else lvl bs[k] bs[k + 1] q := by
  rw [List.drop_eq_getElem_cons (show k < bs.length by omega), List.drop_eq_getElem_cons h, roofQ, ← List.drop_eq_getElem_cons h]
def partD (d : PyData) : Bool := match ratD d with
  | some q => decide (0 ≤ q.num) && decide (q.num ≤ (q.den : Int))
  | none => false
theorem part_dR (q : Rat) : partD (dR q) = (decide (0 ≤ q.num) && decide (q.num ≤ (q.den : Int))) := by
  unfold partD
  rw [ratD_dR]
theorem rat_le_one {q : Rat} : q.num ≤ (q.den : Int) ↔ q ≤ 1 := by
  rw [Rat.le_iff]
  show _ ↔ q.num * 1 ≤ 1 * (q.den : Int)
  rw [Int.mul_one, Int.one_mul]
theorem part_of {q : Rat} (h0 : 0 ≤ q) (h1 : q ≤ 1) : partD (dR q) = true := by
  rw [part_dR, decide_eq_true (Rat.num_nonneg.mpr h0), decide_eq_true (rat_le_one.mpr h1)]
  rfl
def spIsPart (K : PySem.W.Frag) : Sp := fun vs H Q _ => ∃ (ex : Addr → Prop) (v : V) (d : PyData), vs = [v] ∧ Dz.Dz K H ex v d ∧ Q (.bl (partD d)) H
def spLevel (K : PySem.W.Frag) : Sp := fun vs H Q _ => ∃ (s a e b p : Addr) (x y : Rat × Rat) (q : Rat), vs = [.ref s, .ref a, .ref e, .ref b, .ref p] ∧ SqT K H s (rp x.1) ∧ SqT K H a (rp x.2) ∧ SqT K H e (rp y.1) ∧ SqT K H b (rp y.2) ∧ SqT K H p (rp q) ∧ Bd 8 x.1 ∧ Bd 8 x.2 ∧ Bd 8 y.1 ∧ Bd 8 y.2 ∧ Bd 8 q ∧ x.1 ≠ y.1 ∧ ∀ r H', Same H H' → SqT K H' r (rp (lvl x y q)) → Q (.ref r) H'
/-- a part that is one; corners for it -/
structure Walk (bs : List (Rat × Rat)) (q : Rat) : Prop where
  up : Asc bs
  top : ∀ y, bs[bs.length - 1]? = some y → q ≤ y.1
def spRoofAt (K : PySem.W.Frag) (CU : Addr) : Sp := fun vs H Q E => ∃ (ex : Addr → Prop) (l : Addr) (cs : List V) (bs : List (Rat × Rat)) (v : V) (d : PyData), vs = [.ref l, v] ∧ H l = some (.lst cs) ∧ BendsAt K H cs bs ∧ 1 ≤ bs.length ∧ bs.length ≤ 40 ∧ Dz.Dz K H ex v d ∧
  (partD d = false → ∀ H' dd, Same H H' → H' dd = some (.xd [("part", v)]) → E (.ref CU) (some dd) H') ∧
  (partD d = true → ∀ q, ratD d = some q → Bd 8 q ∧ (2 ≤ bs.length → Walk bs q) ∧ ∀ p H', Same H H' → SqT K H' p (rp (roofQ bs q)) → Q (.ref p) H')
section
variable {P : Program} {w : World} {K : PySem.W.Frag} {mg : Str → Option Value} {base : Heap}
theorem scDiv : FnScope ["one", "other"] ["one", "other"] (defScope sDiv) := ⟨rfl, rfl, rfl, by decide +kernel, rfl, by decide +kernel, by decide +kernel⟩
theorem ok_div {f : Addr} {fd : FuncData} {k : Nat} (F : Fun K "divisor" "divisor" sDiv f fd) (B : Blt mg) : FnOk P w K mg base CX0 (k + 1) f fd ["one", "other"] spDiv := by
  refine F.ok scDiv (fun vs H Q E h => ?_) (fun cdv A outer s H vs Q E hr h => ?_)
  · obtain ⟨a, b, rfl, _⟩ := h
    rfl
  · obtain ⟨a, b, rfl, q⟩ := h
    refine ⟨_, pss_cons (ps_while PassesOwn.never (pt_cmpR op_ne (pv 1) pe_int (nomark _))
        (pss_one (ps_par (i := 0) (j := 1) (by rfl) scDiv.nd rfl rfl (by decide) rfl rfl (pa_cons (pv 1) (pa_cons (pe_op op_modN (pv 0) (pv 1)) pa_nil)) (by rfl))))
      (pss_one (ps_ret (pe_callB call_abs (by rfl) B.abs_ (by decide +kernel) (pa_cons (pv 0) pa_nil)))), ?_⟩
    refine ⟨fun m σ H' => ∃ x y : Int, σ = [some (.int x), some (.int y)] ∧ m = y.natAbs ∧ Int.gcd x y = Int.gcd a b ∧ H' = H, ⟨_, a, b, rfl, rfl, rfl, rfl⟩, ?_⟩
    rintro m σ H' ⟨x, y, rfl, rfl, hg, rfl⟩
    refine ⟨.int y, rfl, rfl, _, rfl, ite2 (fun c => ?_) (fun c => ?_)⟩
    · have hy : y ≠ 0 := fun e => by
        subst e
        exact absurd c (by decide)
      refine ⟨fun σ' H'' => ∃ x' y' : Int, σ' = [some (.int x'), some (.int y')] ∧ y'.natAbs < y.natAbs ∧ Int.gcd x' y' = Int.gcd a b ∧ H'' = H', ?_, ?_⟩
      · rintro σ' H'' ⟨x', y', e1, e2, e3, e4⟩
        exact ⟨y'.natAbs, e2, x', y', e1, rfl, e3, e4⟩
      · refine ⟨.int y, rfl, .int x, rfl, .int y, rfl, x, y, rfl, rfl, hy, _, _, rfl, y, _, rfl, Fr.fmod_abs x hy, ?_, rfl⟩
        rw [Fr.gcd_step]
        exact hg
    · have hy : y = 0 := by
        by_cases e : y = 0
        · exact e
        · exact absurd (by simp [e]) c
      subst hy
      rw [Int.gcd_zero_right] at hg
      refine ⟨.int x, rfl, x, rfl, ?_⟩
      have e : (if x < 0 then -x else x) = (Int.gcd a b : Int) := by
        rw [← hg]
        split <;> omega
      rw [e]
      exact q
theorem scLowest : FnScope ["top", "bottom", "by"] ["top", "bottom"] (defScope sLowest) := ⟨rfl, rfl, rfl, by decide +kernel, rfl, by decide +kernel, by decide +kernel⟩
theorem ok_lowest {f fD : Addr} {fd fdD : FuncData} {k : Nat} (F : Fun K "lowest" "lowest" sLowest f fd) (GD : FnOk P w K mg base CX0 k fD fdD ["one", "other"] spDiv) (kD : PySem.W.keepIn K (.ref fD) = true) (bD : Binds K fdD ["one", "other"] []) (gD : mg "divisor" = some (.ref fD)) : FnOk P w K mg base CX0 (k + 1) f fd ["top", "bottom"] spLow := by
  refine F.ok scLowest (fun vs H Q E h => ?_) (fun cdv A outer s H vs Q E hr h => ?_)
  · obtain ⟨a, b, n, rfl, _⟩ := h
    rfl
  · obtain ⟨t, b, n, rfl, ht, hb, h0, hn, q⟩ := h
    refine ⟨_, pss_cons (ps_set (i := 2) scLowest.nd rfl (.inl rfl) (pe_call GD hr (by rfl) gD kD bD .nil pass0 (pa_cons (pv 0) (pa_cons (pv 1) pa_nil))))
      (pss_cons (ps_if (pt_cmpR op_lt (pv 1) pe_int (nomark _)) (pss_one (ps_set (i := 2) scLowest.nd rfl (.inl rfl) (pe_un un_neg (pv 2)))) pss_nil)
      (pss_one (ps_ret (pe_tup (pa_cons (pe_op op_fdivZ (pv 0) (pv 2)) (pa_cons (pe_op op_fdivZ (pv 1) (pv 2)) pa_nil)))))), ?_⟩
    have hg := Fr.gcd_pos (t := t) h0
    have hgb := gcd_bd (t := t) h0 hb
    have hn0 : 0 < n := by
      cases n with
      | zero => simp at hb; omega
      | succ n => omega
    refine ⟨_, rfl, _, rfl, t, b, rfl, ?_⟩
    refine ⟨_, rfl, b, 0, rfl, rfl, _, rfl, ite2 (fun c => ?_) (fun c => ?_)⟩
    · have hb0 : b < 0 := of_decide_eq_true c
      refine ⟨_, rfl, _, rfl, ?_⟩
      have d : ∀ i : Int, CDivZ i (-(Int.gcd t b : Int)) := fun i => divZ (n := n) (by omega) (by rw [Int.natAbs_neg]; exact hgb) hn0 (by omega)
      refine ⟨_, rfl, _, rfl, t, _, rfl, rfl, d _, _, rfl, _, rfl, b, _, rfl, rfl, d _, (by show 2 ≤ sizeLine; decide), fun p hp => ?_⟩
      have z := q p hp
      rw [rp, ← Fr.lowN_num hb0, ← Fr.lowN_den hb0] at z
      exact z
    · have hb0 : 0 < b := by
        have : ¬ b < 0 := of_decide_eq_false (Bool.eq_false_iff.mpr c)
        omega
      have d : ∀ i : Int, CDivZ i (Int.gcd t b : Int) := fun i => divZ (n := n) (by omega) hgb hn0 (by omega)
      refine ⟨_, rfl, _, rfl, t, _, rfl, rfl, d _, _, rfl, _, rfl, b, _, rfl, rfl, d _, (by show 2 ≤ sizeLine; decide), fun p hp => ?_⟩
      have z := q p hp
      rw [rp, ← Fr.low_num hb0, ← Fr.low_den hb0] at z
      exact z

theorem scPlus : FnScope ["one", "other"] ["one", "other"] (defScope sPlus) := ⟨rfl, rfl, rfl, by decide +kernel, rfl, by decide +kernel, by decide +kernel⟩
theorem ok_Plus {f fC : Addr} {fd fdC : FuncData} {k : Nat} (F : Fun K "plus" "plus" sPlus f fd) (GC : FnOk P w K mg base CX0 k fC fdC ["top", "bottom"] spLow) (kC : PySem.W.keepIn K (.ref fC) = true) (bC : Binds K fdC ["top", "bottom"] []) (gC : mg "lowest" = some (.ref fC)) :
    FnOk P w K mg base CX0 (k + 1) f fd ["one", "other"] (spBin K (· + ·)) := by
  refine F.ok scPlus (fun vs H Q E h => ?_) (fun cdv A outer s H vs Q E hr h => ?_)
  · obtain ⟨a, b, x, y, n, m, rfl, _⟩ := h
    rfl
  · obtain ⟨a, b, x, y, n, m, rfl, hx, hy, bx, by_, hn, q⟩ := h
    refine ⟨_, pss_one (ps_ret (pe_call GC hr (by rfl) gC kC bC .nil pass0 (pa_cons (pe_op op_add (pe_op op_mulW (pe_ix ix_tup (pv 0) pe_int (fun _ _ => rfl)) (pe_ix ix_tup (pv 1) pe_int (fun _ _ => rfl))) (pe_op op_mulW (pe_ix ix_tup (pv 1) pe_int (fun _ _ => rfl)) (pe_ix ix_tup (pv 0) pe_int (fun _ _ => rfl)))) (pa_cons (pe_op op_mulW (pe_ix ix_tup (pv 0) pe_int (fun _ _ => rfl)) (pe_ix ix_tup (pv 1) pe_int (fun _ _ => rfl))) pa_nil)))), ?_⟩
    refine ⟨.ref a, rfl, a, rp x, 0, .int x.num, rfl, rfl, hx, at0 x, .ref b, rfl, b, rp y, 1, .int (y.den : Int), rfl, rfl, hy, at1 y, _, _, rfl, rfl, wmul bx.1 by_.dn (by omega), .ref b, rfl, b, rp y, 0, .int y.num, rfl, rfl, hy, at0 y, .ref a, rfl, a, rp x, 1, .int (x.den : Int), rfl, rfl, hx, at1 x, _, _, rfl, rfl, wmul by_.1 bx.dn (by omega), _, _, rfl, rfl, .ref a, rfl, a, rp x, 1, .int (x.den : Int), rfl, rfl, hx, at1 x, .ref b, rfl, b, rp y, 1, .int (y.den : Int), rfl, rfl, hy, at1 y, _, _, rfl, rfl, wmul bx.dn by_.dn (by omega), _, _, n + m + 1, rfl, Fr.add_bd (Fr.mul_bd bx.1 by_.dn) (by rw [Nat.add_comm n m]; exact Fr.mul_bd by_.1 bx.dn), Fr.up (Fr.mul_bd bx.dn by_.dn) (Nat.le_succ _), Fr.dd_ne x y, by omega, fun p hp => ?_⟩
    have z := q p hp
    rw [Fr.add_eq]
    exact z

theorem scTimes : FnScope ["one", "other"] ["one", "other"] (defScope sTimes) := ⟨rfl, rfl, rfl, by decide +kernel, rfl, by decide +kernel, by decide +kernel⟩
theorem ok_Times {f fC : Addr} {fd fdC : FuncData} {k : Nat} (F : Fun K "times" "times" sTimes f fd) (GC : FnOk P w K mg base CX0 k fC fdC ["top", "bottom"] spLow) (kC : PySem.W.keepIn K (.ref fC) = true) (bC : Binds K fdC ["top", "bottom"] []) (gC : mg "lowest" = some (.ref fC)) :
    FnOk P w K mg base CX0 (k + 1) f fd ["one", "other"] (spBin K (· * ·)) := by
  refine F.ok scTimes (fun vs H Q E h => ?_) (fun cdv A outer s H vs Q E hr h => ?_)
  · obtain ⟨a, b, x, y, n, m, rfl, _⟩ := h
    rfl
  · obtain ⟨a, b, x, y, n, m, rfl, hx, hy, bx, by_, hn, q⟩ := h
    refine ⟨_, pss_one (ps_ret (pe_call GC hr (by rfl) gC kC bC .nil pass0 (pa_cons (pe_op op_mulW (pe_ix ix_tup (pv 0) pe_int (fun _ _ => rfl)) (pe_ix ix_tup (pv 1) pe_int (fun _ _ => rfl))) (pa_cons (pe_op op_mulW (pe_ix ix_tup (pv 0) pe_int (fun _ _ => rfl)) (pe_ix ix_tup (pv 1) pe_int (fun _ _ => rfl))) pa_nil)))), ?_⟩
    refine ⟨.ref a, rfl, a, rp x, 0, .int x.num, rfl, rfl, hx, at0 x, .ref b, rfl, b, rp y, 0, .int y.num, rfl, rfl, hy, at0 y, _, _, rfl, rfl, wmul bx.1 by_.1 (by omega), .ref a, rfl, a, rp x, 1, .int (x.den : Int), rfl, rfl, hx, at1 x, .ref b, rfl, b, rp y, 1, .int (y.den : Int), rfl, rfl, hy, at1 y, _, _, rfl, rfl, wmul bx.dn by_.dn (by omega), _, _, n + m, rfl, Fr.mul_bd bx.1 by_.1, Fr.mul_bd bx.dn by_.dn, Fr.dd_ne x y, by omega, fun p hp => ?_⟩
    have z := q p hp
    rw [Fr.mul_eq]
    exact z

theorem scMinus : FnScope ["one", "other"] ["one", "other"] (defScope sMinus) := ⟨rfl, rfl, rfl, by decide +kernel, rfl, by decide +kernel, by decide +kernel⟩
theorem ok_Minus {f fC : Addr} {fd fdC : FuncData} {k : Nat} (F : Fun K "minus" "minus" sMinus f fd) (GC : FnOk P w K mg base CX0 k fC fdC ["top", "bottom"] spLow) (kC : PySem.W.keepIn K (.ref fC) = true) (bC : Binds K fdC ["top", "bottom"] []) (gC : mg "lowest" = some (.ref fC)) :
    FnOk P w K mg base CX0 (k + 1) f fd ["one", "other"] (spBin K (· - ·)) := by
  refine F.ok scMinus (fun vs H Q E h => ?_) (fun cdv A outer s H vs Q E hr h => ?_)
  · obtain ⟨a, b, x, y, n, m, rfl, _⟩ := h
    rfl
  · obtain ⟨a, b, x, y, n, m, rfl, hx, hy, bx, by_, hn, q⟩ := h
    refine ⟨_, pss_one (ps_ret (pe_call GC hr (by rfl) gC kC bC .nil pass0 (pa_cons (pe_op op_sub (pe_op op_mulW (pe_ix ix_tup (pv 0) pe_int (fun _ _ => rfl)) (pe_ix ix_tup (pv 1) pe_int (fun _ _ => rfl))) (pe_op op_mulW (pe_ix ix_tup (pv 1) pe_int (fun _ _ => rfl)) (pe_ix ix_tup (pv 0) pe_int (fun _ _ => rfl)))) (pa_cons (pe_op op_mulW (pe_ix ix_tup (pv 0) pe_int (fun _ _ => rfl)) (pe_ix ix_tup (pv 1) pe_int (fun _ _ => rfl))) pa_nil)))), ?_⟩
    refine ⟨.ref a, rfl, a, rp x, 0, .int x.num, rfl, rfl, hx, at0 x, .ref b, rfl, b, rp y, 1, .int (y.den : Int), rfl, rfl, hy, at1 y, _, _, rfl, rfl, wmul bx.1 by_.dn (by omega), .ref b, rfl, b, rp y, 0, .int y.num, rfl, rfl, hy, at0 y, .ref a, rfl, a, rp x, 1, .int (x.den : Int), rfl, rfl, hx, at1 x, _, _, rfl, rfl, wmul by_.1 bx.dn (by omega), _, _, rfl, rfl, .ref a, rfl, a, rp x, 1, .int (x.den : Int), rfl, rfl, hx, at1 x, .ref b, rfl, b, rp y, 1, .int (y.den : Int), rfl, rfl, hy, at1 y, _, _, rfl, rfl, wmul bx.dn by_.dn (by omega), _, _, n + m + 1, rfl, Fr.sub_bd (Fr.mul_bd bx.1 by_.dn) (by rw [Nat.add_comm n m]; exact Fr.mul_bd by_.1 bx.dn), Fr.up (Fr.mul_bd bx.dn by_.dn) (Nat.le_succ _), Fr.dd_ne x y, by omega, fun p hp => ?_⟩
    have z := q p hp
    rw [Fr.sub_eq]
    exact z

theorem scUnder : FnScope ["one", "other"] ["one", "other"] (defScope sUnder) := ⟨rfl, rfl, rfl, by decide +kernel, rfl, by decide +kernel, by decide +kernel⟩
theorem ok_Under {f : Addr} {fd : FuncData} {k : Nat} (F : Fun K "under" "under" sUnder f fd) : FnOk P w K mg base CX0 (k + 1) f fd ["one", "other"] (spUnder K) := by
  refine F.ok scUnder (fun vs H Q E h => ?_) (fun cdv A outer s H vs Q E hr h => ?_)
  · obtain ⟨a, b, x, y, n, m, rfl, _⟩ := h
    rfl
  · obtain ⟨a, b, x, y, n, m, rfl, hx, hy, bx, by_, hn, q⟩ := h
    refine ⟨_, pss_one (ps_ret (pe_cmpR op_lt (pe_op op_mulW (pe_ix ix_tup (pv 0) pe_int (fun _ _ => rfl)) (pe_ix ix_tup (pv 1) pe_int (fun _ _ => rfl))) (pe_op op_mulW (pe_ix ix_tup (pv 1) pe_int (fun _ _ => rfl)) (pe_ix ix_tup (pv 0) pe_int (fun _ _ => rfl))) (nomark _))), ?_⟩
    exact ⟨.ref a, rfl, a, rp x, 0, .int x.num, rfl, rfl, hx, at0 x, .ref b, rfl, b, rp y, 1, .int (y.den : Int), rfl, rfl, hy, at1 y, _, _, rfl, rfl, wmul bx.1 by_.dn (by omega), .ref b, rfl, b, rp y, 0, .int y.num, rfl, rfl, hy, at0 y, .ref a, rfl, a, rp x, 1, .int (x.den : Int), rfl, rfl, hx, at1 x, _, _, rfl, rfl, wmul by_.1 bx.dn (by omega), _, _, rfl, rfl, q⟩
theorem scOver : FnScope ["one", "other"] ["one", "other"] (defScope sOver) := ⟨rfl, rfl, rfl, by decide +kernel, rfl, by decide +kernel, by decide +kernel⟩
theorem ok_Over {f fL : Addr} {fd fdL : FuncData} {k : Nat} (F : Fun K "over" "over" sOver f fd) (GL : FnOk P w K mg base CX0 k fL fdL ["top", "bottom"] spLow) (kL : PySem.W.keepIn K (.ref fL) = true) (bL : Binds K fdL ["top", "bottom"] []) (gL : mg "lowest" = some (.ref fL)) : FnOk P w K mg base CX0 (k + 1) f fd ["one", "other"] (spOver K) := by
  refine F.ok scOver (fun vs H Q E h => ?_) (fun cdv A outer s H vs Q E hr h => ?_)
  · obtain ⟨a, b, x, y, n, m, rfl, _⟩ := h
    rfl
  · obtain ⟨a, b, x, y, n, m, rfl, hx, hy, bx, by_, hnm, hy0, q⟩ := h
    refine ⟨_, (pss_cons (ps_if (pt_cmpR op_eq (pe_ix ix_tup (pv 1) pe_int (fun _ _ => rfl)) pe_int (nomark _)) (pss_one ps_never) pss_nil)
      (pss_one (ps_ret (pe_call GL hr (by rfl) gL kL bL .nil pass0 (pa_cons (pe_op op_mulW (pe_ix ix_tup (pv 0) pe_int (fun _ _ => rfl)) (pe_ix ix_tup (pv 1) pe_int (fun _ _ => rfl))) (pa_cons (pe_op op_mulW (pe_ix ix_tup (pv 0) pe_int (fun _ _ => rfl)) (pe_ix ix_tup (pv 1) pe_int (fun _ _ => rfl))) pa_nil)))))), ?_⟩
    have hn0 : y.num ≠ 0 := fun z => hy0 (Rat.num_eq_zero.mp z)
    refine ⟨_, rfl, b, rp y, 0, .int y.num, rfl, rfl, hy, at0 y, rfl, _, rfl, ?_⟩
    rw [decide_eq_false (fun z => hn0 (V.int.inj z))]
    refine iteF ?_
    refine ⟨_, rfl, a, rp x, 0, .int x.num, rfl, rfl, hx, at0 x, _, rfl, b, rp y, 1, .int (y.den : Int), rfl, rfl, hy, at1 y, _, _, rfl, rfl, wmul bx.1 by_.dn (by omega), _, rfl, a, rp x, 1, .int (x.den : Int), rfl, rfl, hx, at1 x, _, rfl, b, rp y, 0, .int y.num, rfl, rfl, hy, at0 y, _, _, rfl, rfl, wmul bx.dn by_.1 (by omega), x.num * y.den, x.den * y.num, n + m, rfl, Fr.mul_bd bx.1 by_.dn, Fr.mul_bd bx.dn by_.1, Int.mul_ne_zero (Fr.den_ne x) hn0, by omega, fun p hp => ?_⟩
    rw [Fr.div_eq]
    exact q p hp
theorem scWhole : FnScope ["thing"] ["thing"] (defScope sWhole) := ⟨rfl, rfl, rfl, by decide +kernel, rfl, by decide +kernel, by decide +kernel⟩
theorem ok_WholeZ {f  : Addr} {fd  : FuncData} {k : Nat} (F : Fun K "is_whole" "is_whole" sWhole f fd)  (B : Blt mg) : FnOk P w K mg base CX0 (k + 1) f fd ["thing"] (spWholeZ K) := by
  refine F.ok scWhole (fun vs H Q E h => ?_) (fun cdv A outer s H vs Q E hr h => ?_)
  · obtain ⟨ex, v, d, rfl, _⟩ := h
    rfl
  · obtain ⟨ex, v, d, rfl, hv, q⟩ := h
    refine ⟨_, (pss_one (ps_ret (pe_and (pe_callB call_isi (by rfl) B.isinstance_ (by decide +kernel) (pa_cons (pv 0) (pa_cons (pe_bltn (v := .ty "int") (by rfl) B.int_ (by decide +kernel) rfl) pa_nil))) (pe_one (pe_not (pe_callB call_isi (by rfl) B.isinstance_ (by decide +kernel) (pa_cons (pv 0) (pa_cons (pe_bltn (v := .ty "bool") (by rfl) B.bool_ (by decide +kernel) rfl) pa_nil)))))))), ?_⟩
    refine ⟨_, rfl, _, _, _, _, isIB d, rfl, .ty "int", hv.ty, kit_ty (kit_isIB d), _, rfl, ?_⟩
    cases d with
    | int i => exact iteT ⟨_, rfl, _, _, _, _, isB (.int i), rfl, .ty "bool", hv.ty, kit_ty (kit_isB _), _, rfl, q⟩
    | bool b => exact iteT ⟨_, rfl, _, _, _, _, isB (.bool b), rfl, .ty "bool", hv.ty, kit_ty (kit_isB _), _, rfl, q⟩
    | none => exact iteF q
    | str x => exact iteF q
    | list x => exact iteF q
    | tuple x => exact iteF q
    | dict x => exact iteF q
theorem scIsR : FnScope ["thing", "top", "bottom"] ["thing"] (defScope sIsR) := ⟨rfl, rfl, rfl, by decide +kernel, rfl, by decide +kernel, by decide +kernel⟩
theorem ok_IsRZ {f fW fD : Addr} {fd fdW fdD : FuncData} {k : Nat} (F : Fun K "is_ratio" "is_ratio" sIsR f fd) (GW : FnOk P w K mg base CX0 k fW fdW ["thing"] (spWholeZ K)) (kW : PySem.W.keepIn K (.ref fW) = true) (bW : Binds K fdW ["thing"] []) (gW : mg "is_whole" = some (.ref fW)) (GD : FnOk P w K mg base CX0 k fD fdD ["one", "other"] spDiv) (kD : PySem.W.keepIn K (.ref fD) = true) (bD : Binds K fdD ["one", "other"] []) (gD : mg "divisor" = some (.ref fD)) (B : Blt mg) : FnOk P w K mg base CX0 (k + 1) f fd ["thing"] (spIsRZ K) := by
  refine F.ok scIsR (fun vs H Q E h => ?_) (fun cdv A outer s H vs Q E hr h => ?_)
  · obtain ⟨ex, v, d, rfl, _⟩ := h
    rfl
  · obtain ⟨ex, v, d, rfl, hv, q⟩ := h
    refine ⟨_, (pss_cons (ps_if (PW.pt (pw_or (pt_not (pt_val (pe_callB call_isi (by rfl) B.isinstance_ (by decide +kernel) (pa_cons (pv 0) (pa_cons (pe_bltn (v := .ty "tuple") (by rfl) B.tuple_ (by decide +kernel) rfl) pa_nil))))) (pw_or1 (pt_cmpR op_ne (pe_callB call_len_seq (by rfl) B.len_ PySem.boot_len (pa_cons (pv 0) pa_nil)) pe_int (nomark _))))) (pss_one (ps_ret pe_bl)) pss_nil)
      (pss_cons (ps_asg (pv 0) (pg_tup (by rfl) (pgs_cons (pg_name (i := 1) scIsR.nd rfl (.inl rfl)) (pgs_cons (pg_name (i := 2) scIsR.nd rfl (.inl rfl)) pgs_nil))))
      (pss_cons (ps_if (PW.pt (pw_or (pt_not (pt_val (pe_call GW hr (by rfl) gW kW bW .nil pass0 (pa_cons (pv 1) pa_nil)))) (pw_or1 (pt_not (pt_val (pe_call GW hr (by rfl) gW kW bW .nil pass0 (pa_cons (pv 2) pa_nil))))))) (pss_one (ps_ret pe_bl)) pss_nil)
      (pss_one (ps_ret (pe_and (pe_cmpR op_ge (pv 2) pe_int (nomark _)) (pe_one (pe_cmpR op_eq (pe_call GD hr (by rfl) gD kD bD .nil pass0 (pa_cons (pv 1) (pa_cons (pv 2) pa_nil))) pe_int (nomark _))))))))), ?_⟩
    cases d with
    | none => exact ⟨_, rfl, _, _, _, _, isT _, rfl, .ty "tuple", hv.ty, kit_ty (kit_isT _), _, rfl, iteT (iteT q)⟩
    | bool b => exact ⟨_, rfl, _, _, _, _, isT _, rfl, .ty "tuple", hv.ty, kit_ty (kit_isT _), _, rfl, iteT (iteT q)⟩
    | int i => exact ⟨_, rfl, _, _, _, _, isT _, rfl, .ty "tuple", hv.ty, kit_ty (kit_isT _), _, rfl, iteT (iteT q)⟩
    | str x => exact ⟨_, rfl, _, _, _, _, isT _, rfl, .ty "tuple", hv.ty, kit_ty (kit_isT _), _, rfl, iteT (iteT q)⟩
    | list x => exact ⟨_, rfl, _, _, _, _, isT _, rfl, .ty "tuple", hv.ty, kit_ty (kit_isT _), _, rfl, iteT (iteT q)⟩
    | dict x => exact ⟨_, rfl, _, _, _, _, isT _, rfl, .ty "tuple", hv.ty, kit_ty (kit_isT _), _, rfl, iteT (iteT q)⟩
    | tuple ds =>
      refine ⟨_, rfl, _, _, _, _, isT (.tuple ds), rfl, .ty "tuple", hv.ty, kit_ty (kit_isT _), _, rfl, iteF ?_⟩
      cases hv with
      | @tup a xs _ ha ts =>
        have hl := ts.len
        refine ⟨_, rfl, a, xs, rfl, .inr ha, rfl, _, rfl, ?_⟩
        by_cases h2 : xs.length = 2
        rotate_left
        · rw [decide_eq_false (fun z => h2 (by have := V.int.inj z; omega))]
          refine iteT ?_
          have e : ratD (.tuple ds) = none := by
            unfold ratD
            split
            · rename_i heq
              injection heq with heq
              rw [heq] at hl
              exact absurd hl h2
            · rfl
          rw [e] at q
          exact q
        have e2 : V.int (xs.length : Int) = V.int 2 := by rw [h2]; rfl
        rw [decide_eq_true e2]
        refine iteF ?_
        obtain ⟨x, y, rfl⟩ : ∃ x y, xs = [x, y] := by
          match xs, h2 with
          | [x, y], _ => exact ⟨x, y, rfl⟩
        cases ts with
        | @cons _ _ dx _ hx ts =>
          cases ts with
          | @cons _ _ dy _ hy ts =>
            cases ts
            refine ⟨_, rfl, a, _, rfl, ha, rfl, _, _, rfl, _, _, rfl, rfl, ?_⟩
            refine ⟨_, rfl, ex, x, dx, rfl, hx, _, rfl, ?_⟩
            have no : ∀ {b : PyData}, isI dx = false → ratD (.tuple [dx, b]) = none := fun {b} h => by cases dx <;> first | rfl | cases h
            cases c1 : isI dx with
            | false =>
              rw [no c1] at q
              exact iteT (iteT q)
            | true =>
              refine iteF ?_
              refine ⟨_, rfl, ex, y, dy, rfl, hy, _, rfl, ?_⟩
              cases dx with
              | int t =>
                cases c2 : isI dy with
                | false =>
                  have e : ratD (.tuple [.int t, dy]) = none := by cases dy <;> first | rfl | cases c2
                  rw [e] at q
                  exact iteT q
                | true =>
                  refine iteF ?_
                  cases dy with
                  | int b =>
                    cases hx
                    cases hy
                    have e : ratD (.tuple [.int t, .int b]) = if 1 ≤ b ∧ Int.gcd t b = 1 then some (Rat.divInt t b) else none := rfl
                    refine ⟨_, rfl, _, _, rfl, rfl, _, rfl, ?_⟩
                    by_cases h1 : 1 ≤ b
                    · rw [if_pos (decide_eq_true h1)]
                      refine ⟨_, rfl, _, rfl, _, _, rfl, rfl, ?_⟩
                      by_cases hg : Int.gcd t b = 1
                      · rw [e, if_pos ⟨h1, hg⟩] at q
                        rw [hg]
                        exact q
                      · rw [e, if_neg (fun z => hg z.2)] at q
                        rw [decide_eq_false (fun z => hg (by have := V.int.inj z; omega))]
                        exact q
                    · rw [e, if_neg (fun z => h1 z.1)] at q
                      rw [if_neg (by rw [decide_eq_false h1]; decide)]
                      exact q
                  | _ => cases c2
              | _ => cases c1
theorem scNoPartI : FnScope ["self", "part"] ["self", "part"] (defScope sNoPartI) := ⟨rfl, rfl, rfl, by decide +kernel, rfl, by decide +kernel, by decide +kernel⟩
theorem ok_NoPartI {C f : Addr} {fd : FuncData} {k : Nat} (F : Fun K "__init__" "NoPart.__init__" sNoPartI f fd) (T : ErF K mg "NoPart" "LookupError" "LookupError.__new__" [.type "LookupError", .type "Exception", .type "BaseException", .type "object"] C f ["part"]) (B : Blt mg) : FnOk P w K mg base CX0 (k + 1) f fd ["self", "part"] (spE1 C "part") := by
  refine F.ok scNoPartI (fun vs H Q E h => ?_) (fun cdv A outer s H vs Q E hr h => ?_)
  · obtain ⟨a, v, rfl, _⟩ := h
    rfl
  · obtain ⟨a, v, rfl, ha, q⟩ := h
    refine ⟨_, pss_cons (ps_expr (pe_initLookupError (by rfl) B.LookupError_ (by have z := T.v; exact z) (pa_cons (pv 0) (pa_cons pe_str pa_nil)))) (pss_one (ps_osG (newId := "LookupError.__new__") PySem.F.store_LookupError (by decide) (pv 0) (pv 1))), ?_⟩
    refine ⟨_, rfl, a, C, _, rfl, (by show 1 ≤ 1000; decide), T.s.c, ha, ?_⟩
    exact ⟨_, rfl, _, rfl, a, C, rfl, T.s, T.no _ (by simp), ha, q⟩
theorem scIsPart : FnScope ["thing"] ["thing"] (defScope sIsPart) := ⟨rfl, rfl, rfl, by decide +kernel, rfl, by decide +kernel, by decide +kernel⟩
theorem ok_IsPart {f fR : Addr} {fd fdR : FuncData} {k : Nat} (F : Fun K "is_part" "is_part" sIsPart f fd) (GR : FnOk P w K mg base CX0 k fR fdR ["thing"] (spIsRZ K)) (kR : PySem.W.keepIn K (.ref fR) = true) (bR : Binds K fdR ["thing"] []) (gR : mg "is_ratio" = some (.ref fR)) : FnOk P w K mg base CX0 (k + 1) f fd ["thing"] (spIsPart K) := by
  refine F.ok scIsPart (fun vs H Q E h => ?_) (fun cdv A outer s H vs Q E hr h => ?_)
  · obtain ⟨ex, v, d, rfl, _⟩ := h
    rfl
  · obtain ⟨ex, v, d, rfl, hv, q⟩ := h
    refine ⟨_, (pss_one (ps_ret (pe_and (pe_call GR hr (by rfl) gR kR bR .nil pass0 (pa_cons (pv 0) pa_nil)) (pe_one (pe_chain op_le op_le pe_int (pe_ix ix_tup (pv 0) pe_int (fun _ _ => rfl)) (pe_ix ix_tup (pv 0) pe_int (fun _ _ => rfl))))))), ?_⟩
    refine ⟨_, rfl, ex, v, d, rfl, hv, _, rfl, ?_⟩
    unfold partD at q
    cases e : ratD d with
    | none =>
      rw [e] at q
      exact iteF q
    | some r =>
      rw [e] at q
      obtain ⟨a, rfl, ha, _⟩ := hv.rat e
      refine iteT ⟨_, rfl, a, rp r, 0, .int r.num, rfl, rfl, ha, at0 r, _, _, rfl, rfl, _, rfl, ?_⟩
      by_cases h0 : 0 ≤ r.num
      · have q' : Q (.bl (decide (0 ≤ r.num) && decide (r.num ≤ (r.den : Int)))) H := q
        rw [decide_eq_true h0] at q' ⊢
        exact iteT ⟨_, rfl, a, rp r, 1, .int (r.den : Int), rfl, rfl, ha, at1 r, _, _, rfl, rfl, q'⟩
      · have q' : Q (.bl (decide (0 ≤ r.num) && decide (r.num ≤ (r.den : Int)))) H := q
        rw [decide_eq_false h0] at q' ⊢
        exact iteF q'
theorem scLevel : FnScope ["start", "low", "end", "high", "part"] ["start", "low", "end", "high", "part"] (defScope sLevel) := ⟨rfl, rfl, rfl, by decide +kernel, rfl, by decide +kernel, by decide +kernel⟩
theorem ok_Level {f fA fX fM fO : Addr} {fd fdA fdX fdM fdO : FuncData} {k : Nat} (F : Fun K "level" "level" sLevel f fd) (GA : FnOk P w K mg base CX0 k fA fdA ["one", "other"] (spBin K (· + ·))) (kA : PySem.W.keepIn K (.ref fA) = true) (bA : Binds K fdA ["one", "other"] []) (gA : mg "plus" = some (.ref fA)) (GX : FnOk P w K mg base CX0 k fX fdX ["one", "other"] (spBin K (· * ·))) (kX : PySem.W.keepIn K (.ref fX) = true) (bX : Binds K fdX ["one", "other"] []) (gX : mg "times" = some (.ref fX)) (GM : FnOk P w K mg base CX0 k fM fdM ["one", "other"] (spBin K (· - ·))) (kM : PySem.W.keepIn K (.ref fM) = true) (bM : Binds K fdM ["one", "other"] []) (gM : mg "minus" = some (.ref fM)) (GO : FnOk P w K mg base CX0 k fO fdO ["one", "other"] (spOver K)) (kO : PySem.W.keepIn K (.ref fO) = true) (bO : Binds K fdO ["one", "other"] []) (gO : mg "over" = some (.ref fO)) : FnOk P w K mg base CX0 (k + 1) f fd ["start", "low", "end", "high", "part"] (spLevel K) := by
  refine F.ok scLevel (fun vs H Q E h => ?_) (fun cdv A outer s H vs Q E hr h => ?_)
  · obtain ⟨s, a, e, b, p, x, y, qq, rfl, _⟩ := h
    rfl
  · obtain ⟨s, a, e, b, p, x, y, qq, rfl, hs, ha, he, hb, hp, b1, b2, b3, b4, b5, ne, q⟩ := h
    refine ⟨_, (pss_one (ps_ret (pe_call GA hr (by rfl) gA kA bA .nil pass0 (pa_cons (pv 1) (pa_cons (pe_call GX hr (by rfl) gX kX bX .nil pass0 (pa_cons (pe_call GM hr (by rfl) gM kM bM .nil pass0 (pa_cons (pv 3) (pa_cons (pv 1) pa_nil))) (pa_cons (pe_call GO hr (by rfl) gO kO bO .nil pass0 (pa_cons (pe_call GM hr (by rfl) gM kM bM .nil pass0 (pa_cons (pv 4) (pa_cons (pv 0) pa_nil))) (pa_cons (pe_call GM hr (by rfl) gM kM bM .nil pass0 (pa_cons (pv 2) (pa_cons (pv 0) pa_nil))) pa_nil))) pa_nil))) pa_nil))))), ?_⟩
    have b6 := Fr.bd_sub b4 b2
    have b7 := Fr.bd_sub b5 b1
    have b8 := Fr.bd_sub b3 b1
    have n0 : y.1 - x.1 ≠ 0 := fun z => ne (by grind)
    refine ⟨_, rfl, _, rfl, _, rfl, b, a, y.2, x.2, _, _, rfl, hb, ha, b4, b2, by decide, fun t1 n1 => ?_⟩
    have s1 := same_new n1 (.tup (rp (y.2 - x.2)))
    have h1 : SqT K (upd H t1 (.tup (rp (y.2 - x.2)))) t1 (rp (y.2 - x.2)) := SqT.of upd_same
    generalize upd H t1 (.tup (rp (y.2 - x.2))) = H1 at s1 h1 ⊢
    refine ⟨_, rfl, _, rfl, p, s, qq, x.1, _, _, rfl, seqT s1 hp, seqT s1 hs, b5, b1, by decide, fun t2 n2 => ?_⟩
    have s2 := same_new n2 (.tup (rp (qq - x.1)))
    have h2 : SqT K (upd H1 t2 (.tup (rp (qq - x.1)))) t2 (rp (qq - x.1)) := SqT.of upd_same
    generalize upd H1 t2 (.tup (rp (qq - x.1))) = H2 at s2 h2 ⊢
    have s12 := s1.trans s2
    refine ⟨_, rfl, _, rfl, e, s, y.1, x.1, _, _, rfl, seqT s12 he, seqT s12 hs, b3, b1, by decide, fun t3 n3 => ?_⟩
    have s3 := same_new n3 (.tup (rp (y.1 - x.1)))
    have h3 : SqT K (upd H2 t3 (.tup (rp (y.1 - x.1)))) t3 (rp (y.1 - x.1)) := SqT.of upd_same
    generalize upd H2 t3 (.tup (rp (y.1 - x.1))) = H3 at s3 h3 ⊢
    refine ⟨t2, t3, _, _, _, _, rfl, seqT s3 h2, h3, b7, b8, by decide, n0, fun t4 n4 => ?_⟩
    have s4 := same_new n4 (.tup (rp ((qq - x.1) / (y.1 - x.1))))
    have h4 : SqT K (upd H3 t4 (.tup (rp ((qq - x.1) / (y.1 - x.1))))) t4 (rp ((qq - x.1) / (y.1 - x.1))) := SqT.of upd_same
    generalize upd H3 t4 (.tup (rp ((qq - x.1) / (y.1 - x.1)))) = H4 at s4 h4 ⊢
    have b9 := bd_div b7 b8 n0
    refine ⟨t1, t4, _, _, _, _, rfl, seqT ((s2.trans s3).trans s4) h1, h4, b6, b9, by decide, fun t5 n5 => ?_⟩
    have s5 := same_new n5 (.tup (rp ((y.2 - x.2) * ((qq - x.1) / (y.1 - x.1)))))
    have h5 : SqT K (upd H4 t5 (.tup (rp ((y.2 - x.2) * ((qq - x.1) / (y.1 - x.1)))))) t5 (rp ((y.2 - x.2) * ((qq - x.1) / (y.1 - x.1)))) := SqT.of upd_same
    generalize upd H4 t5 (.tup (rp ((y.2 - x.2) * ((qq - x.1) / (y.1 - x.1))))) = H5 at s5 h5 ⊢
    have s15 := ((s12.trans s3).trans s4).trans s5
    refine ⟨a, t5, _, _, _, _, rfl, seqT s15 ha, h5, b2, Fr.bd_mul b6 b9, by decide, fun t6 n6 => ?_⟩
    exact q t6 _ (s15.trans (same_new n6 _)) (SqT.of upd_same)
end
end K43

set_option Elab.async false
set_option linter.all false
set_option maxRecDepth 100000
set_option maxHeartbeats 16000000
namespace K43
open PySem PySem.Spec PyProof.Rows L2 BX EXB Co Ru
open Dz Cs Hr
open Rs (Rsp Rv Ret tYes_of dV datR Flat Okr spShares spRowsL spTotal spCopied eqv_dR)
open Fr (Bd)
theorem roof_one : ∀ {bs : List (Rat × Rat)} {q : Rat} (h : bs.length = 1), roofQ bs q = (bs[0]'(by omega)).2
  | [x], q, _ => rfl
section
variable {P : Program} {w : World} {K : PySem.W.Frag} {mg : Str → Option Value} {base : Heap}
theorem scRoofAt : FnScope ["corners", "part", "number", "low", "high"] ["corners", "part"] (defScope sRoofAt) := ⟨rfl, rfl, rfl, by decide +kernel, rfl, by decide +kernel, by decide +kernel⟩
theorem ok_RoofAt {f fI fN fV : Addr} {fd fdI fdN fdV : FuncData} {k : Nat} {CU fU : Addr} {fdU : FuncData} (F : Fun K "roof_at" "roof_at" sRoofAt f fd) (U : ErF K mg "NoPart" "LookupError" "LookupError.__new__" [.type "LookupError", .type "Exception", .type "BaseException", .type "object"] CU fU ["part"]) (GU : FnOk P w K mg base CX0 k fU fdU ["self", "part"] (spE1 CU "part")) (bU : Binds K fdU ["self", "part"] []) (GI : FnOk P w K mg base CX0 k fI fdI ["thing"] (spIsPart K)) (kI : PySem.W.keepIn K (.ref fI) = true) (bI : Binds K fdI ["thing"] []) (gI : mg "is_part" = some (.ref fI)) (GN : FnOk P w K mg base CX0 k fN fdN ["one", "other"] (spUnder K)) (kN : PySem.W.keepIn K (.ref fN) = true) (bN : Binds K fdN ["one", "other"] []) (gN : mg "under" = some (.ref fN)) (GV : FnOk P w K mg base CX0 k fV fdV ["start", "low", "end", "high", "part"] (spLevel K)) (kV : PySem.W.keepIn K (.ref fV) = true) (bV : Binds K fdV ["start", "low", "end", "high", "part"] []) (gV : mg "level" = some (.ref fV)) (B : Blt mg) : FnOk P w K mg base (L2.CX P w) (k + 2) f fd ["corners", "part"] (spRoofAt K CU) := by
  refine F.okX scRoofAt (fun vs H Q E h => ?_) (fun cdv A outer s H vs Q E hr h => ?_)
  · obtain ⟨ex, l, cs, bs, v, d, rfl, _⟩ := h
    rfl
  · obtain ⟨ex, l, cs, bs, v, d, rfl, hl, hb, l1, l40, hv, qE, q⟩ := h
    have hk : Room k _ := hr.mono (by omega)
    refine ⟨_, (pss_cons (ps_if (pt_not (pt_val (pe_call GI hk (by rfl) gI kI bI .nil pass0 (pa_cons (pv 1) pa_nil)))) (pss_one (ps_raise (W := fun cls d _ H' => E cls d H') rfl (takes_of rfl rfl rfl rfl) (EXB.pmk_exF PySem.F.excBase_LookupError U.s.c U.i U.t GU hr bU .nil pass0 (by rfl) U.g (pa_cons (pv 1) pa_nil)))) pss_nil)
      (pss_cons (ps_if (pt_cmpR op_eq (pe_callB call_len_seq (by rfl) B.len_ PySem.boot_len (pa_cons (pv 0) pa_nil)) pe_int (nomark _)) (pss_one (ps_ret (pe_ix ix_tup (pe_ix ix_list (pv 0) pe_int (fun _ _ => rfl)) pe_int (fun _ _ => rfl)))) pss_nil)
      (pss_cons (ps_set (i := 2) scRoofAt.nd rfl (.inl rfl) pe_int)
      (pss_cons (ps_while (passes_of rfl) (pt_val (pe_call GN hk (by rfl) gN kN bN .nil pass0 (pa_cons (pe_ix ix_tup (pe_ix ix_list (pv 0) (pv 2) (fun _ _ => rfl)) pe_int (fun _ _ => rfl)) (pa_cons (pv 1) pa_nil)))) (pss_one (ps_aug (i := 2) scRoofAt.nd rfl (.inl rfl) pe_int ip_add)))
      (pss_cons (ps_par (i := 3) (j := 4) (by rfl) scRoofAt.nd rfl rfl (by decide) rfl rfl (pa_cons (pe_ix ix_list (pv 0) (pe_op op_sub (pv 2) pe_int) (fun _ _ => rfl)) (pa_cons (pe_ix ix_list (pv 0) (pv 2) (fun _ _ => rfl)) pa_nil)) (by rfl))
      (pss_one (ps_ret (pe_call GV hk (by rfl) gV kV bV .nil pass0 (pa_cons (pe_ix ix_tup (pv 3) pe_int (fun _ _ => rfl)) (pa_cons (pe_ix ix_tup (pv 3) pe_int (fun _ _ => rfl)) (pa_cons (pe_ix ix_tup (pv 4) pe_int (fun _ _ => rfl)) (pa_cons (pe_ix ix_tup (pv 4) pe_int (fun _ _ => rfl)) (pa_cons (pv 1) pa_nil))))))))))))), ?_⟩
    refine ⟨_, rfl, ex, v, d, rfl, hv, _, rfl, ?_⟩
    cases c : partD d with
    | false =>
      refine iteT ⟨_, rfl, mk1 fun dd hd => qE c _ dd (same_new hd _) upd_same⟩
    | true =>
      obtain ⟨r, er⟩ : ∃ r, ratD d = some r := by
        unfold partD at c
        cases e : ratD d with
        | none => rw [e] at c; cases c
        | some r => exact ⟨r, rfl⟩
      obtain ⟨br, wk, q⟩ := q c r er
      obtain ⟨pa, rfl, hp, _⟩ := hv.rat er
      refine iteF ?_
      refine ⟨_, rfl, l, cs, rfl, .inl (SqL.of hl), rfl, _, rfl, ?_⟩
      by_cases h1 : cs.length = 1
      · rw [decide_eq_true (by rw [h1]; rfl)]
        have h1b : bs.length = 1 := by rw [← hb.1]; exact h1
        obtain ⟨t, a, b, e1, e2, e3, e4, b1, b2⟩ := hb.get (i := 0) (by omega)
        refine iteT ⟨_, rfl, l, cs, 0, .ref t, rfl, rfl, SqL.of hl, atI_nat (j := 0) e1, t, _, 1, .ref b, rfl, rfl, e2, atI_nat (j := 1) rfl, ?_⟩
        rw [roof_one h1b] at q
        exact q b H (Same.refl H) e4
      · rw [decide_eq_false (fun z => h1 (by have := V.int.inj z; omega))]
        have h2 : 2 ≤ bs.length := by have := hb.1; omega
        have wk := wk h2
        refine iteF ?_
        refine ⟨fun m σ H' => ∃ k : Nat, σ = [some (.ref l), some (.ref pa), some (.int ((k : Int) + 1)), none, none] ∧ m = bs.length - k ∧ H' = H ∧ k + 1 < bs.length ∧ roofQ bs r = roofQ (bs.drop k) r, ⟨_, 0, rfl, rfl, rfl, by omega, rfl⟩, ?_⟩
        rintro m σ H' ⟨k, rfl, rfl, rfl, hk, hq⟩
        obtain ⟨t, a, b, e1, e2, e3, e4, b1, b2⟩ := hb.get hk
        refine ⟨_, rfl, _, rfl, l, cs, (k : Int) + 1, .ref t, rfl, rfl, SqL.of hl, atI_nat (j := k + 1) e1, t, _, 0, .ref a, rfl, rfl, e2, atI_nat (j := 0) rfl, _, rfl, a, pa, _, _, _, _, rfl, e3, hp, b1, br, by decide, _, rfl, ?_⟩
        rw [lt_iff']
        rw [roof_drop hk] at hq
        by_cases hlt : bs[k + 1].1 < r
        · rw [decide_eq_true hlt]
          rw [if_pos hlt] at hq
          refine iteT ⟨fun σ' H'' => σ' = [some (.ref l), some (.ref pa), some (.int (((k + 1 : Nat) : Int) + 1)), none, none] ∧ H'' = H', ?_, ?_⟩
          · rintro σ' H'' ⟨rfl, rfl⟩
            refine ⟨bs.length - (k + 1), by omega, k + 1, rfl, rfl, rfl, ?_, hq⟩
            apply Classical.byContradiction
            intro z
            have ez : bs.length - 1 = k + 1 := by omega
            have := wk.top bs[k + 1] (by rw [ez]; exact List.getElem?_eq_getElem hk)
            exact absurd hlt (Rat.not_lt.mpr this)
          · exact ⟨_, rfl, _, _, rfl, rfl, rfl, rfl⟩
        · rw [decide_eq_false hlt]
          rw [if_neg hlt] at hq
          refine iteF ?_
          obtain ⟨t0, a0, b0, f1, f2, f3, f4, c1, c2⟩ := hb.get (i := k) (by omega)
          refine ⟨_, rfl, _, rfl, _, _, rfl, rfl, l, cs, (k : Int), .ref t0, rfl, congrArg V.int (by omega), SqL.of hl, atI_nat (j := k) f1, _, rfl, _, rfl, l, cs, (k : Int) + 1, .ref t, rfl, rfl, SqL.of hl, atI_nat (j := k + 1) e1, _, _, rfl, ?_⟩
          have hne : bs[k].1 ≠ bs[k + 1].1 := Rat.ne_of_lt (wk.up.up k _ _ (List.getElem?_eq_getElem (by omega)) (List.getElem?_eq_getElem hk))
          rw [hq] at q
          exact ⟨_, rfl, t0, _, 0, .ref a0, rfl, rfl, f2, atI_nat (j := 0) rfl, _, rfl, t0, _, 1, .ref b0, rfl, rfl, f2, atI_nat (j := 1) rfl, _, rfl, t, _, 0, .ref a, rfl, rfl, e2, atI_nat (j := 0) rfl, _, rfl, t, _, 1, .ref b, rfl, rfl, e2, atI_nat (j := 1) rfl, _, rfl, a0, b0, a, b, pa, bs[k], bs[k + 1], r, rfl, f3, f4, e3, e4, hp, c1, c2, b1, b2, br, hne, fun p H2 s2 hp2 => q p H2 s2 hp2⟩
end
end K43

set_option Elab.async false
set_option linter.all false
set_option maxRecDepth 100000
set_option maxHeartbeats 16000000
namespace K43
open PySem PySem.Spec PyProof.Rows L2 BX EXB Co Ru
open Dz Cs Hr
open Rs (Rsp Rv Ret tYes_of dV datR Flat Okr spShares spRowsL spTotal spCopied eqv_dR)
open Fr (Bd)
theorem num_pos' {r : Rat} (h : 0 < r) : 0 < r.num := by
  have h1 := Rat.num_nonneg.mpr (Rat.le_of_lt h)
  have h2 : r.num ≠ 0 := fun z => by
    rw [Rat.num_eq_zero.mp z] at h
    exact absurd h (Rat.not_lt.mpr Rat.le_refl)
  omega
theorem rp_inv {r : Rat} (h : 0 < r) : rp r⁻¹ = [.int (r.den : Int), .int r.num] := by
  have hn : 0 < r.num := num_pos' h
  have hg : Int.gcd (r.den : Int) r.num = 1 := by
    rw [Int.gcd_comm]
    exact Fr.ratio_gcd r
  obtain ⟨e1, e2⟩ := ratD_num (t := (r.den : Int)) (b := r.num) (by omega) hg
  rw [← Rat.inv_def] at e1 e2
  unfold rp
  rw [e1, e2]
theorem bd_inv {r : Rat} {n : Nat} (h : 0 < r) (b : Bd n r) : Bd n r⁻¹ := by
  have e := rp_inv h
  unfold rp at e
  injection e with e1 e
  injection e with e2 e
  have e1 : r⁻¹.num = (r.den : Int) := V.int.inj e1
  have e2 : (r⁻¹.den : Int) = r.num := V.int.inj e2
  refine ⟨by rw [e1]; exact b.dn, ?_⟩
  have hn : 0 < r.num := num_pos' h
  have := b.1
  omega
theorem lvl_begin {b c : Rat × Rat} : lvl b c b.1 = b.2 := by
  unfold lvl
  rw [Rat.sub_self, Rat.div_def, Rat.zero_mul, Rat.mul_zero, Rat.add_zero]
theorem lvl_end {b c : Rat × Rat} (h : b.1 < c.1) : lvl b c c.1 = c.2 := by
  unfold lvl
  rw [Fr.div_self' (fun z => by grind), Rat.mul_one]
  grind
theorem lvl_law {b c : Rat × Rat} {q : Rat} : b.2 + (q - b.1) * ((c.2 - b.2) * (c.1 - b.1)⁻¹) = lvl b c q := by
  unfold lvl
  rw [Rat.div_def]
  grind
theorem roof_skip {bs : List (Rat × Rat)} {q : Rat} : ∀ {i : Nat}, i + 1 < bs.length → (∀ j x, j < i + 1 → bs[j]? = some x → x.1 < q) → roofQ bs q = roofQ (bs.drop i) q
  | 0, _, _ => rfl
  | i + 1, hi, h => by
    rw [roof_skip (i := i) (by omega) (fun j x hj e => h j x (by omega) e), roof_drop (by omega), if_pos (h (i + 1) _ (by omega) (List.getElem?_eq_getElem (by omega)))]
theorem roof_corner {bs : List (Rat × Rat)} {i : Nat} (hi : i < bs.length) (h2 : 2 ≤ bs.length) (up : Asc bs) (h : ∀ j x, j < i → bs[j]? = some x → x.1 < bs[i].1) : roofQ bs bs[i].1 = bs[i].2 := by
  cases i with
  | zero =>
    have lt := up.up 0 _ _ (List.getElem?_eq_getElem hi) (List.getElem?_eq_getElem (show 0 + 1 < bs.length by omega))
    have := roof_drop (bs := bs) (q := bs[0].1) (k := 0) (by omega)
    rw [List.drop_zero] at this
    rw [this, if_neg (Rat.not_lt.mpr (Rat.le_of_lt lt)), lvl_begin]
  | succ i =>
    have lt := up.up i _ _ (List.getElem?_eq_getElem (by omega)) (List.getElem?_eq_getElem hi)
    rw [roof_skip (i := i) hi (fun j x hj e => h j x hj e), roof_drop hi, if_neg (Rat.not_lt.mpr Rat.le_refl), lvl_end lt]
theorem roof_line {bs : List (Rat × Rat)} {i : Nat} {q : Rat} (hi : i + 1 < bs.length) (hq : q < bs[i + 1].1) (h : ∀ j x, j < i + 1 → bs[j]? = some x → x.1 < q) : roofQ bs q = lvl bs[i] bs[i + 1] q := by
  rw [roof_skip hi h, roof_drop hi, if_neg (Rat.not_lt.mpr (Rat.le_of_lt hq))]
def spDue43 (K : PySem.W.Frag) : Sp := fun vs H Q _ => ∃ (l p : Addr) (cs : List V) (bs : List (Rat × Rat)) (q : Rat), vs = [.ref l, .ref p] ∧ H l = some (.lst cs) ∧ BendsAt K H cs bs ∧ 2 ≤ bs.length ∧ bs.length ≤ 40 ∧ Walk bs q ∧ (∀ x, bs[0]? = some x → x.1 ≤ q) ∧ SqT K H p (rp q) ∧ Bd 8 q ∧
  ∀ r H', Same H H' → SqT K H' r (rp (roofQ bs q)) → Q (.ref r) H'
/-- of the error: what except and isinstance say of it -/
structure K43F (K : PySem.W.Frag) (CU : Addr) : Prop where
  x : PySem.W.exmOne K (.ref CU) (.ref CU) = some true
  l : PySem.W.kitOne K (.ref CU) (.type "LookupError") = some true
/-- a thing that is no part -/
structure OddT (K : PySem.W.Frag) (H : Hp) (v : V) (d : PyData) : Prop where
  z : Dz.Dz K H (fun _ => False) v d
  p : Dp K H v d
  no : partD d = false
  sh : d.showable = true
  dp : d.depth ≤ 64
  sz : d.shown.length ≤ sizeLine
theorem OddT.same {K : PySem.W.Frag} {H H' : Hp} {v : V} {d : PyData} (h : OddT K H v d) (s : Same H H') : OddT K H' v d := ⟨h.z.same s, Tk.dp_same s _ _ h.p, h.no, h.sh, h.dp, h.sz⟩
def spRef43 (K : PySem.W.Frag) : Sp := fun vs H Q _ => ∃ (l : Addr) (cs : List V) (bs : List (Rat × Rat)) (v : V) (d : PyData), vs = [.ref l, v] ∧ H l = some (.lst cs) ∧ BendsAt K H cs bs ∧ 1 ≤ bs.length ∧ bs.length ≤ 40 ∧ OddT K H v d ∧ ∀ H', Same H H' → Q (.bl true) H'
section
variable {P : Program} {w : World} {K : PySem.W.Frag} {mg : Str → Option Value} {base : Heap}
theorem scLeft : FnScope ["_law_cell", "_law_left_here", "_law_number", "_law_turn"] ["_law_cell"] (defScope sLeft) := ⟨rfl, rfl, rfl, by decide +kernel, rfl, by decide +kernel, by decide +kernel⟩
theorem ok_left {f : Addr} {fd : FuncData} {k : Nat} (F : Fun K "_law_left" "_law_left" sLeft f fd) (B : Blt mg) : FnOk P w K mg base CX0 (k + 1) f fd ["_law_cell"] spLeft := by
  refine F.ok scLeft (fun vs H Q E h => ?_) (fun cdv A outer s H vs Q E hr h => ?_)
  · obtain ⟨c, rfl, _⟩ := h
    rfl
  · obtain ⟨c, rfl, q⟩ := h
    refine ⟨_, pss_cons (ps_set (i := 1) scLeft.nd rfl (.inl rfl) (pe_callB call_abs (by rfl) B.abs_ (by decide +kernel) (pa_cons (pv 0) pa_nil)))
      (pss_cons (ps_if (pt_cmpR op_lt (pv 1) (pe_op op_pow pe_int pe_int) (nomark _))
        (pss_cons (ps_set (i := 2) scLeft.nd rfl (.inl rfl) (pv 0))
        (pss_one (ps_for PassesOwn.never rfl (pi_range1 (by rfl) B.range_ (pa_cons pe_int pa_nil)) (pg_name (i := 3) scLeft.nd rfl (.inl rfl))
          (pss_cons (ps_set (i := 2) scLeft.nd rfl (.inl rfl) (pe_op op_mod (pe_op op_mul (pe_op op_add (pe_op op_mod (pv 2) pe_int) pe_int) pe_int) pe_int))
          (pss_cons (ps_set (i := 2) scLeft.nd rfl (.inl rfl) (pe_op op_add (pe_op op_mod (pe_op op_mul (pv 2) pe_int) pe_int) (pv 3)))
          (pss_one (ps_set (i := 1) scLeft.nd rfl (.inl rfl) (pe_op op_add (pe_op op_mul (pv 1) pe_int) (pv 2)))))))))
        pss_nil)
      (pss_one (ps_ret (pe_lst (pa_cons (pv 1) pa_nil))))), ?_⟩
    refine ⟨_, rfl, c, rfl, ?_⟩
    refine ⟨_, rfl, 10, 18, rfl, rfl, ⟨by decide, by decide, by decide⟩, _, _, rfl, rfl, _, rfl, ite2 (fun z => ?_) (fun z => ?_)⟩
    · refine ⟨_, rfl, 40, rfl, by decide, by decide, for_range (lo := 0) (n := 40) (fun i σ H' => ∃ (n m : Int) (y : Option V), σ = [some (.int c), some (.int n), some (.int m), y] ∧ H' = H) ⟨_, _, none, rfl, rfl⟩ ?_ ?_⟩
      · rintro i σ H' hi ⟨n, m, y, rfl, rfl⟩
        refine ⟨_, rfl, _, _, rfl, rfl, (by show (0 : Int) < 2147483629; decide), _, _, rfl, rfl, _, _, rfl, rfl, .inr ⟨by decide, by decide⟩, _, _, rfl, rfl, (by show (0 : Int) < 2147483629; decide), ?_⟩
        refine ⟨_, rfl, _, _, rfl, rfl, .inr ⟨by decide, by decide⟩, _, _, rfl, rfl, (by show (0 : Int) < 2147483647; decide), _, rfl, _, _, rfl, rfl, ?_⟩
        refine ⟨_, rfl, _, _, rfl, rfl, .inr ⟨by decide, by decide⟩, _, rfl, _, _, rfl, rfl, ?_⟩
        exact ⟨_, _, _, rfl, rfl⟩
      · rintro σ H' ⟨n, m, y, rfl, rfl⟩
        exact ⟨_, rfl, (by show 1 ≤ sizeLine; decide), fun p hp => q p n hp⟩
    · exact ⟨_, rfl, (by show 1 ≤ sizeLine; decide), fun p hp => q p _ hp⟩
theorem scDigit : FnScope ["_law_left_here", "_law_many", "_law_found"] ["_law_left_here", "_law_many"] (defScope sDigit) := ⟨rfl, rfl, rfl, by decide +kernel, rfl, by decide +kernel, by decide +kernel⟩
theorem ok_digit {f : Addr} {fd : FuncData} {k : Nat} (F : Fun K "_law_digit" "_law_digit" sDigit f fd) : FnOk P w K mg base CX0 (k + 1) f fd ["_law_left_here", "_law_many"] spDigit := by
  refine F.ok scDigit (fun vs H Q E h => ?_) (fun cdv A outer s H vs Q E hr h => ?_)
  · obtain ⟨l, n, m, rfl, _⟩ := h
    rfl
  · obtain ⟨l, n, m, rfl, hl, hm, hmb, q⟩ := h
    refine ⟨_, pss_cons (ps_set (i := 2) scDigit.nd rfl (.inl rfl) (pe_op op_mod (pe_ix ix_list (pv 0) pe_int (fun _ _ => rfl)) (pv 1)))
      (pss_cons (ps_asg (pe_op op_fdivW (pe_ix ix_list (pv 0) pe_int (fun _ _ => rfl)) (pv 1)) (pg_sub (pv 0) pe_int set_list))
      (pss_one (ps_ret (pv 2)))), ?_⟩
    refine ⟨_, rfl, l, _, 0, .int n, rfl, rfl, SqL.of hl, atI_nat (j := 0) rfl, _, rfl, _, _, rfl, rfl, hm, ?_⟩
    refine ⟨_, rfl, l, _, 0, .int n, rfl, rfl, SqL.of hl, atI_nat (j := 0) rfl, _, rfl, _, _, rfl, rfl, wide_div hm hmb (by decide) (by decide), ?_⟩
    refine ⟨_, rfl, l, _, 0, 0, rfl, rfl, hl, rfl, ?_⟩
    exact ⟨_, rfl, q _ _ (Int.emod_nonneg _ (by omega)) (Int.emod_lt_of_pos _ hm)⟩
theorem scLow : FnScope ["_law_top", "_law_bottom", "_law_one", "_law_other"] ["_law_top", "_law_bottom"] (defScope sLow) := ⟨rfl, rfl, rfl, by decide +kernel, rfl, by decide +kernel, by decide +kernel⟩
theorem ok_low {f : Addr} {fd : FuncData} {k : Nat} (F : Fun K "_law_low" "_law_low" sLow f fd) (B : Blt mg) : FnOk P w K mg base CX0 (k + 1) f fd ["_law_top", "_law_bottom"] spLow := by
  refine F.ok scLow (fun vs H Q E h => ?_) (fun cdv A outer s H vs Q E hr h => ?_)
  · obtain ⟨a, b, n, rfl, _⟩ := h
    rfl
  · obtain ⟨t, b, n, rfl, ht, hb, h0, hn, q⟩ := h
    refine ⟨_, pss_cons (ps_set (i := 2) scLow.nd rfl (.inl rfl) (pe_callB call_abs (by rfl) B.abs_ (by decide +kernel) (pa_cons (pv 0) pa_nil)))
      (pss_cons (ps_set (i := 3) scLow.nd rfl (.inl rfl) (pe_callB call_abs (by rfl) B.abs_ (by decide +kernel) (pa_cons (pv 1) pa_nil)))
      (pss_cons (ps_while PassesOwn.never (pt_cmpR op_gt (pv 3) pe_int (nomark _))
        (pss_one (ps_par (i := 2) (j := 3) (by rfl) scLow.nd rfl rfl (by decide) rfl rfl (pa_cons (pv 3) (pa_cons (pe_op op_modN (pv 2) (pv 3)) pa_nil)) (by rfl))))
      (pss_cons (ps_if (pt_cmpR op_lt (pv 1) pe_int (nomark _)) (pss_one (ps_set (i := 2) scLow.nd rfl (.inl rfl) (pe_op op_sub pe_int (pv 2)))) pss_nil)
      (pss_one (ps_ret (pe_tup (pa_cons (pe_op op_fdivZ (pv 0) (pv 2)) (pa_cons (pe_op op_fdivZ (pv 1) (pv 2)) pa_nil)))))))), ?_⟩
    have hg := Fr.gcd_pos (t := t) h0
    have hgb := gcd_bd (t := t) h0 hb
    have hn0 : 0 < n := by
      cases n with
      | zero => simp at hb; omega
      | succ n => omega
    refine ⟨_, rfl, t, rfl, ?_⟩
    refine ⟨_, rfl, b, rfl, ?_⟩
    rw [abs_eq, abs_eq]
    refine ⟨fun m σ H' => ∃ x y : Int, σ = [some (.int t), some (.int b), some (.int x), some (.int y)] ∧ 0 ≤ x ∧ 0 ≤ y ∧ m = y.natAbs ∧ Int.gcd x y = Int.gcd t b ∧ H' = H,
      ⟨_, (t.natAbs : Int), (b.natAbs : Int), rfl, by omega, by omega, rfl, ?_, rfl⟩, ?_⟩
    · rw [Int.gcd, Int.gcd, Int.natAbs_natCast, Int.natAbs_natCast]
    rintro m σ H' ⟨x, y, rfl, hx, hy, rfl, hgg, rfl⟩
    refine ⟨_, rfl, y, 0, rfl, rfl, _, rfl, ite2 (fun c => ?_) (fun c => ?_)⟩
    · have hy0 : 0 < y := of_decide_eq_true c
      refine ⟨fun σ' H'' => ∃ x' y' : Int, σ' = [some (.int t), some (.int b), some (.int x'), some (.int y')] ∧ 0 ≤ x' ∧ 0 ≤ y' ∧ y'.natAbs < y.natAbs ∧ Int.gcd x' y' = Int.gcd t b ∧ H'' = H', ?_, ?_⟩
      · rintro σ' H'' ⟨x', y', e1, e2, e3, e4, e5, e6⟩
        exact ⟨y'.natAbs, e4, x', y', e1, e2, e3, rfl, e5, e6⟩
      · refine ⟨.int y, rfl, .int x, rfl, .int y, rfl, x, y, rfl, rfl, (by omega : y ≠ 0), _, _, rfl, y, _, rfl, hy, Int.fmod_nonneg_of_pos x hy0, Fr.fmod_abs x (by omega), ?_, rfl⟩
        rw [Fr.gcd_step]
        exact hgg
    · have hy0 : y = 0 := by
        have : ¬ 0 < y := of_decide_eq_false (Bool.eq_false_iff.mpr c)
        omega
      subst hy0
      rw [Int.gcd_zero_right] at hgg
      have ex : x = (Int.gcd t b : Int) := by omega
      subst ex
      refine ⟨_, rfl, b, 0, rfl, rfl, _, rfl, ite2 (fun c2 => ?_) (fun c2 => ?_)⟩
      · have hb0 : b < 0 := of_decide_eq_true c2
        refine ⟨_, rfl, 0, _, rfl, rfl, ?_⟩
        have d : ∀ i : Int, CDivZ i (0 - (Int.gcd t b : Int)) := fun i => divZ (n := n) (by omega) (by rw [Int.zero_sub, Int.natAbs_neg]; exact hgb) hn0 (by omega)
        refine ⟨_, rfl, _, rfl, t, _, rfl, rfl, d _, _, rfl, _, rfl, b, _, rfl, rfl, d _, (by show 2 ≤ sizeLine; decide), fun p hp => ?_⟩
        have z := q p hp
        rw [rp, ← Fr.lowN_num hb0, ← Fr.lowN_den hb0] at z
        rw [Int.zero_sub]
        exact z
      · have hb0 : 0 < b := by
          have : ¬ b < 0 := of_decide_eq_false (Bool.eq_false_iff.mpr c2)
          omega
        have d : ∀ i : Int, CDivZ i (Int.gcd t b : Int) := fun i => divZ (n := n) (by omega) hgb hn0 (by omega)
        refine ⟨_, rfl, _, rfl, t, _, rfl, rfl, d _, _, rfl, _, rfl, b, _, rfl, rfl, d _, (by show 2 ≤ sizeLine; decide), fun p hp => ?_⟩
        have z := q p hp
        rw [rp, ← Fr.low_num hb0, ← Fr.low_den hb0] at z
        exact z

theorem scLPlus : FnScope ["_law_one", "_law_other"] ["_law_one", "_law_other"] (defScope sLPlus) := ⟨rfl, rfl, rfl, by decide +kernel, rfl, by decide +kernel, by decide +kernel⟩
theorem ok_LPlus {f fC : Addr} {fd fdC : FuncData} {k : Nat} (F : Fun K "_law_plus" "_law_plus" sLPlus f fd) (GC : FnOk P w K mg base CX0 k fC fdC ["_law_top", "_law_bottom"] spLow) (kC : PySem.W.keepIn K (.ref fC) = true) (bC : Binds K fdC ["_law_top", "_law_bottom"] []) (gC : mg "_law_low" = some (.ref fC)) :
    FnOk P w K mg base CX0 (k + 1) f fd ["_law_one", "_law_other"] (spBin K (· + ·)) := by
  refine F.ok scLPlus (fun vs H Q E h => ?_) (fun cdv A outer s H vs Q E hr h => ?_)
  · obtain ⟨a, b, x, y, n, m, rfl, _⟩ := h
    rfl
  · obtain ⟨a, b, x, y, n, m, rfl, hx, hy, bx, by_, hn, q⟩ := h
    refine ⟨_, pss_one (ps_ret (pe_call GC hr (by rfl) gC kC bC .nil pass0 (pa_cons (pe_op op_add (pe_op op_mulW (pe_ix ix_tup (pv 0) pe_int (fun _ _ => rfl)) (pe_ix ix_tup (pv 1) pe_int (fun _ _ => rfl))) (pe_op op_mulW (pe_ix ix_tup (pv 1) pe_int (fun _ _ => rfl)) (pe_ix ix_tup (pv 0) pe_int (fun _ _ => rfl)))) (pa_cons (pe_op op_mulW (pe_ix ix_tup (pv 0) pe_int (fun _ _ => rfl)) (pe_ix ix_tup (pv 1) pe_int (fun _ _ => rfl))) pa_nil)))), ?_⟩
    refine ⟨.ref a, rfl, a, rp x, 0, .int x.num, rfl, rfl, hx, at0 x, .ref b, rfl, b, rp y, 1, .int (y.den : Int), rfl, rfl, hy, at1 y, _, _, rfl, rfl, wmul bx.1 by_.dn (by omega), .ref b, rfl, b, rp y, 0, .int y.num, rfl, rfl, hy, at0 y, .ref a, rfl, a, rp x, 1, .int (x.den : Int), rfl, rfl, hx, at1 x, _, _, rfl, rfl, wmul by_.1 bx.dn (by omega), _, _, rfl, rfl, .ref a, rfl, a, rp x, 1, .int (x.den : Int), rfl, rfl, hx, at1 x, .ref b, rfl, b, rp y, 1, .int (y.den : Int), rfl, rfl, hy, at1 y, _, _, rfl, rfl, wmul bx.dn by_.dn (by omega), _, _, n + m + 1, rfl, Fr.add_bd (Fr.mul_bd bx.1 by_.dn) (by rw [Nat.add_comm n m]; exact Fr.mul_bd by_.1 bx.dn), Fr.up (Fr.mul_bd bx.dn by_.dn) (Nat.le_succ _), Fr.dd_ne x y, by omega, fun p hp => ?_⟩
    have z := q p hp
    rw [Fr.add_eq]
    exact z

theorem scLLess : FnScope ["_law_one", "_law_other"] ["_law_one", "_law_other"] (defScope sLLess) := ⟨rfl, rfl, rfl, by decide +kernel, rfl, by decide +kernel, by decide +kernel⟩
theorem ok_LLess {f fC : Addr} {fd fdC : FuncData} {k : Nat} (F : Fun K "_law_less" "_law_less" sLLess f fd) (GC : FnOk P w K mg base CX0 k fC fdC ["_law_top", "_law_bottom"] spLow) (kC : PySem.W.keepIn K (.ref fC) = true) (bC : Binds K fdC ["_law_top", "_law_bottom"] []) (gC : mg "_law_low" = some (.ref fC)) :
    FnOk P w K mg base CX0 (k + 1) f fd ["_law_one", "_law_other"] (spBin K (· - ·)) := by
  refine F.ok scLLess (fun vs H Q E h => ?_) (fun cdv A outer s H vs Q E hr h => ?_)
  · obtain ⟨a, b, x, y, n, m, rfl, _⟩ := h
    rfl
  · obtain ⟨a, b, x, y, n, m, rfl, hx, hy, bx, by_, hn, q⟩ := h
    refine ⟨_, pss_one (ps_ret (pe_call GC hr (by rfl) gC kC bC .nil pass0 (pa_cons (pe_op op_sub (pe_op op_mulW (pe_ix ix_tup (pv 0) pe_int (fun _ _ => rfl)) (pe_ix ix_tup (pv 1) pe_int (fun _ _ => rfl))) (pe_op op_mulW (pe_ix ix_tup (pv 1) pe_int (fun _ _ => rfl)) (pe_ix ix_tup (pv 0) pe_int (fun _ _ => rfl)))) (pa_cons (pe_op op_mulW (pe_ix ix_tup (pv 0) pe_int (fun _ _ => rfl)) (pe_ix ix_tup (pv 1) pe_int (fun _ _ => rfl))) pa_nil)))), ?_⟩
    refine ⟨.ref a, rfl, a, rp x, 0, .int x.num, rfl, rfl, hx, at0 x, .ref b, rfl, b, rp y, 1, .int (y.den : Int), rfl, rfl, hy, at1 y, _, _, rfl, rfl, wmul bx.1 by_.dn (by omega), .ref b, rfl, b, rp y, 0, .int y.num, rfl, rfl, hy, at0 y, .ref a, rfl, a, rp x, 1, .int (x.den : Int), rfl, rfl, hx, at1 x, _, _, rfl, rfl, wmul by_.1 bx.dn (by omega), _, _, rfl, rfl, .ref a, rfl, a, rp x, 1, .int (x.den : Int), rfl, rfl, hx, at1 x, .ref b, rfl, b, rp y, 1, .int (y.den : Int), rfl, rfl, hy, at1 y, _, _, rfl, rfl, wmul bx.dn by_.dn (by omega), _, _, n + m + 1, rfl, Fr.sub_bd (Fr.mul_bd bx.1 by_.dn) (by rw [Nat.add_comm n m]; exact Fr.mul_bd by_.1 bx.dn), Fr.up (Fr.mul_bd bx.dn by_.dn) (Nat.le_succ _), Fr.dd_ne x y, by omega, fun p hp => ?_⟩
    have z := q p hp
    rw [Fr.sub_eq]
    exact z

theorem scLTimes : FnScope ["_law_one", "_law_other"] ["_law_one", "_law_other"] (defScope sLTimes) := ⟨rfl, rfl, rfl, by decide +kernel, rfl, by decide +kernel, by decide +kernel⟩
theorem ok_LTimes {f fC : Addr} {fd fdC : FuncData} {k : Nat} (F : Fun K "_law_times" "_law_times" sLTimes f fd) (GC : FnOk P w K mg base CX0 k fC fdC ["_law_top", "_law_bottom"] spLow) (kC : PySem.W.keepIn K (.ref fC) = true) (bC : Binds K fdC ["_law_top", "_law_bottom"] []) (gC : mg "_law_low" = some (.ref fC)) :
    FnOk P w K mg base CX0 (k + 1) f fd ["_law_one", "_law_other"] (spBin K (· * ·)) := by
  refine F.ok scLTimes (fun vs H Q E h => ?_) (fun cdv A outer s H vs Q E hr h => ?_)
  · obtain ⟨a, b, x, y, n, m, rfl, _⟩ := h
    rfl
  · obtain ⟨a, b, x, y, n, m, rfl, hx, hy, bx, by_, hn, q⟩ := h
    refine ⟨_, pss_one (ps_ret (pe_call GC hr (by rfl) gC kC bC .nil pass0 (pa_cons (pe_op op_mulW (pe_ix ix_tup (pv 0) pe_int (fun _ _ => rfl)) (pe_ix ix_tup (pv 1) pe_int (fun _ _ => rfl))) (pa_cons (pe_op op_mulW (pe_ix ix_tup (pv 0) pe_int (fun _ _ => rfl)) (pe_ix ix_tup (pv 1) pe_int (fun _ _ => rfl))) pa_nil)))), ?_⟩
    refine ⟨.ref a, rfl, a, rp x, 0, .int x.num, rfl, rfl, hx, at0 x, .ref b, rfl, b, rp y, 0, .int y.num, rfl, rfl, hy, at0 y, _, _, rfl, rfl, wmul bx.1 by_.1 (by omega), .ref a, rfl, a, rp x, 1, .int (x.den : Int), rfl, rfl, hx, at1 x, .ref b, rfl, b, rp y, 1, .int (y.den : Int), rfl, rfl, hy, at1 y, _, _, rfl, rfl, wmul bx.dn by_.dn (by omega), _, _, n + m, rfl, Fr.mul_bd bx.1 by_.1, Fr.mul_bd bx.dn by_.dn, Fr.dd_ne x y, by omega, fun p hp => ?_⟩
    have z := q p hp
    rw [Fr.mul_eq]
    exact z

theorem scLUnder : FnScope ["_law_one", "_law_other"] ["_law_one", "_law_other"] (defScope sLUnder) := ⟨rfl, rfl, rfl, by decide +kernel, rfl, by decide +kernel, by decide +kernel⟩
theorem ok_LUnder {f : Addr} {fd : FuncData} {k : Nat} (F : Fun K "_law_under" "_law_under" sLUnder f fd) : FnOk P w K mg base CX0 (k + 1) f fd ["_law_one", "_law_other"] (spUnder K) := by
  refine F.ok scLUnder (fun vs H Q E h => ?_) (fun cdv A outer s H vs Q E hr h => ?_)
  · obtain ⟨a, b, x, y, n, m, rfl, _⟩ := h
    rfl
  · obtain ⟨a, b, x, y, n, m, rfl, hx, hy, bx, by_, hn, q⟩ := h
    refine ⟨_, pss_one (ps_ret (pe_cmpR op_lt (pe_op op_mulW (pe_ix ix_tup (pv 0) pe_int (fun _ _ => rfl)) (pe_ix ix_tup (pv 1) pe_int (fun _ _ => rfl))) (pe_op op_mulW (pe_ix ix_tup (pv 1) pe_int (fun _ _ => rfl)) (pe_ix ix_tup (pv 0) pe_int (fun _ _ => rfl))) (nomark _))), ?_⟩
    exact ⟨.ref a, rfl, a, rp x, 0, .int x.num, rfl, rfl, hx, at0 x, .ref b, rfl, b, rp y, 1, .int (y.den : Int), rfl, rfl, hy, at1 y, _, _, rfl, rfl, wmul bx.1 by_.dn (by omega), .ref b, rfl, b, rp y, 0, .int y.num, rfl, rfl, hy, at0 y, .ref a, rfl, a, rp x, 1, .int (x.den : Int), rfl, rfl, hx, at1 x, _, _, rfl, rfl, wmul by_.1 bx.dn (by omega), _, _, rfl, rfl, q⟩
theorem scGain : FnScope ["_law_left_here"] ["_law_left_here"] (defScope sGain) := ⟨rfl, rfl, rfl, by decide +kernel, rfl, by decide +kernel, by decide +kernel⟩
theorem ok_Gain {f fD fL : Addr} {fd fdD fdL : FuncData} {k : Nat} (F : Fun K "_law_gain" "_law_gain" sGain f fd) (GD : FnOk P w K mg base CX0 k fD fdD ["_law_left_here", "_law_many"] spDigit) (kD : PySem.W.keepIn K (.ref fD) = true) (bD : Binds K fdD ["_law_left_here", "_law_many"] []) (gD : mg "_law_digit" = some (.ref fD)) (GL : FnOk P w K mg base CX0 k fL fdL ["_law_top", "_law_bottom"] spLow) (kL : PySem.W.keepIn K (.ref fL) = true) (bL : Binds K fdL ["_law_top", "_law_bottom"] []) (gL : mg "_law_low" = some (.ref fL)) : FnOk P w K mg base CX0 (k + 1) f fd ["_law_left_here"] (Lw.spGain K) := by
  refine F.ok scGain (fun vs H Q E h => ?_) (fun cdv A outer s H vs Q E hr h => ?_)
  · obtain ⟨l, z, rfl, _⟩ := h
    rfl
  · obtain ⟨l, z, rfl, hl, q⟩ := h
    refine ⟨_, (pss_one (ps_ret (pe_call GL hr (by rfl) gL kL bL .nil pass0 (pa_cons (pe_op op_sub (pe_call GD hr (by rfl) gD kD bD .nil pass0 (pa_cons (pv 0) (pa_cons pe_int pa_nil))) pe_int) (pa_cons (pe_ix ix_list (pe_lst (pa_cons pe_int (pa_cons pe_int (pa_cons pe_int (pa_cons pe_int (pa_cons pe_int pa_nil)))))) (pe_call GD hr (by rfl) gD kD bD .nil pass0 (pa_cons (pv 0) (pa_cons pe_int pa_nil))) (fun _ _ => rfl)) pa_nil))))), ?_⟩
    refine ⟨_, rfl, l, z, 9, rfl, hl, by decide, by decide, fun d z1 d0 d9 => ?_⟩
    refine ⟨d, 4, rfl, rfl, ?_⟩
    refine ⟨(by show 5 ≤ sizeLine; decide), fun p np => ?_⟩
    have hpl : p ≠ l := fun e => by
      rw [e, upd_same] at np
      cases np
    have s1 := same_new np (.lst [V.int 1, V.int 1, V.int 1, V.int 2, V.int 3])
    refine ⟨_, rfl, l, z1, 5, rfl, s1 _ _ upd_same, by decide, by decide, fun e z2 e0 e5 => ?_⟩
    obtain ⟨v, ev, v1, v3⟩ := Lw.tab5 e0 e5
    refine ⟨p, _, e, .int v, rfl, rfl, SqL.of (by rw [upd_ne hpl, upd_same]), ev, ?_⟩
    have sb : SameB l H (upd (upd (upd H l (.lst [.int z1])) p (.lst [V.int 1, V.int 1, V.int 1, V.int 2, V.int 3])) l (.lst [.int z2])) := (SameB.upd.trans (SameB.of s1)).trans SameB.upd
    have hl2 : (upd (upd (upd H l (.lst [.int z1])) p (.lst [V.int 1, V.int 1, V.int 1, V.int 2, V.int 3])) l (.lst [.int z2])) l = some (.lst [.int z2]) := upd_same
    generalize upd (upd (upd H l (.lst [.int z1])) p (.lst [V.int 1, V.int 1, V.int 1, V.int 2, V.int 3])) l (.lst [.int z2]) = H2 at sb hl2 ⊢
    have hd : (d - 4).natAbs < 2 ^ 8 := Nat.lt_of_le_of_lt (show (d - 4).natAbs ≤ 5 by omega) (by decide)
    have hv : v.natAbs < 2 ^ 8 := Nat.lt_of_le_of_lt (show v.natAbs ≤ 3 by omega) (by decide)
    refine ⟨d - 4, v, 8, rfl, hd, hv, by omega, by decide, fun p2 np2 => ?_⟩
    exact q p2 _ z2 _ (sb.trans (SameB.of (same_new np2 _))) (same_new np2 _ _ _ hl2) (SqT.of upd_same) (Fr.bd_low hd hv (by omega))
theorem scRef43 : FnScope ["_law_bends", "_law_part", "e"] ["_law_bends", "_law_part"] (defScope sRef43) := ⟨rfl, rfl, rfl, by decide +kernel, rfl, by decide +kernel, by decide +kernel⟩
theorem ok_Ref43 {f fR CU fU : Addr} {fd fdR : FuncData} {k : Nat} (F : Fun K "_law_refused" "_law_refused" sRef43 f fd) (U : ErF K mg "NoPart" "LookupError" "LookupError.__new__" [.type "LookupError", .type "Exception", .type "BaseException", .type "object"] CU fU ["part"]) (KF : K43F K CU) (GR : FnOk P w K mg base (L2.CX P w) k fR fdR ["corners", "part"] (spRoofAt K CU)) (kR : PySem.W.keepIn K (.ref fR) = true) (bR : Binds K fdR ["corners", "part"] []) (gR : mg "roof_at" = some (.ref fR)) (B : Blt mg) : FnOkG P w K mg base CX0 (k + 1) f fd ["_law_bends", "_law_part"] (spRef43 K) := by
  refine okG F scRef43 (fun vs H Q E h => ?_) (fun cdv A outer s H vs Q E hr hgd h => ?_)
  · obtain ⟨l, cs, bs, v, d, rfl, _⟩ := h
    rfl
  · obtain ⟨l, cs, bs, v, d, rfl, hl, hb, l1, l40, od, q⟩ := h
    have hu : (A.deeper (envOfC "_law_refused" (defScope sRef43) s.heap.objs.size f cdv)).units + 80 < cLine := by have := hr.un; omega
    refine ⟨_, pss_cons (ps_try_clauses (tb := fun W => tDrop (tCallD (spRoofAt K CU) [] (WE W) (tCons (tVar 0) (tCons (tVar 1) tNil))))
        (Wout := fun _ _ _ _ => False) rfl rfl scRef43.nd takes0
        (fun W pn xe tk _ => pss_one (ps_expr (by exact (pe_callD (.of GR) hr hgd (by rfl) gR kR bR .nil (fun σ => passAt tk σ) (by exact (pa_cons (pv 0) (pa_cons (pv 1) pa_nil)))))))
        (ClausesOk.cons (ts := fun a cls d => tRet (tAndV (tCB (rIsX K CU a cls d) (tCons (tVar 2) (tCons (tC (.ty "LookupError")) tNil))) (tOp rEq (tCB (rRepr K) (tCons (tXf a cls d CU "part" (tVar 2)) tNil)) (tCB (rRepr K) (tCons (tVar 1) tNil))))) (i := 2) rfl rfl ⟨rfl, by decide, .inl U.g⟩ (fun a oe cls d pn hz hf => by exact (pss_one (ps_ret (pe_and (pe_callB (call_isX U.ex hz hf) (by rfl) B.isinstance_ (by decide +kernel) (pa_cons (pv 2) (pa_cons (pe_bltn (v := .ty "LookupError") (by rfl) B.LookupError_ (by decide +kernel) rfl) pa_nil))) (pe_one (pe_cmpR op_eq (pe_callB (call_reprD hgd hu) (by rfl) B.repr_ (by decide +kernel) (pa_cons (pe_xf U.xf (U.no _ (by simp)) hz hf (pv 2)) pa_nil)) (pe_callB (call_reprD hgd hu) (by rfl) B.repr_ (by decide +kernel) (pa_cons (pv 1) pa_nil)) (nomark _))))))) ClausesOk.nil))
      (pss_one (ps_ret pe_bl)), ?_⟩
    refine ⟨_, rfl, _, rfl, fun _ => False, l, cs, bs, v, d, rfl, hl, hb, l1, l40, od.z, fun _ H' dd s' hdd => ?_, fun c => absurd c (by rw [od.no]; decide)⟩
    refine ⟨true, KF.x, fun _ a0 _ => ?_, fun z => Bool.noConfusion z⟩
    have o' := od.same s'
    refine ⟨_, rfl, .ty "LookupError", _, true, rfl, rfl, fun _ z => z, .inr ⟨dd, _, rfl, hdd⟩, KF.l, _, rfl, iteT ?_⟩
    refine ⟨_, rfl, rfl, rfl, dd, _, _, rfl, hdd, rfl, v, d, rfl, .inl o'.p, o'.sh, o'.dp, o'.sz, _, rfl, v, d, rfl, .inl o'.p, o'.sh, o'.dp, o'.sz, rfl, ?_⟩
    rw [decide_eq_true rfl]
    exact q H' s'
theorem scDue43 : FnScope ["_law_bends", "_law_part", "_law_k", "_law_begin", "_law_apart", "_law_steep"] ["_law_bends", "_law_part"] (defScope sDue43) := ⟨rfl, rfl, rfl, by decide +kernel, rfl, by decide +kernel, by decide +kernel⟩
theorem ok_Due43 {f fN fM fX fA : Addr} {fd fdN fdM fdX fdA : FuncData} {k : Nat} (F : Fun K "_law_due" "_law_due" sDue43 f fd) (GN : FnOk P w K mg base CX0 k fN fdN ["_law_one", "_law_other"] (spUnder K)) (kN : PySem.W.keepIn K (.ref fN) = true) (bN : Binds K fdN ["_law_one", "_law_other"] []) (gN : mg "_law_under" = some (.ref fN)) (GM : FnOk P w K mg base CX0 k fM fdM ["_law_one", "_law_other"] (spBin K (· - ·))) (kM : PySem.W.keepIn K (.ref fM) = true) (bM : Binds K fdM ["_law_one", "_law_other"] []) (gM : mg "_law_less" = some (.ref fM)) (GX : FnOk P w K mg base CX0 k fX fdX ["_law_one", "_law_other"] (spBin K (· * ·))) (kX : PySem.W.keepIn K (.ref fX) = true) (bX : Binds K fdX ["_law_one", "_law_other"] []) (gX : mg "_law_times" = some (.ref fX)) (GA : FnOk P w K mg base CX0 k fA fdA ["_law_one", "_law_other"] (spBin K (· + ·))) (kA : PySem.W.keepIn K (.ref fA) = true) (bA : Binds K fdA ["_law_one", "_law_other"] []) (gA : mg "_law_plus" = some (.ref fA)) (B : Blt mg) : FnOk P w K mg base CX0 (k + 1) f fd ["_law_bends", "_law_part"] (spDue43 K) := by
  refine F.ok scDue43 (fun vs H Q E h => ?_) (fun cdv A outer s H vs Q E hr h => ?_)
  · obtain ⟨l, p, cs, bs, qq, rfl, _⟩ := h
    rfl
  · obtain ⟨l, p, cs, bs, qq, rfl, hl, hb, l2, l40, wk, q0, hp, bq, q⟩ := h
    refine ⟨_, (pss_cons (ps_for PassesOwn.never rfl (pi_range1 (by rfl) B.range_ (pa_cons (pe_callB call_len_seq (by rfl) B.len_ PySem.boot_len (pa_cons (pv 0) pa_nil)) pa_nil)) (pg_name (i := 2) scDue43.nd rfl (.inl rfl)) (pss_cons (ps_if (pt_cmpR (op_eqD hr.units) (pe_ix ix_tup (pe_ix ix_list (pv 0) (pv 2) (fun _ _ => rfl)) pe_int (fun _ _ => rfl)) (pv 1) (nomark _)) (pss_one (ps_ret (pe_ix ix_tup (pe_ix ix_list (pv 0) (pv 2) (fun _ _ => rfl)) pe_int (fun _ _ => rfl)))) pss_nil)
      (pss_one (ps_if (pt_val (pe_call GN hr (by rfl) gN kN bN .nil pass0 (pa_cons (pv 1) (pa_cons (pe_ix ix_tup (pe_ix ix_list (pv 0) (pv 2) (fun _ _ => rfl)) pe_int (fun _ _ => rfl)) pa_nil)))) (pss_cons (ps_set (i := 3) scDue43.nd rfl (.inl rfl) (pe_ix ix_list (pv 0) (pe_op op_sub (pv 2) pe_int) (fun _ _ => rfl)))
      (pss_cons (ps_set (i := 4) scDue43.nd rfl (.inl rfl) (pe_call GM hr (by rfl) gM kM bM .nil pass0 (pa_cons (pe_ix ix_tup (pe_ix ix_list (pv 0) (pv 2) (fun _ _ => rfl)) pe_int (fun _ _ => rfl)) (pa_cons (pe_ix ix_tup (pv 3) pe_int (fun _ _ => rfl)) pa_nil))))
      (pss_cons (ps_set (i := 5) scDue43.nd rfl (.inl rfl) (pe_call GX hr (by rfl) gX kX bX .nil pass0 (pa_cons (pe_call GM hr (by rfl) gM kM bM .nil pass0 (pa_cons (pe_ix ix_tup (pe_ix ix_list (pv 0) (pv 2) (fun _ _ => rfl)) pe_int (fun _ _ => rfl)) (pa_cons (pe_ix ix_tup (pv 3) pe_int (fun _ _ => rfl)) pa_nil))) (pa_cons (pe_tup (pa_cons (pe_ix ix_tup (pv 4) pe_int (fun _ _ => rfl)) (pa_cons (pe_ix ix_tup (pv 4) pe_int (fun _ _ => rfl)) pa_nil))) pa_nil))))
      (pss_one (ps_ret (pe_call GA hr (by rfl) gA kA bA .nil pass0 (pa_cons (pe_ix ix_tup (pv 3) pe_int (fun _ _ => rfl)) (pa_cons (pe_call GX hr (by rfl) gX kX bX .nil pass0 (pa_cons (pe_call GM hr (by rfl) gM kM bM .nil pass0 (pa_cons (pv 1) (pa_cons (pe_ix ix_tup (pv 3) pe_int (fun _ _ => rfl)) pa_nil))) (pa_cons (pv 5) pa_nil))) pa_nil)))))))) pss_nil))))
      (pss_one (ps_ret pe_non))), ?_⟩
    refine ⟨_, rfl, l, cs, rfl, .inl (SqL.of hl), (cs.length : Int), rfl, ?_⟩
    have hcl := hb.1
    refine ⟨by omega, by omega, for_range (lo := 0) (n := (cs.length : Int).toNat) (fun i σ H' => ∃ y2 : Option V, σ = [some (.ref l), some (.ref p), y2, none, none, none] ∧ H' = H ∧ ∀ j x, j < i → bs[j]? = some x → x.1 < qq) ⟨_, rfl, rfl, fun j x hj => absurd hj (Nat.not_lt_zero _)⟩ ?_ ?_⟩
    · rintro i σ H' hi ⟨y2, rfl, rfl, hlt⟩
      rw [Int.toNat_natCast, hcl] at hi
      rw [show (0 + (i : Int)) = (i : Int) from Int.zero_add _]
      obtain ⟨t, a, b, e1, e2, e3, e4, b1, b2⟩ := hb.get hi
      refine ⟨_, rfl, _, rfl, l, cs, (i : Int), .ref t, rfl, rfl, SqL.of hl, atI_nat (j := i) e1, t, _, 0, .ref a, rfl, rfl, e2, atI_nat (j := 0) rfl, _, rfl, dR bs[i].1, dR qq, dp_r e3, dp_r hp, dR_shaped _, dR_shaped _, _, rfl, ?_⟩
      rw [eqv_dR]
      by_cases he : bs[i].1 = qq
      · rw [decide_eq_true he]
        subst he
        refine iteT ⟨_, rfl, _, rfl, l, cs, (i : Int), .ref t, rfl, rfl, SqL.of hl, atI_nat (j := i) e1, t, _, 1, .ref b, rfl, rfl, e2, atI_nat (j := 1) rfl, ?_⟩
        rw [roof_corner hi l2 wk.up hlt] at q
        exact q b _ (Same.refl _) e4
      · rw [decide_eq_false he]
        refine iteF ?_
        refine ⟨_, rfl, _, rfl, _, rfl, l, cs, (i : Int), .ref t, rfl, rfl, SqL.of hl, atI_nat (j := i) e1, t, _, 0, .ref a, rfl, rfl, e2, atI_nat (j := 0) rfl, p, a, qq, bs[i].1, 8, 8, rfl, hp, e3, bq, b1, by decide, _, rfl, ?_⟩
        rw [lt_iff']
        by_cases hq : qq < bs[i].1
        · rw [decide_eq_true hq]
          refine iteT ?_
          cases i with
          | zero => exact absurd hq (Rat.not_lt.mpr (q0 _ (List.getElem?_eq_getElem hi)))
          | succ i =>
            obtain ⟨t0, a0, b0, f1, f2, f3, f4, c1, c2⟩ := hb.get (i := i) (by omega)
            have hup := wk.up.up i _ _ (List.getElem?_eq_getElem (by omega)) (List.getElem?_eq_getElem hi)
            have hpos : 0 < bs[i + 1].1 - bs[i].1 := by grind
            refine ⟨_, rfl, _, rfl, _, _, rfl, rfl, l, cs, (i : Int), .ref t0, rfl, congrArg V.int (by omega), SqL.of hl, atI_nat (j := i) f1, ?_⟩
            refine ⟨_, rfl, _, rfl, l, cs, ((i + 1 : Nat) : Int), .ref t, rfl, rfl, SqL.of hl, atI_nat (j := i + 1) e1, t, _, 0, .ref a, rfl, rfl, e2, atI_nat (j := 0) rfl, _, rfl, t0, _, 0, .ref a0, rfl, rfl, f2, atI_nat (j := 0) rfl, a, a0, _, _, 8, 8, rfl, e3, f3, b1, c1, by decide, fun p1 n1 => ?_⟩
            have s1 := same_new n1 (.tup (rp (bs[i + 1].1 - bs[i].1)))
            have h1 : SqT K (upd H' p1 (.tup (rp (bs[i + 1].1 - bs[i].1)))) p1 (rp (bs[i + 1].1 - bs[i].1)) := SqT.of upd_same
            generalize upd H' p1 (.tup (rp (bs[i + 1].1 - bs[i].1))) = H1 at s1 h1 ⊢
            have hl1 := s1 _ _ hl
            refine ⟨_, rfl, _, rfl, l, cs, ((i + 1 : Nat) : Int), .ref t, rfl, rfl, SqL.of hl1, atI_nat (j := i + 1) e1, t, _, 1, .ref b, rfl, rfl, seqT s1 e2, atI_nat (j := 1) rfl, _, rfl, t0, _, 1, .ref b0, rfl, rfl, seqT s1 f2, atI_nat (j := 1) rfl, b, b0, _, _, 8, 8, rfl, seqT s1 e4, seqT s1 f4, b2, c2, by decide, fun p2 n2 => ?_⟩
            have s2 := same_new n2 (.tup (rp (bs[i + 1].2 - bs[i].2)))
            have h2 : SqT K (upd H1 p2 (.tup (rp (bs[i + 1].2 - bs[i].2)))) p2 (rp (bs[i + 1].2 - bs[i].2)) := SqT.of upd_same
            generalize upd H1 p2 (.tup (rp (bs[i + 1].2 - bs[i].2))) = H2 at s2 h2 ⊢
            have h12 := seqT s2 h1
            refine ⟨_, rfl, p1, _, 1, .int ((bs[i + 1].1 - bs[i].1).den : Int), rfl, rfl, h12, at1 _, _, rfl, p1, _, 0, .int (bs[i + 1].1 - bs[i].1).num, rfl, rfl, h12, at0 _, (by show 2 ≤ sizeLine; decide), fun p3 n3 => ?_⟩
            have eI := rp_inv hpos
            rw [← eI]
            have s3 := same_new n3 (.tup (rp (bs[i + 1].1 - bs[i].1)⁻¹))
            have h3 : SqT K (upd H2 p3 (.tup (rp (bs[i + 1].1 - bs[i].1)⁻¹))) p3 (rp (bs[i + 1].1 - bs[i].1)⁻¹) := SqT.of upd_same
            generalize upd H2 p3 (.tup (rp (bs[i + 1].1 - bs[i].1)⁻¹)) = H3 at s3 h3 ⊢
            have bI := bd_inv hpos (Fr.bd_sub b1 c1)
            have bN := Fr.bd_sub b2 c2
            refine ⟨p2, p3, _, _, _, _, rfl, seqT s3 h2, h3, bN, bI, by decide, fun p4 n4 => ?_⟩
            have s4 := same_new n4 (.tup (rp ((bs[i + 1].2 - bs[i].2) * (bs[i + 1].1 - bs[i].1)⁻¹)))
            have h4 : SqT K (upd H3 p4 (.tup (rp ((bs[i + 1].2 - bs[i].2) * (bs[i + 1].1 - bs[i].1)⁻¹)))) p4 (rp ((bs[i + 1].2 - bs[i].2) * (bs[i + 1].1 - bs[i].1)⁻¹)) := SqT.of upd_same
            generalize upd H3 p4 (.tup (rp ((bs[i + 1].2 - bs[i].2) * (bs[i + 1].1 - bs[i].1)⁻¹))) = H4 at s4 h4 ⊢
            have s14 := ((s1.trans s2).trans s3).trans s4
            refine ⟨_, rfl, t0, _, 1, .ref b0, rfl, rfl, seqT s14 f2, atI_nat (j := 1) rfl, _, rfl, _, rfl, t0, _, 0, .ref a0, rfl, rfl, seqT s14 f2, atI_nat (j := 0) rfl, p, a0, _, _, 8, 8, rfl, seqT s14 hp, seqT s14 f3, bq, c1, by decide, fun p5 n5 => ?_⟩
            have s5 := same_new n5 (.tup (rp (qq - bs[i].1)))
            have h5 : SqT K (upd H4 p5 (.tup (rp (qq - bs[i].1)))) p5 (rp (qq - bs[i].1)) := SqT.of upd_same
            generalize upd H4 p5 (.tup (rp (qq - bs[i].1))) = H5 at s5 h5 ⊢
            have bP := Fr.bd_sub bq c1
            have bM := Fr.bd_mul bN bI
            refine ⟨_, rfl, p5, p4, _, _, _, _, rfl, h5, seqT s5 h4, bP, bM, by decide, fun p6 n6 => ?_⟩
            have s6 := same_new n6 (.tup (rp ((qq - bs[i].1) * ((bs[i + 1].2 - bs[i].2) * (bs[i + 1].1 - bs[i].1)⁻¹))))
            have h6 : SqT K (upd H5 p6 (.tup (rp ((qq - bs[i].1) * ((bs[i + 1].2 - bs[i].2) * (bs[i + 1].1 - bs[i].1)⁻¹))))) p6 (rp ((qq - bs[i].1) * ((bs[i + 1].2 - bs[i].2) * (bs[i + 1].1 - bs[i].1)⁻¹))) := SqT.of upd_same
            generalize upd H5 p6 (.tup (rp ((qq - bs[i].1) * ((bs[i + 1].2 - bs[i].2) * (bs[i + 1].1 - bs[i].1)⁻¹)))) = H6 at s6 h6 ⊢
            have s16 := (s14.trans s5).trans s6
            refine ⟨b0, p6, _, _, _, _, rfl, seqT s16 f4, h6, c2, Fr.bd_mul bP bM, by decide, fun p7 n7 => ?_⟩
            refine q p7 _ (s16.trans (same_new n7 _)) ?_
            rw [roof_line hi hq hlt, ← lvl_law]
            exact SqT.of upd_same
        · rw [decide_eq_false hq]
          refine iteF ⟨_, rfl, rfl, fun j x hj ej => ?_⟩
          by_cases hji : j < i
          · exact hlt j x hji ej
          · have : j = i := by omega
            subst this
            rw [List.getElem?_eq_getElem hi] at ej
            rw [← Option.some.inj ej]
            exact Rat.lt_of_le_of_ne (Rat.not_lt.mp hq) he
    · rintro σ H' ⟨y2, rfl, rfl, hlt⟩
      rw [Int.toNat_natCast, hcl] at hlt
      have := hlt (bs.length - 1) bs[bs.length - 1] (by omega) (List.getElem?_eq_getElem (by omega))
      exact absurd this (Rat.not_lt.mpr (wk.top _ (List.getElem?_eq_getElem (by omega))))
end
end K43

set_option Elab.async false
set_option linter.all false
set_option maxRecDepth 100000
set_option maxHeartbeats 16000000
namespace K43
open PySem PySem.Spec PyProof.Rows L2 BX EXB Co Ru
open Dz Cs Hr
open Rs (Rsp Rv Ret tYes_of dV datR Flat Okr spShares spRowsL spTotal spCopied eqv_dR)
open Fr (Bd)
theorem BendsAt.snoc {K : PySem.W.Frag} {H : Hp} {cs : List V} {bs : List (Rat × Rat)} {t a b : Addr} {x y : Rat} (h : BendsAt K H cs bs) (ht : SqT K H t [.ref a, .ref b, .non]) (ha : SqT K H a (rp x)) (hb : SqT K H b (rp y)) (bx : Bd 8 x) (by_ : Bd 8 y) : BendsAt K H (cs ++ [.ref t]) (bs ++ [(x, y)]) := by
  refine ⟨by rw [List.length_append, List.length_append, h.1]; rfl, fun i v e => ?_⟩
  by_cases hi : i < cs.length
  · rw [List.getElem?_append_left hi] at e
    obtain ⟨t', a', b', x', y', e1, r⟩ := h.2 i v e
    exact ⟨t', a', b', x', y', by rw [List.getElem?_append_left (by rw [← h.1]; exact hi)]; exact e1, r⟩
  · rw [List.getElem?_append_right (by omega)] at e
    have e0 : i - cs.length = 0 := by
      cases z : i - cs.length with
      | zero => rfl
      | succ j => rw [z] at e; simp at e
    rw [e0] at e
    refine ⟨t, a, b, x, y, ?_, (Option.some.inj e).symm, ht, ha, hb, bx, by_⟩
    rw [List.getElem?_append_right (by rw [← h.1]; omega), ← h.1, e0]
    rfl
theorem dv_lt {a c b : Nat} (hb : 0 < b) (h : a < c) : Rat.divInt (a : Int) (b : Int) < Rat.divInt (c : Int) (b : Int) := by
  have hb' : (0 : Rat) < ((b : Int) : Rat) := Rat.intCast_pos.mpr (by omega)
  rw [Rat.divInt_eq_div, Rat.divInt_eq_div, Rat.div_def, Rat.div_def, Rat.mul_comm _ (((b : Int) : Rat)⁻¹), Rat.mul_comm _ (((b : Int) : Rat)⁻¹)]
  exact (Rat.mul_lt_mul_left (Rat.inv_pos.mpr hb')).mpr (Rat.intCast_lt_intCast.mpr (by omega))
theorem dv_nul {b : Nat} : Rat.divInt ((0 : Nat) : Int) (b : Int) = 0 := Rat.zero_divInt _
theorem dv_one {b : Nat} (hb : 0 < b) : Rat.divInt (b : Int) (b : Int) = 1 := Rs.divInt_one (by omega)
/-- corners of the law -/
structure CoT (bs : List (Rat × Rat)) : Prop where
  up : Asc bs
  l2 : 2 ≤ bs.length
  l7 : bs.length ≤ 7
  bot : ∀ x, bs[0]? = some x → x.1 = 0
  top : ∀ x, bs[bs.length - 1]? = some x → x.1 = 1
theorem cot_of {bs : List (Rat × Rat)} {ts : List Nat} {b : Nat} (e : bs.map Prod.fst = ((0 :: ts) ++ [b]).map fun (t : Nat) => Rat.divInt (t : Int) (b : Int)) (hb : 0 < b) (hp : ts.Pairwise (· < ·)) (hr : ∀ t ∈ ts, 1 ≤ t ∧ t < b) (hl : ts.length ≤ 5) : CoT bs := by
  have hlen : bs.length = ts.length + 2 := by
    have := congrArg List.length e
    simp at this
    omega
  have at_ : ∀ (i : Nat) (x : Rat × Rat), bs[i]? = some x → ∃ t : Nat, ((0 :: ts) ++ [b])[i]? = some t ∧ x.1 = Rat.divInt (t : Int) (b : Int) := fun i x h => by
    have h1 : (bs.map Prod.fst)[i]? = some x.1 := by rw [List.getElem?_map, h]; rfl
    rw [e, List.getElem?_map] at h1
    obtain ⟨t, e1, e2⟩ := Option.map_eq_some_iff.mp h1
    exact ⟨t, e1, e2.symm⟩
  have pw : ((0 :: ts) ++ [b]).Pairwise (· < ·) := by
    rw [List.pairwise_append]
    refine ⟨List.pairwise_cons.mpr ⟨fun a ha => (hr a ha).1, hp⟩, List.pairwise_singleton _ _, fun x hx y hy => ?_⟩
    rw [List.mem_singleton.mp hy]
    rcases List.mem_cons.mp hx with rfl | hx
    · exact hb
    · exact (hr x hx).2
  refine ⟨⟨fun i x y hx hy => ?_⟩, by omega, by omega, fun x hx => ?_, fun x hx => ?_⟩
  · obtain ⟨t, e1, e2⟩ := at_ i x hx
    obtain ⟨u, f1, f2⟩ := at_ _ y hy
    rw [e2, f2]
    refine dv_lt hb ?_
    obtain ⟨a1, a2⟩ := List.getElem?_eq_some_iff.mp e1
    obtain ⟨b1, b2⟩ := List.getElem?_eq_some_iff.mp f1
    rw [← a2, ← b2]
    exact List.pairwise_iff_getElem.mp pw i (i + 1) a1 b1 (Nat.lt_succ_self i)
  · obtain ⟨t, e1, e2⟩ := at_ 0 x hx
    have : t = 0 := (Option.some.inj e1).symm
    rw [e2, this, dv_nul]
  · obtain ⟨t, e1, e2⟩ := at_ _ x hx
    rw [hlen, List.getElem?_append_right (by simp)] at e1
    have : t = b := by
      simp at e1
      exact e1.symm
    rw [e2, this, dv_one hb]
def spCorners (K : PySem.W.Frag) : Sp := fun vs H Q _ => ∃ (l : Addr) (z : Int), vs = [.ref l] ∧ H l = some (.lst [.int z]) ∧ ∀ D cs bs z' H', SameB l H H' → H' l = some (.lst [.int z']) → H D = none → D ≠ l → H' D = some (.lst cs) → BendsAt K H' cs bs → CoT bs → Q (.ref D) H'
theorem nat8 {n : Nat} (h : n ≤ 14) : ((n : Nat) : Int).natAbs < 2 ^ 8 := Nat.lt_of_le_of_lt (show ((n : Nat) : Int).natAbs ≤ 14 by omega) (by decide)
section
variable {P : Program} {w : World} {K : PySem.W.Frag} {mg : Str → Option Value} {base : Heap}
theorem scCorners : FnScope ["_law_left_here", "_law_many", "_law_bottom", "_law_marks", "_law_top"] ["_law_left_here"] (defScope sCorners) := ⟨rfl, rfl, rfl, by decide +kernel, rfl, by decide +kernel, by decide +kernel⟩
theorem ok_Corners {f fD fL fG : Addr} {fd fdD fdL fdG : FuncData} {k : Nat} (F : Fun K "_law_corners" "_law_corners" sCorners f fd) (GD : FnOk P w K mg base CX0 k fD fdD ["_law_left_here", "_law_many"] spDigit) (kD : PySem.W.keepIn K (.ref fD) = true) (bD : Binds K fdD ["_law_left_here", "_law_many"] []) (gD : mg "_law_digit" = some (.ref fD)) (GL : FnOk P w K mg base CX0 k fL fdL ["_law_top", "_law_bottom"] spLow) (kL : PySem.W.keepIn K (.ref fL) = true) (bL : Binds K fdL ["_law_top", "_law_bottom"] []) (gL : mg "_law_low" = some (.ref fL)) (GG : FnOk P w K mg base CX0 k fG fdG ["_law_left_here"] (Lw.spGain K)) (kG : PySem.W.keepIn K (.ref fG) = true) (bG : Binds K fdG ["_law_left_here"] []) (gG : mg "_law_gain" = some (.ref fG)) (B : Blt mg) : FnOk P w K mg base CX0 (k + 1) f fd ["_law_left_here"] (spCorners K) := by
  refine F.ok scCorners (fun vs H Q E h => ?_) (fun cdv A outer s H vs Q E hr h => ?_)
  · obtain ⟨l, z, rfl, _⟩ := h
    rfl
  · obtain ⟨l, z, rfl, hl, q⟩ := h
    refine ⟨_, (pss_cons (ps_set (i := 1) scCorners.nd rfl (.inl rfl) (pe_call GD hr (by rfl) gD kD bD .nil pass0 (pa_cons (pv 0) (pa_cons pe_int pa_nil))))
      (pss_cons (ps_set (i := 2) scCorners.nd rfl (.inr rfl) (pe_op op_add (pe_op op_add (pv 1) pe_int) (pe_call GD hr (by rfl) gD kD bD .nil pass0 (pa_cons (pv 0) (pa_cons pe_int pa_nil)))))
      (pss_cons (ps_set (i := 3) scCorners.nd rfl (.inl rfl) (pe_lst pa_nil))
      (pss_cons (ps_for PassesOwn.never rfl (pi_range2 (by rfl) B.range_ (pa_cons pe_int (pa_cons (pv 2) pa_nil))) (pg_name (i := 4) scCorners.nd rfl (.inl rfl)) (pss_one (ps_if (PW.pt (pw_and (pt_cmpR op_lt (pe_callB call_len_seq (by rfl) B.len_ PySem.boot_len (pa_cons (pv 3) pa_nil)) (pv 1) (nomark _)) (pw_and1 (pt_cmpR op_eq (pe_call GD hr (by rfl) gD kD bD .nil pass0 (pa_cons (pv 0) (pa_cons pe_int pa_nil))) pe_int (nomark _))))) (pss_one (ps_expr (pe_bm PySem.F.plainAttrs_list PySem.F.slot_list_append PySem.F.type_list_append mt_append (pv 3) (pa_cons (pv 4) pa_nil)))) pss_nil)))
      (pss_one (ps_ret (pe_lc (own := [("_law_top", 4)]) (g := gName 4) (tt := tYes) (te := (tTup (tCons (tCall spLow [] E0 (tCons (tVar 4) (tCons (tVar 2) tNil))) (tCons (tCall (Lw.spGain K) [] E0 (tCons (tVar 0) tNil)) (tCons (tC .non) tNil))))) rfl scCorners.nd (pi_list (pe_op op_cat (pe_op op_cat (pe_lst (pa_cons pe_int pa_nil)) (pv 3)) (pe_lst (pa_cons (pv 2) pa_nil)))) (blkOk_by (N := ["_law_left_here", "_law_many", "_law_bottom", "_law_marks", "_law_top"]) (sc := defScope sCorners) (by decide +kernel)) (fun _ _ _ _ _ => (pg_name (i := 4) scCorners.nd rfl (Or.inl rfl))) (fun _ _ _ _ _ => pts_nil) (fun _ _ _ _ _ => (pe_tup (pa_cons (pe_call GL hr (by rfl) gL kL bL .nil pass0 (pa_cons (pv 4) (pa_cons (pv 2) pa_nil))) (pa_cons (pe_call GG hr (by rfl) gG kG bG .nil pass0 (pa_cons (pv 0) pa_nil)) (pa_cons pe_non pa_nil)))))))))))), ?_⟩
    refine ⟨_, rfl, l, z, 6, rfl, hl, by decide, by decide, fun d1 z1 a0 a1 => ?_⟩
    refine ⟨_, rfl, d1, 1, rfl, rfl, _, rfl, l, z1, 9, rfl, upd_same, by decide, by decide, fun d2 z2 b0 b1 => ⟨d1 + 1, d2, rfl, rfl, ?_⟩⟩
    obtain ⟨b, eb⟩ : ∃ b : Nat, d1 + 1 + d2 = (b : Int) := ⟨(d1 + 1 + d2).toNat, by omega⟩
    rw [show ((fun i j => V.int (i + j)) (d1 + 1) d2 : V) = V.int (b : Int) from congrArg V.int eb]
    have sb2 : SameB l H (upd (upd H l (.lst [.int z1])) l (.lst [.int z2])) := SameB.upd.trans SameB.upd
    have hl2 : (upd (upd H l (.lst [.int z1])) l (.lst [.int z2])) l = some (.lst [.int z2]) := upd_same
    generalize upd (upd H l (.lst [.int z1])) l (.lst [.int z2]) = H2 at sb2 hl2 ⊢
    have hb1 : 1 ≤ b := by omega
    have hb14 : b ≤ 14 := by omega
    refine ⟨(by show 0 ≤ sizeLine; decide), fun M nM => ?_⟩
    have hMl : M ≠ l := fun e => by
      rw [e, hl2] at nM
      cases nM
    have nM0 : H M = none := by
      cases e : H M with
      | none => rfl
      | some u =>
        rw [sb2 M u hMl e] at nM
        cases nM
    refine ⟨_, rfl, 1, (b : Int), rfl, ⟨by decide, by decide, by omega, by omega⟩, for_range (lo := 1) (n := ((b : Int) - 1).toNat) (fun i σ H' => ∃ (ts : List Nat) (z' : Int) (y : Option V), σ = [some (.ref l), some (.int d1), some (.int (b : Int)), some (.ref M), y] ∧ H' M = some (.lst (dsV ts)) ∧ SameB l H H' ∧ H' l = some (.lst [.int z']) ∧ ts.Pairwise (· < ·) ∧ (∀ t ∈ ts, 1 ≤ t ∧ t < i + 1) ∧ (ts.length : Int) ≤ d1)
      ⟨[], z2, none, rfl, upd_same, sb2.trans (SameB.of (same_new nM _)), by rw [upd_ne (Ne.symm hMl)]; exact hl2, List.Pairwise.nil, fun t ht => by simp at ht, by simp; omega⟩ ?_ ?_⟩
    · rintro i σ H' hi ⟨ts, z', y, rfl, hM, sb, hl', pw, rg, ln⟩
      rw [show ((1 : Int) + (i : Int)) = ((i + 1 : Nat) : Int) by omega]
      refine ⟨_, rfl, M, dsV ts, rfl, .inl (SqL.of hM), _, rfl, _, _, rfl, rfl, _, rfl, ?_⟩
      have dl : (dsV ts).length = ts.length := List.length_map _
      refine ite2 (fun c => ?_) (fun c => ?_)
      rotate_left
      · exact iteF ⟨ts, z', _, rfl, hM, sb, hl', pw, fun t ht => ⟨(rg t ht).1, by have := (rg t ht).2; omega⟩, ln⟩
      have c' : (ts.length : Int) < d1 := by
        have := of_decide_eq_true c
        rw [dl] at this
        exact this
      refine ⟨_, rfl, l, z', 2, rfl, hl', by decide, by decide, fun d z'' e0 e1 => ⟨rfl, _, rfl, ?_⟩⟩
      have hM2 : (upd H' l (.lst [.int z''])) M = some (.lst (dsV ts)) := by rw [upd_ne hMl]; exact hM
      have hl2' : (upd H' l (.lst [.int z''])) l = some (.lst [.int z'']) := upd_same
      have sb' : SameB l H (upd H' l (.lst [.int z''])) := sb.trans SameB.upd
      generalize upd H' l (.lst [.int z'']) = H3 at hM2 hl2' sb' ⊢
      refine ite2 (fun _ => ?_) (fun _ => ?_)
      rotate_left
      · exact ⟨ts, z'', _, rfl, hM2, sb', hl2', pw, fun t ht => ⟨(rg t ht).1, by have := (rg t ht).2; omega⟩, ln⟩
      refine ⟨_, rfl, .inl ⟨rfl, _, SqL.of hM2⟩, _, rfl, M, _, _, rfl, rfl, hM2, ?_, ?_⟩
      · rw [dl]
        exact small1000 (by omega)
      refine ⟨ts ++ [i + 1], z'', _, rfl, ?_, fun x u hx e => ?_, by rw [upd_ne (Ne.symm hMl)]; exact hl2', ?_, fun t ht => ?_, ?_⟩
      · rw [upd_same]
        unfold dsV
        rw [List.map_append]
        rfl
      · rw [upd_ne (ne_of_none e nM0)]
        exact sb' _ _ hx e
      · rw [List.pairwise_append]
        refine ⟨pw, List.pairwise_singleton _ _, fun x hx y hy => ?_⟩
        rw [List.mem_singleton.mp hy]
        have := (rg x hx).2
        omega
      · rcases List.mem_append.mp ht with ht | ht
        · exact ⟨(rg t ht).1, by have := (rg t ht).2; omega⟩
        · rw [List.mem_singleton.mp ht]
          omega
      · rw [List.length_append, List.length_singleton]
        omega
    · rintro σ H3 ⟨ts, z3, y, rfl, hM, sb3, hl3, pw, rg, ln⟩
      have dl : (dsV ts).length = ts.length := List.length_map _
      refine ⟨(by show 1 ≤ sizeLine; decide), fun A nA => ?_⟩
      have s4 := same_new nA (.lst [V.int 0])
      have hA4 : (upd H3 A (.lst [V.int 0])) A = some (.lst [V.int 0]) := upd_same
      have hM4 := s4 _ _ hM
      have hl4 := s4 _ _ hl3
      generalize upd H3 A (.lst [V.int 0]) = H4 at s4 hA4 hM4 hl4 ⊢
      refine ⟨_, rfl, A, M, _, _, rfl, rfl, hA4, hM4, ?_, fun A2 nA2 => ?_⟩
      · rw [List.length_singleton, dl]
        exact Nat.le_of_lt (small1000 (by omega))
      have s5 := same_new nA2 (.lst ([V.int 0] ++ dsV ts))
      have hA5 : (upd H4 A2 (.lst ([V.int 0] ++ dsV ts))) A2 = some (.lst ([V.int 0] ++ dsV ts)) := upd_same
      have hl5 := s5 _ _ hl4
      generalize upd H4 A2 (.lst ([V.int 0] ++ dsV ts)) = H5 at s5 hA5 hl5 ⊢
      refine ⟨_, rfl, (by show 1 ≤ sizeLine; decide), fun A3 nA3 => ?_⟩
      have s6 := same_new nA3 (.lst [V.int (b : Int)])
      have hA6 := s6 _ _ hA5
      have hB6 : (upd H5 A3 (.lst [V.int (b : Int)])) A3 = some (.lst [V.int (b : Int)]) := upd_same
      have hl6 := s6 _ _ hl5
      generalize upd H5 A3 (.lst [V.int (b : Int)]) = H6 at s6 hA6 hB6 hl6 ⊢
      refine ⟨A2, A3, _, _, rfl, rfl, hA6, hB6, ?_, fun Lx nLx => ?_⟩
      · rw [List.length_append, List.length_singleton, List.length_singleton, dl]
        exact Nat.le_of_lt (small1000 (by omega))
      have ef : ([V.int 0] ++ dsV ts) ++ [V.int (b : Int)] = dsV ((0 :: ts) ++ [b]) := by
        unfold dsV
        rw [List.map_append]
        rfl
      rw [ef]
      have hLl : Lx ≠ l := fun e => by
        rw [e, hl6] at nLx
        cases nLx
      have s7 := same_new nLx (.lst (dsV ((0 :: ts) ++ [b])))
      have hL7 : (upd H6 Lx (.lst (dsV ((0 :: ts) ++ [b])))) Lx = some (.lst (dsV ((0 :: ts) ++ [b]))) := upd_same
      have hl7 := s7 _ _ hl6
      have s37 := ((s4.trans s5).trans s6).trans s7
      generalize upd H6 Lx (.lst (dsV ((0 :: ts) ++ [b]))) = H7 at s7 hL7 hl7 s37 ⊢
      have sb7 := sb3.trans (SameB.of s37)
      refine ⟨Lx, rfl, ⟨_, SqL.of hL7⟩, fun R nR => lc_list (K := K) (a := Lx) (xs := dsV ((0 :: ts) ++ [b])) (fun i H' => ∃ cs bs z', H' R = some (.lst cs) ∧ BendsAt K H' cs bs ∧ bs.map Prod.fst = (((0 :: ts) ++ [b]).take i).map (fun (t : Nat) => Rat.divInt (t : Int) (b : Int)) ∧ SameB l H7 H' ∧ H' l = some (.lst [.int z']))
        ⟨[], [], z3, upd_same, ⟨rfl, fun i v e => by simp at e⟩, rfl, SameB.of (same_new nR _), by rw [upd_ne (ne_of_none hl7 nR)]; exact hl7⟩ (fun i H' _ ⟨_, _, _, _, _, _, s, _⟩ => SqL.of (s _ _ hLl hL7)) ?_ ?_⟩
      · rintro i v H8 hi ⟨cs, bs, z8, hR8, hB8, em, sb8, hl8⟩
        obtain ⟨t, et, rfl⟩ : ∃ t : Nat, ((0 :: ts) ++ [b])[i]? = some t ∧ v = .int (t : Int) := by
          unfold dsV at hi
          rw [List.getElem?_map] at hi
          obtain ⟨t, e1, e2⟩ := Option.map_eq_some_iff.mp hi
          exact ⟨t, e1, e2.symm⟩
        have ht : t ≤ 14 := by
          rcases List.mem_append.mp (List.mem_of_getElem? et) with h | h
          · rcases List.mem_cons.mp h with rfl | h
            · omega
            · have := (rg t h).2
              omega
          · rw [List.mem_singleton.mp h]
            exact hb14
        have hRl : R ≠ l := (ne_of_none hl7 nR).symm
        have hcl : cs.length ≤ 7 := by
          have h1 := congrArg List.length em
          have h2 := (List.getElem?_eq_some_iff.mp et).1
          rw [List.length_map, List.length_map, List.length_take] at h1
          rw [List.length_append, List.length_singleton, List.length_cons] at h2
          have := hB8.1
          omega
        refine ⟨rfl, tYes_of ?_⟩
        refine ⟨_, rfl, _, rfl, (t : Int), (b : Int), 8, rfl, nat8 ht, nat8 hb14, by omega, by decide, fun p np => ?_⟩
        have s9 := same_new np (.tup (rp (Rat.divInt (t : Int) (b : Int))))
        have hp9 : SqT K (upd H8 p (.tup (rp (Rat.divInt (t : Int) (b : Int))))) p (rp (Rat.divInt (t : Int) (b : Int))) := SqT.of upd_same
        have hl9 := s9 _ _ hl8
        generalize upd H8 p (.tup (rp (Rat.divInt (t : Int) (b : Int)))) = H9 at s9 hp9 hl9 ⊢
        refine ⟨_, rfl, l, z8, rfl, hl9, fun p2 g z2 Ha sba hla hp2 bg => ?_⟩
        have hR9 := s9 _ _ hR8
        have hRa := sba _ _ hRl hR9
        refine ⟨(by show 3 ≤ sizeLine; decide), fun pt nt => ?_⟩
        have sc := same_new nt (.tup [V.ref p, V.ref p2, V.non])
        have hRc := sc _ _ hRa
        have hBc : BendsAt K (upd Ha pt (.tup [V.ref p, V.ref p2, V.non])) cs bs := ((hB8.same s9).keep (sba.tup hl9)).same sc
        have hBn := hBc.snoc (t := pt) (a := p) (b := p2) (x := Rat.divInt (t : Int) (b : Int)) (y := g) (SqT.of upd_same) (seqT sc (sba.tup hl9 _ _ hp9)) (seqT sc hp2) (Fr.bd_low (nat8 ht) (nat8 hb14) (by omega)) bg
        refine ⟨cs, hRc, small1000 (by omega), cs ++ [.ref pt], bs ++ [(Rat.divInt (t : Int) (b : Int), g)], z2, upd_same, hBn.keep (keep_lst hRc), ?_, fun x u hx e => ?_, ?_⟩
        · rw [List.map_append, em, take_succ_at et, List.map_append]
          rfl
        · rw [upd_ne (ne_of_none e nR)]
          exact sc _ _ (sba _ _ hx (s9 _ _ (sb8 _ _ hx e)))
        · rw [upd_ne (Ne.symm hRl)]
          exact sc _ _ hla
      · rintro H8 ⟨cs, bs, z8, hR8, hB8, em, sb8, hl8⟩
        have ed : (dsV ((0 :: ts) ++ [b])).length = ((0 :: ts) ++ [b]).length := List.length_map _
        rw [ed, List.take_length] at em
        have hRl : R ≠ l := (ne_of_none hl7 nR).symm
        have nR0 : H R = none := by
          cases e : H R with
          | none => rfl
          | some u =>
            rw [sb7 R u hRl e] at nR
            cases nR
        exact q R cs bs z8 H8 (sb7.trans sb8) hl8 nR0 hRl hR8 hB8 (cot_of em hb1 pw (fun t ht => ⟨(rg t ht).1, by have := (rg t ht).2; omega⟩) (by omega))
end
end K43

set_option Elab.async false
set_option linter.all false
set_option maxRecDepth 100000
set_option maxHeartbeats 32000000
namespace K43
open PySem PySem.Spec PyProof.Rows L2 BX EXB Co Ru
open Dz Cs Hr
open Rs (Rsp Rv Ret tYes_of dV datR Flat Okr spShares spRowsL spTotal spCopied eqv_dR)
open Fr (Bd)
def q12 : Rat := ⟨1, 2, by decide, by decide⟩
def q13 : Rat := ⟨1, 3, by decide, by decide⟩
def q57 : Rat := ⟨5, 7, by decide, by decide⟩
def spLaw (K : PySem.W.Frag) : Sp := fun vs H Q _ => ∃ (a : Addr) (ns : List Int), vs = [.ref a] ∧ SqL K H a (ns.map V.int) ∧ ns.length ≤ 63 ∧ ∀ H', Q (.bl true) H'
theorem asc_le {bs : List (Rat × Rat)} (h : Asc bs) {x : Rat × Rat} {i : Nat} (hx : bs[i]? = some x) : ∀ (k : Nat) (y : Rat × Rat), bs[i + k]? = some y → x.1 ≤ y.1
  | 0, y, hy => by
    rw [Nat.add_zero, hx] at hy
    rw [Option.some.inj hy]
    exact Rat.le_refl
  | k + 1, y, hy => by
    have hk : i + k < bs.length := by
      have := (List.getElem?_eq_some_iff.mp hy).1
      omega
    exact Rat.le_trans (asc_le h hx k _ (List.getElem?_eq_getElem hk)) (Rat.le_of_lt (h.up (i + k) _ y (List.getElem?_eq_getElem hk) hy))
theorem CoT.rng {bs : List (Rat × Rat)} (h : CoT bs) {i : Nat} {x : Rat × Rat} (hx : bs[i]? = some x) : 0 ≤ x.1 ∧ x.1 ≤ 1 := by
  have hi := (List.getElem?_eq_some_iff.mp hx).1
  have h2 := h.l2
  have a := asc_le h.up (List.getElem?_eq_getElem (show 0 < bs.length by omega)) i x (by rw [Nat.zero_add]; exact hx)
  rw [h.bot _ (List.getElem?_eq_getElem (by omega))] at a
  have b := asc_le h.up hx (bs.length - 1 - i) bs[bs.length - 1] (by rw [show i + (bs.length - 1 - i) = bs.length - 1 by omega]; exact List.getElem?_eq_getElem (by omega))
  rw [h.top _ (List.getElem?_eq_getElem (by omega))] at b
  exact ⟨a, b⟩
theorem dv_le {d : Nat} {b : Nat} (hb : 0 < b) (h : d ≤ b) : Rat.divInt (d : Int) (b : Int) ≤ 1 := by
  by_cases e : d = b
  · rw [e, dv_one hb]
    exact Rat.le_refl
  · have := dv_lt (a := d) (c := b) hb (by omega)
    rw [dv_one hb] at this
    exact Rat.le_of_lt this
/-- fractions from 0 to 1 -/
def PaAll (K : PySem.W.Frag) (H : Hp) (xs : List V) : Prop := ∀ v ∈ xs, ∃ (p : Addr) (q : Rat), v = .ref p ∧ SqT K H p (rp q) ∧ Bd 8 q ∧ 0 ≤ q ∧ q ≤ 1
theorem PaAll.same {K : PySem.W.Frag} {H H' : Hp} {xs : List V} (h : PaAll K H xs) (s : Same H H') : PaAll K H' xs := fun v hv => let ⟨p, q, a, b, c⟩ := h v hv; ⟨p, q, a, seqT s b, c⟩
theorem PaAll.keep {K : PySem.W.Frag} {H H' : Hp} {xs : List V} (h : PaAll K H xs) (s : ∀ a xs, SqT K H a xs → SqT K H' a xs) : PaAll K H' xs := fun v hv => let ⟨p, q, a, b, c⟩ := h v hv; ⟨p, q, a, s _ _ b, c⟩
theorem PaAll.app {K : PySem.W.Frag} {H : Hp} {xs ys : List V} (h : PaAll K H xs) (g : PaAll K H ys) : PaAll K H (xs ++ ys) := fun v hv => (List.mem_append.mp hv).elim (h v) (g v)
theorem PaAll.nil {K : PySem.W.Frag} {H : Hp} : PaAll K H [] := fun v hv => by cases hv
theorem PaAll.cons {K : PySem.W.Frag} {H : Hp} {xs : List V} {p : Addr} {q : Rat} (hp : SqT K H p (rp q)) (b : Bd 8 q) (h0 : 0 ≤ q) (h1 : q ≤ 1) (h : PaAll K H xs) : PaAll K H (.ref p :: xs) := fun v hv => (List.mem_cons.mp hv).elim (fun e => ⟨p, q, e, hp, b, h0, h1⟩) (h v)
theorem not_no {q : Rat} (h0 : 0 ≤ q) (h1 : q ≤ 1) : ¬ partD (dR q) = false := by
  rw [part_of h0 h1]
  decide
/-- corners as data -/
abbrev dB (bs : List (Rat × Rat)) : PyData := .list (bs.map fun b => .tuple [dR b.1, dR b.2, .none])
theorem BendsAt.dp {K : PySem.W.Frag} {H : Hp} : ∀ {cs : List V} {bs : List (Rat × Rat)}, BendsAt K H cs bs → DpAll K H cs (bs.map fun b => .tuple [dR b.1, dR b.2, .none])
  | [], [], _ => .nil
  | [], _ :: _, h => by have := h.1; simp at this
  | _ :: _, [], h => by have := h.1; simp at this
  | v :: cs, b :: bs, h => by
    obtain ⟨t, a, b', x, y, e1, rfl, e3, e4, e5, _⟩ := h.2 0 v rfl
    cases (Option.some.inj e1)
    exact .cons (.tup e3 (.cons (dp_r e4) (.cons (dp_r e5) (.cons .non .nil)))) (BendsAt.dp ⟨by have := h.1; simpa using this, fun i v e => h.2 (i + 1) v e⟩)
theorem dB_lays : ∀ bs : List (Rat × Rat), PyData.canLayAll0 (bs.map fun b => .tuple [dR b.1, dR b.2, .none]) = true
  | [] => rfl
  | b :: bs => by
    show (true && PyData.canLayAll0 (bs.map fun b => .tuple [dR b.1, dR b.2, .none])) = true
    rw [dB_lays bs]
    rfl
theorem dB_deps : ∀ bs : List (Rat × Rat), PyData.depthAll (bs.map fun b => .tuple [dR b.1, dR b.2, .none]) ≤ 2
  | [] => by decide
  | b :: bs => by
    have := dB_deps bs
    show max 2 (PyData.depthAll (bs.map fun b => .tuple [dR b.1, dR b.2, .none])) ≤ 2
    omega
theorem dB_shaped (bs : List (Rat × Rat)) : SeqAt.shaped (dB bs) = true := by
  unfold SeqAt.shaped
  rw [show (dB bs).canLay0 = true from dB_lays bs, Bool.true_and]
  refine decide_eq_true ?_
  have := dB_deps bs
  show PyData.depthAll (bs.map fun b => .tuple [dR b.1, dR b.2, .none]) + 1 ≤ 64
  omega
theorem odd_sz {d : PyData} {n : Nat} (h : d.shown.length ≤ n) (hn : n ≤ 60) : d.shown.length ≤ sizeLine := Nat.le_trans h (by rw [sizeLine_eq]; omega)
theorem odd_t {K : PySem.W.Frag} {H : Hp} {p : Addr} {i j : Int} (h : SqT K H p [.int i, .int j]) (no : partD (.tuple [.int i, .int j]) = false) (sh : (PyData.tuple [.int i, .int j]).showable = true) (sz : (PyData.tuple [.int i, .int j]).shown.length ≤ 60) : OddT K H (.ref p) (.tuple [.int i, .int j]) :=
  ⟨.tup h (.cons (.int _) (.cons (.int _) .nil)), .tup h (.cons (.int _) (.cons (.int _) .nil)), no, sh, (by show (1 : Nat) ≤ 64; decide), odd_sz sz (Nat.le_refl _)⟩
theorem odd_at {K : PySem.W.Frag} {H : Hp} {t1 t2 t3 t4 t5 t6 : Addr} (h1 : SqT K H t1 [.int (-1), .int 9]) (h2 : SqT K H t2 [.int 10, .int 9]) (h3 : SqT K H t3 [.int 2, .int 4]) (h4 : SqT K H t4 [.int 0, .int 2]) (h5 : H t5 = some (.lst [.int 1, .int 2])) (h6 : SqT K H t6 [.int 1, .int 0]) {d : Int} (d0 : 0 ≤ d) (d1 : d < 11) :
    ∃ v dt, atI [V.ref t1, V.ref t2, V.ref t3, V.ref t4, V.int 0, V.int 1, V.bl true, V.non, V.str "1/2", V.ref t5, V.ref t6] d = some v ∧ OddT K H v dt := by
  have : d = 0 ∨ d = 1 ∨ d = 2 ∨ d = 3 ∨ d = 4 ∨ d = 5 ∨ d = 6 ∨ d = 7 ∨ d = 8 ∨ d = 9 ∨ d = 10 := by omega
  rcases this with rfl | rfl | rfl | rfl | rfl | rfl | rfl | rfl | rfl | rfl | rfl
  · exact ⟨_, _, atI_nat (j := 0) rfl, odd_t h1 (by decide +kernel) (by decide +kernel) (by decide +kernel)⟩
  · exact ⟨_, _, atI_nat (j := 1) rfl, odd_t h2 (by decide +kernel) (by decide +kernel) (by decide +kernel)⟩
  · exact ⟨_, _, atI_nat (j := 2) rfl, odd_t h3 (by decide +kernel) (by decide +kernel) (by decide +kernel)⟩
  · exact ⟨_, _, atI_nat (j := 3) rfl, odd_t h4 (by decide +kernel) (by decide +kernel) (by decide +kernel)⟩
  · exact ⟨_, .int 0, atI_nat (j := 4) rfl, .int _, .int _, rfl, by decide +kernel, by decide, odd_sz (n := 60) (by decide +kernel) (by decide)⟩
  · exact ⟨_, .int 1, atI_nat (j := 5) rfl, .int _, .int _, rfl, by decide +kernel, by decide, odd_sz (n := 60) (by decide +kernel) (by decide)⟩
  · exact ⟨_, .bool true, atI_nat (j := 6) rfl, .bl _, .bl _, rfl, by decide +kernel, by decide, odd_sz (n := 60) (by decide +kernel) (by decide)⟩
  · exact ⟨_, .none, atI_nat (j := 7) rfl, .non, .non, rfl, by decide +kernel, by decide, odd_sz (n := 60) (by decide +kernel) (by decide)⟩
  · exact ⟨_, .str "1/2", atI_nat (j := 8) rfl, .str _, .str _, rfl, by decide +kernel, by decide, odd_sz (n := 60) (by decide +kernel) (by decide)⟩
  · exact ⟨_, .list [.int 1, .int 2], atI_nat (j := 9) rfl, .lst h5 (fun z => z) (.cons (.int _) (.cons (.int _) .nil)), .lst (SqL.of h5) (.cons (.int _) (.cons (.int _) .nil)), rfl, by decide +kernel, by decide, odd_sz (n := 60) (by decide +kernel) (by decide)⟩
  · exact ⟨_, _, atI_nat (j := 10) rfl, odd_t h6 (by decide +kernel) (by decide +kernel) (by decide +kernel)⟩
section
variable {P : Program} {w : World} {K : PySem.W.Frag} {mg : Str → Option Value} {base : Heap}
theorem scLaw : FnScope ["_law_script", "_law_part", "_law_spot", "_law_cell", "_law_left_here", "_law_bends", "_law_kept", "_law_parts_here", "_law_odd", "_law_corner", "_law_turn"] ["_law_script"] (defScope sLaw) := ⟨rfl, rfl, rfl, by decide +kernel, rfl, by decide +kernel, by decide +kernel⟩
theorem ok_law {f fD fL f1 f2 f3 f4 fR : Addr} {fd fdD fdL fd1 fd2 fd3 fd4 fdR : FuncData} {k : Nat} {CU : Addr} (F : Fun K "law" "law" sLaw f fd) (GD : FnOk P w K mg base CX0 k fD fdD ["_law_left_here", "_law_many"] spDigit) (kD : PySem.W.keepIn K (.ref fD) = true) (bD : Binds K fdD ["_law_left_here", "_law_many"] []) (gD : mg "_law_digit" = some (.ref fD)) (GL : FnOk P w K mg base CX0 k fL fdL ["_law_top", "_law_bottom"] spLow) (kL : PySem.W.keepIn K (.ref fL) = true) (bL : Binds K fdL ["_law_top", "_law_bottom"] []) (gL : mg "_law_low" = some (.ref fL)) (G1 : FnOk P w K mg base CX0 k f1 fd1 ["_law_cell"] spLeft) (k1 : PySem.W.keepIn K (.ref f1) = true) (b1 : Binds K fd1 ["_law_cell"] []) (g1 : mg "_law_left" = some (.ref f1)) (G2 : FnOk P w K mg base CX0 k f2 fd2 ["_law_left_here"] (spCorners K)) (k2 : PySem.W.keepIn K (.ref f2) = true) (b2 : Binds K fd2 ["_law_left_here"] []) (g2 : mg "_law_corners" = some (.ref f2)) (G3 : FnOk P w K mg base CX0 k f3 fd3 ["_law_bends", "_law_part"] (spDue43 K)) (k3 : PySem.W.keepIn K (.ref f3) = true) (b3 : Binds K fd3 ["_law_bends", "_law_part"] []) (g3 : mg "_law_due" = some (.ref f3)) (G4 : FnOkG P w K mg base CX0 k f4 fd4 ["_law_bends", "_law_part"] (spRef43 K)) (k4 : PySem.W.keepIn K (.ref f4) = true) (b4 : Binds K fd4 ["_law_bends", "_law_part"] []) (g4 : mg "_law_refused" = some (.ref f4)) (GR : FnOk P w K mg base (L2.CX P w) k fR fdR ["corners", "part"] (spRoofAt K CU)) (kR : PySem.W.keepIn K (.ref fR) = true) (bR : Binds K fdR ["corners", "part"] []) (gR : mg "roof_at" = some (.ref fR)) (B : Blt mg) : FnOkG P w K mg base CX0 (k + 2) f fd ["_law_script"] (spLaw K) := by
  refine okG F scLaw (fun vs H Q E h => ?_) (fun cdv A outer s H vs Q E hr hgd h => ?_)
  · obtain ⟨a, ns, rfl, _⟩ := h
    rfl
  · obtain ⟨a, ns, rfl, hS, hlen, q⟩ := h
    have hk : Room k _ := hr.mono (by omega)
    refine ⟨_, (pss_cons (ps_for PassesOwn.never rfl (pi_list (pe_lst (pa_cons (pe_tup (pa_cons pe_int (pa_cons pe_int pa_nil))) (pa_cons (pe_tup (pa_cons pe_int (pa_cons pe_int pa_nil))) (pa_cons (pe_tup (pa_cons pe_int (pa_cons pe_int pa_nil))) pa_nil))))) (pg_name (i := 1) scLaw.nd rfl (.inl rfl)) (pss_one (ps_for PassesOwn.never rfl (pi_list (pe_lst (pa_cons (pe_tup (pa_cons pe_int (pa_cons pe_int pa_nil))) (pa_cons (pe_tup (pa_cons pe_int (pa_cons pe_int pa_nil))) (pa_cons (pe_tup (pa_cons pe_int (pa_cons pe_int pa_nil))) (pa_cons (pe_tup (pa_cons pe_int (pa_cons pe_int pa_nil))) pa_nil)))))) (pg_name (i := 2) scLaw.nd rfl (.inl rfl)) (pss_one (ps_if (pt_cmpR (op_neD hk.units) (pe_call (Rs.quiet GR) hk (by rfl) gR kR bR .nil pass0 (pa_cons (pe_lst (pa_cons (pe_tup (pa_cons (pv 2) (pa_cons (pe_tup (pa_cons pe_int (pa_cons pe_int pa_nil))) (pa_cons pe_non pa_nil)))) pa_nil)) (pa_cons (pv 1) pa_nil))) (pe_tup (pa_cons pe_int (pa_cons pe_int pa_nil))) (nomark _)) (pss_one (ps_ret pe_bl)) pss_nil)))))
      (pss_cons (ps_for PassesOwn.never rfl (pi_list (pe_op op_cat (pe_slice sl_list (pv 0) po_none (po_some pe_int)) (pe_lst (pa_cons pe_int pa_nil)))) (pg_name (i := 3) scLaw.nd rfl (.inl rfl)) (pss_cons (ps_set (i := 4) scLaw.nd rfl (.inr rfl) (pe_call G1 hk (by rfl) g1 k1 b1 .nil pass0 (pa_cons (pv 3) pa_nil)))
      (pss_cons (ps_set (i := 5) scLaw.nd rfl (.inl rfl) (pe_call G2 hk (by rfl) g2 k2 b2 .nil pass0 (pa_cons (pv 4) pa_nil)))
      (pss_cons (ps_set (i := 6) scLaw.nd rfl (.inl rfl) (pe_callTy (T := "list") call_list_of (by rfl) B.list_ (by decide +kernel) (pa_cons (pv 5) pa_nil)))
      (pss_cons (ps_set (i := 7) scLaw.nd rfl (.inl rfl) (pe_op op_cat (pe_lc (own := [("_law_corner", 9)]) (g := gName 9) (tt := tYes) (te := (tOp (rIxT K) (tVar 9) (tC (.int 0)))) rfl scLaw.nd (pi_list (pv 5)) (blkOk_by (N := ["_law_script", "_law_part", "_law_spot", "_law_cell", "_law_left_here", "_law_bends", "_law_kept", "_law_parts_here", "_law_odd", "_law_corner", "_law_turn"]) (sc := defScope sLaw) (by decide +kernel)) (fun _ _ _ _ _ => (pg_name (i := 9) scLaw.nd rfl (Or.inl rfl))) (fun _ _ _ _ _ => pts_nil) (fun _ _ _ _ _ => (pe_ix ix_tup (pv 9) pe_int (fun _ _ => rfl)))) (pe_lc (own := [("_law_turn", 10)]) (g := gName 10) (tt := tYes) (te := (tCall spLow [] E0 (tCons (tCall spDigit [] E0 (tCons (tVar 4) (tCons (tC (.int 30)) tNil))) (tCons (tC (.int 29)) tNil)))) rfl scLaw.nd (pi_range1 (by rfl) B.range_ (pa_cons pe_int pa_nil)) (blkOk_by (N := ["_law_script", "_law_part", "_law_spot", "_law_cell", "_law_left_here", "_law_bends", "_law_kept", "_law_parts_here", "_law_odd", "_law_corner", "_law_turn"]) (sc := defScope sLaw) (by decide +kernel)) (fun _ _ _ _ _ => (pg_name (i := 10) scLaw.nd rfl (Or.inl rfl))) (fun _ _ _ _ _ => pts_nil) (fun _ _ _ _ _ => (pe_call GL hk (by rfl) gL kL bL .nil pass0 (pa_cons (pe_call GD hk (by rfl) gD kD bD .nil pass0 (pa_cons (pv 4) (pa_cons pe_int pa_nil))) (pa_cons pe_int pa_nil)))))))
      (pss_cons (ps_for PassesOwn.never rfl (pi_list (pv 7)) (pg_name (i := 1) scLaw.nd rfl (.inl rfl)) (pss_one (ps_if (pt_cmpR (op_neD hk.units) (pe_call (Rs.quiet GR) hk (by rfl) gR kR bR .nil pass0 (pa_cons (pv 5) (pa_cons (pv 1) pa_nil))) (pe_call G3 hk (by rfl) g3 k3 b3 .nil pass0 (pa_cons (pv 5) (pa_cons (pv 1) pa_nil))) (nomark _)) (pss_one (ps_ret pe_bl)) pss_nil)))
      (pss_cons (ps_set (i := 8) scLaw.nd rfl (.inl rfl) (pe_ix ix_list (pe_lst (pa_cons (pe_tup (pa_cons (pe_un un_neg pe_int) (pa_cons pe_int pa_nil))) (pa_cons (pe_tup (pa_cons pe_int (pa_cons pe_int pa_nil))) (pa_cons (pe_tup (pa_cons pe_int (pa_cons pe_int pa_nil))) (pa_cons (pe_tup (pa_cons pe_int (pa_cons pe_int pa_nil))) (pa_cons pe_int (pa_cons pe_int (pa_cons pe_bl (pa_cons pe_non (pa_cons pe_str (pa_cons (pe_lst (pa_cons pe_int (pa_cons pe_int pa_nil))) (pa_cons (pe_tup (pa_cons pe_int (pa_cons pe_int pa_nil))) pa_nil)))))))))))) (pe_call GD hk (by rfl) gD kD bD .nil pass0 (pa_cons (pv 4) (pa_cons pe_int pa_nil))) (fun _ _ => rfl)))
      (pss_one (ps_if (PW.pt (pw_or (pt_not (pt_val (pe_callG G4 hk hgd (by rfl) g4 k4 b4 .nil pass0 (pa_cons (pv 5) (pa_cons (pv 8) pa_nil))))) (pw_or1 (pt_cmpR (op_neD hk.units) (pv 5) (pv 6) (nomark _))))) (pss_one (ps_ret pe_bl)) pss_nil)))))))))
      (pss_one (ps_ret pe_bl)))), ?_⟩
    refine ⟨(by show 2 ≤ sizeLine; decide), fun p1 np1 => ?_⟩
    have sH1 := same_new np1 (.tup [V.int 0, V.int 1])
    have h1 : SqT K (upd H p1 (.tup [V.int 0, V.int 1])) p1 (rp 0) := SqT.of upd_same
    generalize upd H p1 (.tup [V.int 0, V.int 1]) = H1 at sH1 h1 ⊢
    refine ⟨(by show 2 ≤ sizeLine; decide), fun p2 np2 => ?_⟩
    have sH2 := same_new np2 (.tup [V.int 1, V.int 2])
    have h2 : SqT K (upd H1 p2 (.tup [V.int 1, V.int 2])) p2 (rp q12) := SqT.of upd_same
    have h1 := seqT sH2 h1
    generalize upd H1 p2 (.tup [V.int 1, V.int 2]) = H2 at sH2 h2 h1 ⊢
    refine ⟨(by show 2 ≤ sizeLine; decide), fun p3 np3 => ?_⟩
    have sH3 := same_new np3 (.tup [V.int 1, V.int 1])
    have h3 : SqT K (upd H2 p3 (.tup [V.int 1, V.int 1])) p3 (rp 1) := SqT.of upd_same
    have h1 := seqT sH3 h1
    have h2 := seqT sH3 h2
    generalize upd H2 p3 (.tup [V.int 1, V.int 1]) = H3 at sH3 h3 h1 h2 ⊢
    refine ⟨(by show 3 ≤ sizeLine; decide), fun L nL => ?_⟩
    have sH4 := same_new nL (.lst [V.ref p1, V.ref p2, V.ref p3])
    have hL : (upd H3 L (.lst [V.ref p1, V.ref p2, V.ref p3])) L = some (.lst [V.ref p1, V.ref p2, V.ref p3]) := upd_same
    have h1 := seqT sH4 h1
    have h2 := seqT sH4 h2
    have h3 := seqT sH4 h3
    generalize upd H3 L (.lst [V.ref p1, V.ref p2, V.ref p3]) = H4 at sH4 hL h1 h2 h3 ⊢
    have hP : PaAll K H4 [V.ref p1, V.ref p2, V.ref p3] := .cons h1 ⟨by decide, by decide⟩ (by decide) (by decide) (.cons h2 ⟨by decide, by decide⟩ (by decide) (by decide) (.cons h3 ⟨by decide, by decide⟩ (by decide) (by decide) .nil))
    have s04 := ((sH1.trans sH2).trans sH3).trans sH4
    refine ⟨L, rfl, ⟨_, SqL.of hL⟩, for_list (K := K) (a := L) (xs := [V.ref p1, V.ref p2, V.ref p3]) (fun i σ H' => ∃ y1 y2 : Option V, σ = [some (.ref a), y1, y2, none, none, none, none, none, none, none, none] ∧ Same H4 H') ⟨_, _, rfl, Same.refl _⟩ (fun i σ H' _ ⟨_, _, _, s⟩ => SqL.of (s _ _ hL)) ?_ ?_⟩
    · rintro i v σ H5 hi ⟨y1, y2, rfl, s5⟩
      obtain ⟨pa, qa, rfl, hpa, bqa, qa0, qa1⟩ := hP v (List.mem_of_getElem? hi)
      have hpa := seqT s5 hpa
      refine ⟨(by show 2 ≤ sizeLine; decide), fun p4 np4 => ?_⟩
      have sH6 := same_new np4 (.tup [V.int 0, V.int 1])
      have h4 : SqT K (upd H5 p4 (.tup [V.int 0, V.int 1])) p4 (rp 0) := SqT.of upd_same
      have hpa := seqT sH6 hpa
      generalize upd H5 p4 (.tup [V.int 0, V.int 1]) = H6 at sH6 h4 hpa ⊢
      refine ⟨(by show 2 ≤ sizeLine; decide), fun p5 np5 => ?_⟩
      have sH7 := same_new np5 (.tup [V.int 1, V.int 3])
      have h5 : SqT K (upd H6 p5 (.tup [V.int 1, V.int 3])) p5 (rp q13) := SqT.of upd_same
      have hpa := seqT sH7 hpa
      have h4 := seqT sH7 h4
      generalize upd H6 p5 (.tup [V.int 1, V.int 3]) = H7 at sH7 h5 hpa h4 ⊢
      refine ⟨(by show 2 ≤ sizeLine; decide), fun p6 np6 => ?_⟩
      have sH8 := same_new np6 (.tup [V.int 1, V.int 2])
      have h6 : SqT K (upd H7 p6 (.tup [V.int 1, V.int 2])) p6 (rp q12) := SqT.of upd_same
      have hpa := seqT sH8 hpa
      have h4 := seqT sH8 h4
      have h5 := seqT sH8 h5
      generalize upd H7 p6 (.tup [V.int 1, V.int 2]) = H8 at sH8 h6 hpa h4 h5 ⊢
      refine ⟨(by show 2 ≤ sizeLine; decide), fun p7 np7 => ?_⟩
      have sH9 := same_new np7 (.tup [V.int 1, V.int 1])
      have h7 : SqT K (upd H8 p7 (.tup [V.int 1, V.int 1])) p7 (rp 1) := SqT.of upd_same
      have hpa := seqT sH9 hpa
      have h4 := seqT sH9 h4
      have h5 := seqT sH9 h5
      have h6 := seqT sH9 h6
      generalize upd H8 p7 (.tup [V.int 1, V.int 1]) = H9 at sH9 h7 hpa h4 h5 h6 ⊢
      refine ⟨(by show 4 ≤ sizeLine; decide), fun M nM => ?_⟩
      have sHa := same_new nM (.lst [V.ref p4, V.ref p5, V.ref p6, V.ref p7])
      have hM : (upd H9 M (.lst [V.ref p4, V.ref p5, V.ref p6, V.ref p7])) M = some (.lst [V.ref p4, V.ref p5, V.ref p6, V.ref p7]) := upd_same
      have hpa := seqT sHa hpa
      have h4 := seqT sHa h4
      have h5 := seqT sHa h5
      have h6 := seqT sHa h6
      have h7 := seqT sHa h7
      generalize upd H9 M (.lst [V.ref p4, V.ref p5, V.ref p6, V.ref p7]) = Ha at sHa hM hpa h4 h5 h6 h7 ⊢
      have hG : PaAll K Ha [V.ref p4, V.ref p5, V.ref p6, V.ref p7] := .cons h4 ⟨by decide, by decide⟩ (by decide) (by decide) (.cons h5 ⟨by decide, by decide⟩ (by decide) (by decide) (.cons h6 ⟨by decide, by decide⟩ (by decide) (by decide) (.cons h7 ⟨by decide, by decide⟩ (by decide) (by decide) .nil)))
      have s4a := ((((s5.trans sH6).trans sH7).trans sH8).trans sH9).trans sHa
      refine ⟨M, rfl, ⟨_, SqL.of hM⟩, for_list (K := K) (a := M) (xs := [V.ref p4, V.ref p5, V.ref p6, V.ref p7]) (fun j σ H' => ∃ y2 : Option V, σ = [some (.ref a), some (.ref pa), y2, none, none, none, none, none, none, none, none] ∧ Same Ha H') ⟨_, rfl, Same.refl _⟩ (fun j σ H' _ ⟨_, _, s⟩ => SqL.of (s _ _ hM)) ?_ ?_⟩
      · rintro j w σ Hb hj ⟨y2, rfl, sb⟩
        obtain ⟨ps, qs, rfl, hps, bqs, qs0, qs1⟩ := hG w (List.mem_of_getElem? hj)
        have hps := seqT sb hps
        have hpa := seqT sb hpa
        refine ⟨_, rfl, ?_⟩
        refine ⟨(by show 2 ≤ sizeLine; decide), fun p8 np8 => ?_⟩
        have sHc := same_new np8 (.tup [V.int 5, V.int 7])
        have h8 : SqT K (upd Hb p8 (.tup [V.int 5, V.int 7])) p8 (rp q57) := SqT.of upd_same
        have hps := seqT sHc hps
        have hpa := seqT sHc hpa
        generalize upd Hb p8 (.tup [V.int 5, V.int 7]) = Hc at sHc h8 hps hpa ⊢
        refine ⟨(by show 3 ≤ sizeLine; decide), fun tp ntp => ?_⟩
        have sHd := same_new ntp (.tup [V.ref ps, V.ref p8, V.non])
        have ht : SqT K (upd Hc tp (.tup [V.ref ps, V.ref p8, V.non])) tp [V.ref ps, V.ref p8, V.non] := SqT.of upd_same
        have hps := seqT sHd hps
        have hpa := seqT sHd hpa
        have h8 := seqT sHd h8
        generalize upd Hc tp (.tup [V.ref ps, V.ref p8, V.non]) = Hd at sHd ht hps hpa h8 ⊢
        refine ⟨(by show 1 ≤ sizeLine; decide), fun lb nlb => ?_⟩
        have sHe := same_new nlb (.lst [V.ref tp])
        have hlb : (upd Hd lb (.lst [V.ref tp])) lb = some (.lst [V.ref tp]) := upd_same
        have hps := seqT sHe hps
        have hpa := seqT sHe hpa
        have h8 := seqT sHe h8
        have ht := seqT sHe ht
        generalize upd Hd lb (.lst [V.ref tp]) = He at sHe hlb hps hpa h8 ht ⊢
        have sbe := (sHc.trans sHd).trans sHe
        have hB : BendsAt K He [V.ref tp] [(qs, q57)] := BendsAt.snoc (cs := []) (bs := []) ⟨rfl, fun i v e => by simp at e⟩ ht hps h8 bqs ⟨by decide, by decide⟩
        refine ⟨_, rfl, fun _ => False, lb, _, _, .ref pa, dR qa, rfl, hlb, hB, (by show 1 ≤ 1; decide), (by show 1 ≤ 40; decide), dz_dR hpa, (fun c => absurd c (not_no qa0 qa1)), fun _ q' e => ?_⟩
        obtain rfl : qa = q' := Option.some.inj ((ratD_dR qa).symm.trans e)
        refine ⟨bqa, fun z => absurd z (by show ¬ 2 ≤ 1; decide), fun r1 Hf sf hr1 => ?_⟩
        refine ⟨(by show 2 ≤ sizeLine; decide), fun z1 nz1 => ?_⟩
        have sg := same_new nz1 (.tup [V.int 5, V.int 7])
        have dz1 : SqT K (upd Hf z1 (.tup [V.int 5, V.int 7])) z1 (rp q57) := SqT.of upd_same
        refine ⟨dR q57, dR q57, dp_r (seqT sg hr1), dp_r dz1, dR_shaped _, dR_shaped _, _, rfl, ?_⟩
        rw [eqv_dR, decide_eq_true rfl]
        refine iteF ?_
        exact ⟨_, rfl, (sb.trans sbe).trans (sf.trans sg)⟩
      · rintro σ Hb ⟨y2, rfl, sb⟩
        exact ⟨_, _, rfl, s4a.trans sb⟩
    · rintro σ H5 ⟨y1, y2, rfl, s5⟩
      have hS := (s04.trans s5).seq hS
      clear hP hL h1 h2 h3
      refine ⟨.ref a, rfl, 16, rfl, a, ns.map V.int, rfl, hS, fun p8 n8 => ?_⟩
      have z8 := same_new n8 (.lst (cutV (ns.map V.int) none (some 16)))
      refine ⟨(by show 1 ≤ sizeLine; decide), fun p9 n9 => ?_⟩
      have z9 := same_new n9 (.lst [V.int 4])
      refine ⟨p8, p9, _, _, rfl, rfl, z9 _ _ upd_same, upd_same, ?_, fun L nL => ?_⟩
      · have h1 := cutV_length (ns.map V.int) none (some 16)
        rw [List.length_map] at h1
        rw [List.length_singleton]
        exact Nat.le_of_lt (small1000 (by omega))
      refine ⟨L, rfl, ⟨_, SqL.of upd_same⟩, for_list (K := K) (a := L) (xs := cutV (ns.map V.int) none (some 16) ++ [V.int 4]) (fun i σ H' => ∃ y1 y2 y3 y4 y5 y6 y7 y8 y9 y10 : Option V, σ = [some (.ref a), y1, y2, y3, y4, y5, y6, y7, y8, y9, y10] ∧ H' L = some (.lst (cutV (ns.map V.int) none (some 16) ++ [V.int 4])))
        ⟨_, _, _, _, _, _, _, _, _, _, rfl, upd_same⟩ (fun i σ H' _ ⟨_, _, _, _, _, _, _, _, _, _, _, e⟩ => SqL.of e) ?_ ?_⟩
      rotate_left
      · rintro σ H1 ⟨y1, y2, y3, y4, y5, y6, y7, y8, y9, y10, rfl, _⟩
        exact q _
      clear y1 y2 s5 s04 sH1 sH2 sH3 sH4
      rintro i xx σ H0 hi ⟨y1, y2, y3, y4, y5, y6, y7, y8, y9, y10, rfl, hL⟩
      obtain ⟨c, rfl⟩ := int_of hi
      clear hi
      generalize cutV (ns.map V.int) none (some 16) ++ [V.int 4] = xs at hL ⊢
      refine ⟨_, rfl, c, rfl, fun l n nl => ?_⟩
      have hLl : L ≠ l := ne_of_none hL nl
      have hl1 : (upd H0 l (.lst [.int n])) l = some (.lst [.int n]) := upd_same
      have hL1 : (upd H0 l (.lst [.int n])) L = some (.lst xs) := by rw [upd_ne hLl]; exact hL
      generalize upd H0 l (.lst [.int n]) = H1 at hl1 hL1 ⊢
      clear hL nl
      refine ⟨_, rfl, l, n, rfl, hl1, fun D0 cs bs z2 H2 sb2 hl2 nD hDl hD hB co => ?_⟩
      have hL2 := sb2 _ _ hLl hL1
      have l2 := co.l2
      have l7 := co.l7
      have hcl := hB.1
      refine ⟨_, rfl, D0, cs, rfl, .inl (SqL.of hD), fun Kp nKp => ?_⟩
      have s3 := same_new nKp (.lst cs)
      have hKp : (upd H2 Kp (.lst cs)) Kp = some (.lst cs) := upd_same
      have hD := s3 _ _ hD
      have hL2 := s3 _ _ hL2
      have hl2 := s3 _ _ hl2
      generalize upd H2 Kp (.lst cs) = H3b at s3 hKp hD hL2 hl2 ⊢
      have hB := hB.same s3
      refine ⟨_, rfl, D0, rfl, ⟨_, SqL.of hD⟩, fun R1 nR1 => lc_list (K := K) (a := D0) (xs := cs) (fun i H' => ∃ acc, H' R1 = some (.lst acc) ∧ Same H3b H' ∧ PaAll K H' acc ∧ acc.length = i) ⟨[], upd_same, same_new nR1 _, PaAll.nil, rfl⟩ (fun i H' _ ⟨_, _, s, _⟩ => SqL.of (s _ _ hD)) ?_ ?_⟩
      · rintro i v H4b hi ⟨acc, hacc, s4, hPa, hla⟩
        have hic : i < bs.length := by rw [← hcl]; exact (List.getElem?_eq_some_iff.mp hi).1
        obtain ⟨t, a1, b1, e1, e2, e3, e4, b5, b6⟩ := hB.get hic
        rw [e1] at hi
        cases hi
        refine ⟨rfl, tYes_of ?_⟩
        have rg := co.rng (List.getElem?_eq_getElem hic)
        refine ⟨_, rfl, t, _, 0, .ref a1, rfl, rfl, seqT s4 e2, atI_nat (j := 0) rfl, acc, hacc, small1000 (by omega), acc ++ [.ref a1], upd_same, fun b u e => ?_, ?_, by rw [List.length_append, hla]; rfl⟩
        · rw [upd_ne (ne_of_none e nR1)]
          exact s4 _ _ e
        · exact (hPa.app (.cons (seqT s4 e3) b5 rg.1 rg.2 .nil)).keep (keep_lst hacc)
      rintro H4b ⟨acc1, hacc1, s4, hPa1, hla1⟩
      have hD4 := s4 _ _ hD
      have hKp4 := s4 _ _ hKp
      have hL4 := s4 _ _ hL2
      have hl4 := s4 _ _ hl2
      have hB4 := hB.same s4
      have hRl : R1 ≠ l := (ne_of_none hl2 nR1).symm
      refine ⟨3, rfl, by decide, by decide, fun R2 nR2 => lc_range (lo := 0) (n := (3 : Int).toNat) (fun i H' => ∃ acc z', H' R2 = some (.lst acc) ∧ PaAll K H' acc ∧ acc.length = i ∧ SameB l H4b H' ∧ H' l = some (.lst [.int z'])) ⟨[], z2, upd_same, PaAll.nil, rfl, SameB.of (same_new nR2 _), by rw [upd_ne (ne_of_none hl4 nR2)]; exact hl4⟩ ?_ ?_⟩
      · rintro i H5b hi ⟨acc, z5, hacc, hPa, hla, sb5, hl5⟩
        have hR2l : R2 ≠ l := (ne_of_none hl4 nR2).symm
        refine ⟨rfl, tYes_of ?_⟩
        refine ⟨_, rfl, l, z5, 30, rfl, hl5, by decide, by decide, fun dg z6 g0 g1 => ?_⟩
        obtain ⟨dn, edn⟩ : ∃ dn : Nat, dg = (dn : Int) := ⟨dg.toNat, by omega⟩
        subst edn
        have b29 : Bd 8 (Rat.divInt (dn : Int) ((29 : Nat) : Int)) := Fr.bd_low (Nat.lt_of_le_of_lt (show ((dn : Nat) : Int).natAbs ≤ 30 by omega) (by decide)) (by decide) (by decide)
        refine ⟨(dn : Int), 29, 8, rfl, Nat.lt_of_le_of_lt (show ((dn : Nat) : Int).natAbs ≤ 30 by omega) (by decide), by decide, by decide, by decide, fun p np => ?_⟩
        have sp := same_new np (.tup (rp (Rat.divInt (dn : Int) 29)))
        have hp : SqT K (upd (upd H5b l (.lst [.int z6])) p (.tup (rp (Rat.divInt (dn : Int) 29)))) p (rp (Rat.divInt (dn : Int) ((29 : Nat) : Int))) := SqT.of upd_same
        have sbp : SameB l H5b (upd (upd H5b l (.lst [.int z6])) p (.tup (rp (Rat.divInt (dn : Int) 29)))) := SameB.upd.trans (SameB.of sp)
        have hlp := sp _ _ (upd_same (H := H5b) (a := l) (o := .lst [.int z6]))
        generalize upd (upd H5b l (.lst [.int z6])) p (.tup (rp (Rat.divInt (dn : Int) 29))) = H6b at sbp hp hlp ⊢
        have haccp := sbp _ _ hR2l hacc
        refine ⟨acc, haccp, small1000 (by omega), acc ++ [.ref p], z6, upd_same, ?_, by rw [List.length_append, hla]; rfl, fun b u hb e => ?_, ?_⟩
        · exact ((hPa.keep (sbp.tup hl5)).app (.cons hp b29 (Rs.divInt_nn (by omega) (by decide)) (dv_le (by decide) (by omega)) .nil)).keep (keep_lst haccp)
        · rw [upd_ne (ne_of_none e nR2)]
          exact sbp _ _ hb (sb5 _ _ hb e)
        · rw [upd_ne (Ne.symm hR2l)]
          exact hlp
      rintro H5b ⟨acc2, z5, hacc2, hPa2, hla2, sb5, hl5⟩
      have hne : ∀ {b : Addr} {u : HO}, H4b b = some u → b ≠ l → H5b b = some u := fun e ne => sb5 _ _ ne e
      have hacc15 := hne hacc1 hRl
      refine ⟨R1, R2, acc1, acc2, rfl, rfl, hacc15, hacc2, ?_, fun Lp nLp => ?_⟩
      · rw [hla1, hla2]
        exact Nat.le_of_lt (small1000 (by show cs.length + 3 ≤ 1000; omega))
      have hKl : Kp ≠ l := by
        intro e
        rw [e, hl2] at hKp
        cases hKp
        have := hcl
        rcases bs with _ | ⟨x, bs⟩
        · simp at l2
        · rcases bs with _ | ⟨y, bs⟩
          · simp at l2
          · simp at this
      have hD5 := hne hD4 hDl
      have hKp5 := hne hKp4 hKl
      have hL5 := hne hL4 hLl
      have hB5 := hB4.keep (sb5.tup hl4)
      have hPP := (hPa1.keep (sb5.tup hl4)).app hPa2
      have s6 := same_new nLp (.lst (acc1 ++ acc2))
      have hLp : (upd H5b Lp (.lst (acc1 ++ acc2))) Lp = some (.lst (acc1 ++ acc2)) := upd_same
      have hD5 := s6 _ _ hD5
      have hKp5 := s6 _ _ hKp5
      have hL5 := s6 _ _ hL5
      have hl5 := s6 _ _ hl5
      generalize upd H5b Lp (.lst (acc1 ++ acc2)) = H6b at s6 hLp hD5 hKp5 hL5 hl5 ⊢
      have hB6 := hB5.same s6
      have hPP := hPP.same s6
      clear hB hB4 hB5 hPa1 hPa2 hD hD4 hL2 hL4 hl2 hl4 hKp hKp4
      refine ⟨_, rfl, Lp, rfl, ⟨_, SqL.of hLp⟩, for_list (K := K) (a := Lp) (xs := acc1 ++ acc2) (fun i σ H' => ∃ y1 : Option V, σ = [some (.ref a), y1, y2, some (.int c), some (.ref l), some (.ref D0), some (.ref Kp), some (.ref Lp), y8, y9, y10] ∧ Same H6b H') ⟨_, rfl, Same.refl _⟩ (fun i σ H' _ ⟨_, _, s⟩ => SqL.of (s _ _ hLp)) ?_ ?_⟩
      · rintro i v σ H7 hi ⟨y1, rfl, s7⟩
        obtain ⟨p, qq, rfl, hp, bq, q0, q1⟩ := hPP v (List.mem_of_getElem? hi)
        have hp := seqT s7 hp
        have wk : Walk bs qq := ⟨co.up, fun y hy => by rw [co.top y hy]; exact q1⟩
        refine ⟨_, rfl, _, rfl, fun _ => False, D0, cs, bs, .ref p, dR qq, rfl, s7 _ _ hD5, hB6.same s7, by omega, by omega, dz_dR hp, (fun c => absurd c (not_no q0 q1)), fun _ q' e => ?_⟩
        obtain rfl : qq = q' := Option.some.inj ((ratD_dR qq).symm.trans e)
        refine ⟨bq, fun _ => wk, fun r1 H8 s8 hr1 => ?_⟩
        have s78 := s7.trans s8
        refine ⟨_, rfl, _, rfl, D0, p, cs, bs, qq, rfl, s78 _ _ hD5, hB6.same s78, l2, by omega, wk, fun x hx => by rw [co.bot x hx]; exact q0, seqT s8 hp, bq, fun r2 H9 s9 hr2 => ?_⟩
        refine ⟨dR (roofQ bs qq), dR (roofQ bs qq), dp_r (seqT s9 hr1), dp_r hr2, dR_shaped _, dR_shaped _, _, rfl, ?_⟩
        rw [eqv_dR, decide_eq_true rfl]
        exact iteF ⟨_, rfl, s78.trans s9⟩
      rintro σ H7 ⟨y1', rfl, s7⟩
      have hD7 := s7 _ _ hD5
      have hKp7 := s7 _ _ hKp5
      have hL7 := s7 _ _ hL5
      have hl7 := s7 _ _ hl5
      have hB7 := hB6.same s7
      clear hB6 hPP hLp
      refine ⟨1, rfl, ?_⟩
      refine ⟨(by show 2 ≤ sizeLine; decide), fun t1 nt1 => ?_⟩
      have sJ1 := same_new nt1 (.tup [V.int (-1), V.int 9])
      have g1 : SqT K (upd H7 t1 (.tup [V.int (-1), V.int 9])) t1 [V.int (-1), V.int 9] := SqT.of upd_same
      generalize upd H7 t1 (.tup [V.int (-1), V.int 9]) = J1 at sJ1 g1 ⊢
      refine ⟨(by show 2 ≤ sizeLine; decide), fun t2 nt2 => ?_⟩
      have sJ2 := same_new nt2 (.tup [V.int 10, V.int 9])
      have g2 : SqT K (upd J1 t2 (.tup [V.int 10, V.int 9])) t2 [V.int 10, V.int 9] := SqT.of upd_same
      have g1 := seqT sJ2 g1
      generalize upd J1 t2 (.tup [V.int 10, V.int 9]) = J2 at sJ2 g2 g1 ⊢
      refine ⟨(by show 2 ≤ sizeLine; decide), fun t3 nt3 => ?_⟩
      have sJ3 := same_new nt3 (.tup [V.int 2, V.int 4])
      have g3_ : SqT K (upd J2 t3 (.tup [V.int 2, V.int 4])) t3 [V.int 2, V.int 4] := SqT.of upd_same
      have g1 := seqT sJ3 g1
      have g2 := seqT sJ3 g2
      generalize upd J2 t3 (.tup [V.int 2, V.int 4]) = J3 at sJ3 g3_ g1 g2 ⊢
      refine ⟨(by show 2 ≤ sizeLine; decide), fun t4 nt4 => ?_⟩
      have sJ4 := same_new nt4 (.tup [V.int 0, V.int 2])
      have g4 : SqT K (upd J3 t4 (.tup [V.int 0, V.int 2])) t4 [V.int 0, V.int 2] := SqT.of upd_same
      have g1 := seqT sJ4 g1
      have g2 := seqT sJ4 g2
      have g3_ := seqT sJ4 g3_
      generalize upd J3 t4 (.tup [V.int 0, V.int 2]) = J4 at sJ4 g4 g1 g2 g3_ ⊢
      refine ⟨(by show 2 ≤ sizeLine; decide), fun t5 nt5 => ?_⟩
      have sJ5 := same_new nt5 (.lst [V.int 1, V.int 2])
      have g5 : (upd J4 t5 (.lst [V.int 1, V.int 2])) t5 = some (.lst [V.int 1, V.int 2]) := upd_same
      have g1 := seqT sJ5 g1
      have g2 := seqT sJ5 g2
      have g3_ := seqT sJ5 g3_
      have g4 := seqT sJ5 g4
      generalize upd J4 t5 (.lst [V.int 1, V.int 2]) = J5 at sJ5 g5 g1 g2 g3_ g4 ⊢
      refine ⟨(by show 2 ≤ sizeLine; decide), fun t6 nt6 => ?_⟩
      have sJ6 := same_new nt6 (.tup [V.int 1, V.int 0])
      have g6 : SqT K (upd J5 t6 (.tup [V.int 1, V.int 0])) t6 [V.int 1, V.int 0] := SqT.of upd_same
      have g1 := seqT sJ6 g1
      have g2 := seqT sJ6 g2
      have g3_ := seqT sJ6 g3_
      have g4 := seqT sJ6 g4
      have g5 := sJ6 _ _ g5
      generalize upd J5 t6 (.tup [V.int 1, V.int 0]) = J6 at sJ6 g6 g1 g2 g3_ g4 g5 ⊢
      refine ⟨(by show 11 ≤ sizeLine; decide), fun LO nLO => ?_⟩
      have sJ7 := same_new nLO (.lst [V.ref t1, V.ref t2, V.ref t3, V.ref t4, V.int 0, V.int 1, V.bl true, V.non, V.str "1/2", V.ref t5, V.ref t6])
      have hLO : (upd J6 LO (.lst [V.ref t1, V.ref t2, V.ref t3, V.ref t4, V.int 0, V.int 1, V.bl true, V.non, V.str "1/2", V.ref t5, V.ref t6])) LO = some (.lst [V.ref t1, V.ref t2, V.ref t3, V.ref t4, V.int 0, V.int 1, V.bl true, V.non, V.str "1/2", V.ref t5, V.ref t6]) := upd_same
      have g1 := seqT sJ7 g1
      have g2 := seqT sJ7 g2
      have g3_ := seqT sJ7 g3_
      have g4 := seqT sJ7 g4
      have g5 := sJ7 _ _ g5
      have g6 := seqT sJ7 g6
      generalize upd J6 LO (.lst [V.ref t1, V.ref t2, V.ref t3, V.ref t4, V.int 0, V.int 1, V.bl true, V.non, V.str "1/2", V.ref t5, V.ref t6]) = J7 at sJ7 hLO g1 g2 g3_ g4 g5 g6 ⊢
      have sJ := (((((sJ1.trans sJ2).trans sJ3).trans sJ4).trans sJ5).trans sJ6).trans sJ7
      have hlJ := sJ _ _ hl7
      have hne : ∀ {b : Addr} {ys : List V}, J7 b = some (.lst ys) → ys.length ≠ 1 → b ≠ l := fun {b ys} hb hy e => by
        rw [e, hlJ] at hb
        cases hb
        exact hy rfl
      have hLOl := hne hLO (by show (11 : Nat) ≠ 1; decide)
      have ht5l := hne g5 (by show (2 : Nat) ≠ 1; decide)
      refine ⟨_, rfl, l, _, 11, rfl, hlJ, by decide, by decide, fun dg z9 g0 g1' => ?_⟩
      have kb : SameB l J7 (upd J7 l (.lst [.int z9])) := SameB.upd
      have hl9 : (upd J7 l (.lst [.int z9])) l = some (.lst [.int z9]) := upd_same
      have hB9 := (hB7.same sJ).keep (kb.tup hlJ)
      have hD9 := kb _ _ hDl (sJ _ _ hD7)
      have hKp9 := kb _ _ hKl (sJ _ _ hKp7)
      have hL9 := kb _ _ hLl (sJ _ _ hL7)
      have hLO9 := kb _ _ hLOl hLO
      have g1 := kb.tup hlJ _ _ g1
      have g2 := kb.tup hlJ _ _ g2
      have g3_ := kb.tup hlJ _ _ g3_
      have g4 := kb.tup hlJ _ _ g4
      have g5 := kb _ _ ht5l g5
      have g6 := kb.tup hlJ _ _ g6
      generalize upd J7 l (.lst [.int z9]) = J8 at kb hl9 hB9 hD9 hKp9 hL9 hLO9 g1 g2 g3_ g4 g5 g6 ⊢
      obtain ⟨v, dt, ev, od⟩ := odd_at g1 g2 g3_ g4 g5 g6 g0 g1'
      refine ⟨LO, _, dg, v, rfl, rfl, SqL.of hLO9, ev, ?_⟩
      refine ⟨_, rfl, _, rfl, D0, cs, bs, v, dt, rfl, hD9, hB9, by omega, by omega, od, fun He se => ⟨_, rfl, iteF ?_⟩⟩
      refine ⟨_, rfl, _, rfl, dB bs, dB bs, .lst (SqL.of (se _ _ hD9)) (hB9.same se).dp, .lst (SqL.of (se _ _ hKp9)) (hB9.same se).dp, dB_shaped _, dB_shaped _, _, rfl, ?_⟩
      rw [SeqAt.eqv_refl (dB bs) (dB_lays bs)]
      refine iteF ?_
      exact ⟨_, _, _, _, _, _, _, _, _, _, rfl, se _ _ hL9⟩
end
end K43

set_option Elab.async false
set_option linter.all false
set_option maxRecDepth 100000
set_option maxHeartbeats 8000000
namespace K43
open PySem PySem.Spec PyProof.Rows L2 BX EXB Co Ru
open Dz Cs Hr
theorem all_mk {l : PySem.W.OpenLaw} {w : World} {K : PySem.W.Frag} {h : Heap} {mg : Str → Option Value} {fa f_d_is_whole f_d_is_ratio f_d_plus f_d_minus f_d_times f_d_over f_d_under f_d_lowest f_d_divisor f_d_roof_at f_d_is_part f_d_level f_d_law_left f_d_law_digit f_d_law_low f_d_law_plus f_d_law_less f_d_law_times f_d_law_under f_d_law_gain f_d_law_corners f_d_law_due f_d_law_refused f_d_law C_U f_i_U : Addr} (X : K.In h) (G : h.Ns mainGlobals mg) (hfa : mg "law" = some (.ref fa)) {nm_U q_U : Str} {N_U : Addr} {bs_U : List Value} {sn_U : List Str} {su_U : List Value} {ab_U : Bool} {co_U : Option Bool} {dd_U : Option Addr} {m0_U m1_U m2_U m3_U m5_U : Option Value}
    {od_d_is_whole an_d_is_whole : Option Addr} {sl_d_is_whole : Array (Option Value)} {oc_d_is_whole kV_d_is_whole dc_d_is_whole pm_d_is_whole cd_d_is_whole ct_d_is_whole : Value}
    {od_d_is_ratio an_d_is_ratio : Option Addr} {sl_d_is_ratio : Array (Option Value)} {oc_d_is_ratio kV_d_is_ratio dc_d_is_ratio pm_d_is_ratio cd_d_is_ratio ct_d_is_ratio : Value}
    {od_d_plus an_d_plus : Option Addr} {sl_d_plus : Array (Option Value)} {oc_d_plus kV_d_plus dc_d_plus pm_d_plus cd_d_plus ct_d_plus : Value}
    {od_d_minus an_d_minus : Option Addr} {sl_d_minus : Array (Option Value)} {oc_d_minus kV_d_minus dc_d_minus pm_d_minus cd_d_minus ct_d_minus : Value}
    {od_d_times an_d_times : Option Addr} {sl_d_times : Array (Option Value)} {oc_d_times kV_d_times dc_d_times pm_d_times cd_d_times ct_d_times : Value}
    {od_d_over an_d_over : Option Addr} {sl_d_over : Array (Option Value)} {oc_d_over kV_d_over dc_d_over pm_d_over cd_d_over ct_d_over : Value}
    {od_d_under an_d_under : Option Addr} {sl_d_under : Array (Option Value)} {oc_d_under kV_d_under dc_d_under pm_d_under cd_d_under ct_d_under : Value}
    {od_d_lowest an_d_lowest : Option Addr} {sl_d_lowest : Array (Option Value)} {oc_d_lowest kV_d_lowest dc_d_lowest pm_d_lowest cd_d_lowest ct_d_lowest : Value}
    {od_d_divisor an_d_divisor : Option Addr} {sl_d_divisor : Array (Option Value)} {oc_d_divisor kV_d_divisor dc_d_divisor pm_d_divisor cd_d_divisor ct_d_divisor : Value}
    {od_d_roof_at an_d_roof_at : Option Addr} {sl_d_roof_at : Array (Option Value)} {oc_d_roof_at kV_d_roof_at dc_d_roof_at pm_d_roof_at cd_d_roof_at ct_d_roof_at : Value}
    {od_d_is_part an_d_is_part : Option Addr} {sl_d_is_part : Array (Option Value)} {oc_d_is_part kV_d_is_part dc_d_is_part pm_d_is_part cd_d_is_part ct_d_is_part : Value}
    {od_d_level an_d_level : Option Addr} {sl_d_level : Array (Option Value)} {oc_d_level kV_d_level dc_d_level pm_d_level cd_d_level ct_d_level : Value}
    {od_d_law_left an_d_law_left : Option Addr} {sl_d_law_left : Array (Option Value)} {oc_d_law_left kV_d_law_left dc_d_law_left pm_d_law_left cd_d_law_left ct_d_law_left : Value}
    {od_d_law_digit an_d_law_digit : Option Addr} {sl_d_law_digit : Array (Option Value)} {oc_d_law_digit kV_d_law_digit dc_d_law_digit pm_d_law_digit cd_d_law_digit ct_d_law_digit : Value}
    {od_d_law_low an_d_law_low : Option Addr} {sl_d_law_low : Array (Option Value)} {oc_d_law_low kV_d_law_low dc_d_law_low pm_d_law_low cd_d_law_low ct_d_law_low : Value}
    {od_d_law_plus an_d_law_plus : Option Addr} {sl_d_law_plus : Array (Option Value)} {oc_d_law_plus kV_d_law_plus dc_d_law_plus pm_d_law_plus cd_d_law_plus ct_d_law_plus : Value}
    {od_d_law_less an_d_law_less : Option Addr} {sl_d_law_less : Array (Option Value)} {oc_d_law_less kV_d_law_less dc_d_law_less pm_d_law_less cd_d_law_less ct_d_law_less : Value}
    {od_d_law_times an_d_law_times : Option Addr} {sl_d_law_times : Array (Option Value)} {oc_d_law_times kV_d_law_times dc_d_law_times pm_d_law_times cd_d_law_times ct_d_law_times : Value}
    {od_d_law_under an_d_law_under : Option Addr} {sl_d_law_under : Array (Option Value)} {oc_d_law_under kV_d_law_under dc_d_law_under pm_d_law_under cd_d_law_under ct_d_law_under : Value}
    {od_d_law_gain an_d_law_gain : Option Addr} {sl_d_law_gain : Array (Option Value)} {oc_d_law_gain kV_d_law_gain dc_d_law_gain pm_d_law_gain cd_d_law_gain ct_d_law_gain : Value}
    {od_d_law_corners an_d_law_corners : Option Addr} {sl_d_law_corners : Array (Option Value)} {oc_d_law_corners kV_d_law_corners dc_d_law_corners pm_d_law_corners cd_d_law_corners ct_d_law_corners : Value}
    {od_d_law_due an_d_law_due : Option Addr} {sl_d_law_due : Array (Option Value)} {oc_d_law_due kV_d_law_due dc_d_law_due pm_d_law_due cd_d_law_due ct_d_law_due : Value}
    {od_d_law_refused an_d_law_refused : Option Addr} {sl_d_law_refused : Array (Option Value)} {oc_d_law_refused kV_d_law_refused dc_d_law_refused pm_d_law_refused cd_d_law_refused ct_d_law_refused : Value}
    {od_d_law an_d_law : Option Addr} {sl_d_law : Array (Option Value)} {oc_d_law kV_d_law dc_d_law pm_d_law cd_d_law ct_d_law : Value}
    {od_i_U an_i_U : Option Addr} {sl_i_U : Array (Option Value)} {oc_i_U kV_i_U dc_i_U pm_i_U cd_i_U ct_i_U : Value}
    (a_d_is_whole : PySem.W.nsIn K mainGlobals "is_whole" = some (some (.ref f_d_is_whole)))
    (l_d_is_whole : K.lookup f_d_is_whole = some ⟨oc_d_is_whole, od_d_is_whole, .func (PySem.W.fnOf "is_whole" "is_whole" (defArgs sWhole) (defBody sWhole) (defScope sWhole) .none kV_d_is_whole dc_d_is_whole pm_d_is_whole an_d_is_whole cd_d_is_whole ct_d_is_whole), sl_d_is_whole⟩)
    (c_d_is_whole : PySem.W.codeIn K cd_d_is_whole "is_whole" = true)
    (k_d_is_whole : PySem.W.keepIn K (.ref f_d_is_whole) = true)
    (a_d_is_ratio : PySem.W.nsIn K mainGlobals "is_ratio" = some (some (.ref f_d_is_ratio)))
    (l_d_is_ratio : K.lookup f_d_is_ratio = some ⟨oc_d_is_ratio, od_d_is_ratio, .func (PySem.W.fnOf "is_ratio" "is_ratio" (defArgs sIsR) (defBody sIsR) (defScope sIsR) .none kV_d_is_ratio dc_d_is_ratio pm_d_is_ratio an_d_is_ratio cd_d_is_ratio ct_d_is_ratio), sl_d_is_ratio⟩)
    (c_d_is_ratio : PySem.W.codeIn K cd_d_is_ratio "is_ratio" = true)
    (k_d_is_ratio : PySem.W.keepIn K (.ref f_d_is_ratio) = true)
    (a_d_plus : PySem.W.nsIn K mainGlobals "plus" = some (some (.ref f_d_plus)))
    (l_d_plus : K.lookup f_d_plus = some ⟨oc_d_plus, od_d_plus, .func (PySem.W.fnOf "plus" "plus" (defArgs sPlus) (defBody sPlus) (defScope sPlus) .none kV_d_plus dc_d_plus pm_d_plus an_d_plus cd_d_plus ct_d_plus), sl_d_plus⟩)
    (c_d_plus : PySem.W.codeIn K cd_d_plus "plus" = true)
    (k_d_plus : PySem.W.keepIn K (.ref f_d_plus) = true)
    (a_d_minus : PySem.W.nsIn K mainGlobals "minus" = some (some (.ref f_d_minus)))
    (l_d_minus : K.lookup f_d_minus = some ⟨oc_d_minus, od_d_minus, .func (PySem.W.fnOf "minus" "minus" (defArgs sMinus) (defBody sMinus) (defScope sMinus) .none kV_d_minus dc_d_minus pm_d_minus an_d_minus cd_d_minus ct_d_minus), sl_d_minus⟩)
    (c_d_minus : PySem.W.codeIn K cd_d_minus "minus" = true)
    (k_d_minus : PySem.W.keepIn K (.ref f_d_minus) = true)
    (a_d_times : PySem.W.nsIn K mainGlobals "times" = some (some (.ref f_d_times)))
    (l_d_times : K.lookup f_d_times = some ⟨oc_d_times, od_d_times, .func (PySem.W.fnOf "times" "times" (defArgs sTimes) (defBody sTimes) (defScope sTimes) .none kV_d_times dc_d_times pm_d_times an_d_times cd_d_times ct_d_times), sl_d_times⟩)
    (c_d_times : PySem.W.codeIn K cd_d_times "times" = true)
    (k_d_times : PySem.W.keepIn K (.ref f_d_times) = true)
    (a_d_over : PySem.W.nsIn K mainGlobals "over" = some (some (.ref f_d_over)))
    (l_d_over : K.lookup f_d_over = some ⟨oc_d_over, od_d_over, .func (PySem.W.fnOf "over" "over" (defArgs sOver) (defBody sOver) (defScope sOver) .none kV_d_over dc_d_over pm_d_over an_d_over cd_d_over ct_d_over), sl_d_over⟩)
    (c_d_over : PySem.W.codeIn K cd_d_over "over" = true)
    (k_d_over : PySem.W.keepIn K (.ref f_d_over) = true)
    (a_d_under : PySem.W.nsIn K mainGlobals "under" = some (some (.ref f_d_under)))
    (l_d_under : K.lookup f_d_under = some ⟨oc_d_under, od_d_under, .func (PySem.W.fnOf "under" "under" (defArgs sUnder) (defBody sUnder) (defScope sUnder) .none kV_d_under dc_d_under pm_d_under an_d_under cd_d_under ct_d_under), sl_d_under⟩)
    (c_d_under : PySem.W.codeIn K cd_d_under "under" = true)
    (k_d_under : PySem.W.keepIn K (.ref f_d_under) = true)
    (a_d_lowest : PySem.W.nsIn K mainGlobals "lowest" = some (some (.ref f_d_lowest)))
    (l_d_lowest : K.lookup f_d_lowest = some ⟨oc_d_lowest, od_d_lowest, .func (PySem.W.fnOf "lowest" "lowest" (defArgs sLowest) (defBody sLowest) (defScope sLowest) .none kV_d_lowest dc_d_lowest pm_d_lowest an_d_lowest cd_d_lowest ct_d_lowest), sl_d_lowest⟩)
    (c_d_lowest : PySem.W.codeIn K cd_d_lowest "lowest" = true)
    (k_d_lowest : PySem.W.keepIn K (.ref f_d_lowest) = true)
    (a_d_divisor : PySem.W.nsIn K mainGlobals "divisor" = some (some (.ref f_d_divisor)))
    (l_d_divisor : K.lookup f_d_divisor = some ⟨oc_d_divisor, od_d_divisor, .func (PySem.W.fnOf "divisor" "divisor" (defArgs sDiv) (defBody sDiv) (defScope sDiv) .none kV_d_divisor dc_d_divisor pm_d_divisor an_d_divisor cd_d_divisor ct_d_divisor), sl_d_divisor⟩)
    (c_d_divisor : PySem.W.codeIn K cd_d_divisor "divisor" = true)
    (k_d_divisor : PySem.W.keepIn K (.ref f_d_divisor) = true)
    (a_d_roof_at : PySem.W.nsIn K mainGlobals "roof_at" = some (some (.ref f_d_roof_at)))
    (l_d_roof_at : K.lookup f_d_roof_at = some ⟨oc_d_roof_at, od_d_roof_at, .func (PySem.W.fnOf "roof_at" "roof_at" (defArgs sRoofAt) (defBody sRoofAt) (defScope sRoofAt) .none kV_d_roof_at dc_d_roof_at pm_d_roof_at an_d_roof_at cd_d_roof_at ct_d_roof_at), sl_d_roof_at⟩)
    (c_d_roof_at : PySem.W.codeIn K cd_d_roof_at "roof_at" = true)
    (k_d_roof_at : PySem.W.keepIn K (.ref f_d_roof_at) = true)
    (a_d_is_part : PySem.W.nsIn K mainGlobals "is_part" = some (some (.ref f_d_is_part)))
    (l_d_is_part : K.lookup f_d_is_part = some ⟨oc_d_is_part, od_d_is_part, .func (PySem.W.fnOf "is_part" "is_part" (defArgs sIsPart) (defBody sIsPart) (defScope sIsPart) .none kV_d_is_part dc_d_is_part pm_d_is_part an_d_is_part cd_d_is_part ct_d_is_part), sl_d_is_part⟩)
    (c_d_is_part : PySem.W.codeIn K cd_d_is_part "is_part" = true)
    (k_d_is_part : PySem.W.keepIn K (.ref f_d_is_part) = true)
    (a_d_level : PySem.W.nsIn K mainGlobals "level" = some (some (.ref f_d_level)))
    (l_d_level : K.lookup f_d_level = some ⟨oc_d_level, od_d_level, .func (PySem.W.fnOf "level" "level" (defArgs sLevel) (defBody sLevel) (defScope sLevel) .none kV_d_level dc_d_level pm_d_level an_d_level cd_d_level ct_d_level), sl_d_level⟩)
    (c_d_level : PySem.W.codeIn K cd_d_level "level" = true)
    (k_d_level : PySem.W.keepIn K (.ref f_d_level) = true)
    (a_d_law_left : PySem.W.nsIn K mainGlobals "_law_left" = some (some (.ref f_d_law_left)))
    (l_d_law_left : K.lookup f_d_law_left = some ⟨oc_d_law_left, od_d_law_left, .func (PySem.W.fnOf "_law_left" "_law_left" (defArgs sLeft) (defBody sLeft) (defScope sLeft) .none kV_d_law_left dc_d_law_left pm_d_law_left an_d_law_left cd_d_law_left ct_d_law_left), sl_d_law_left⟩)
    (c_d_law_left : PySem.W.codeIn K cd_d_law_left "_law_left" = true)
    (k_d_law_left : PySem.W.keepIn K (.ref f_d_law_left) = true)
    (a_d_law_digit : PySem.W.nsIn K mainGlobals "_law_digit" = some (some (.ref f_d_law_digit)))
    (l_d_law_digit : K.lookup f_d_law_digit = some ⟨oc_d_law_digit, od_d_law_digit, .func (PySem.W.fnOf "_law_digit" "_law_digit" (defArgs sDigit) (defBody sDigit) (defScope sDigit) .none kV_d_law_digit dc_d_law_digit pm_d_law_digit an_d_law_digit cd_d_law_digit ct_d_law_digit), sl_d_law_digit⟩)
    (c_d_law_digit : PySem.W.codeIn K cd_d_law_digit "_law_digit" = true)
    (k_d_law_digit : PySem.W.keepIn K (.ref f_d_law_digit) = true)
    (a_d_law_low : PySem.W.nsIn K mainGlobals "_law_low" = some (some (.ref f_d_law_low)))
    (l_d_law_low : K.lookup f_d_law_low = some ⟨oc_d_law_low, od_d_law_low, .func (PySem.W.fnOf "_law_low" "_law_low" (defArgs sLow) (defBody sLow) (defScope sLow) .none kV_d_law_low dc_d_law_low pm_d_law_low an_d_law_low cd_d_law_low ct_d_law_low), sl_d_law_low⟩)
    (c_d_law_low : PySem.W.codeIn K cd_d_law_low "_law_low" = true)
    (k_d_law_low : PySem.W.keepIn K (.ref f_d_law_low) = true)
    (a_d_law_plus : PySem.W.nsIn K mainGlobals "_law_plus" = some (some (.ref f_d_law_plus)))
    (l_d_law_plus : K.lookup f_d_law_plus = some ⟨oc_d_law_plus, od_d_law_plus, .func (PySem.W.fnOf "_law_plus" "_law_plus" (defArgs sLPlus) (defBody sLPlus) (defScope sLPlus) .none kV_d_law_plus dc_d_law_plus pm_d_law_plus an_d_law_plus cd_d_law_plus ct_d_law_plus), sl_d_law_plus⟩)
    (c_d_law_plus : PySem.W.codeIn K cd_d_law_plus "_law_plus" = true)
    (k_d_law_plus : PySem.W.keepIn K (.ref f_d_law_plus) = true)
    (a_d_law_less : PySem.W.nsIn K mainGlobals "_law_less" = some (some (.ref f_d_law_less)))
    (l_d_law_less : K.lookup f_d_law_less = some ⟨oc_d_law_less, od_d_law_less, .func (PySem.W.fnOf "_law_less" "_law_less" (defArgs sLLess) (defBody sLLess) (defScope sLLess) .none kV_d_law_less dc_d_law_less pm_d_law_less an_d_law_less cd_d_law_less ct_d_law_less), sl_d_law_less⟩)
    (c_d_law_less : PySem.W.codeIn K cd_d_law_less "_law_less" = true)
    (k_d_law_less : PySem.W.keepIn K (.ref f_d_law_less) = true)
    (a_d_law_times : PySem.W.nsIn K mainGlobals "_law_times" = some (some (.ref f_d_law_times)))
    (l_d_law_times : K.lookup f_d_law_times = some ⟨oc_d_law_times, od_d_law_times, .func (PySem.W.fnOf "_law_times" "_law_times" (defArgs sLTimes) (defBody sLTimes) (defScope sLTimes) .none kV_d_law_times dc_d_law_times pm_d_law_times an_d_law_times cd_d_law_times ct_d_law_times), sl_d_law_times⟩)
    (c_d_law_times : PySem.W.codeIn K cd_d_law_times "_law_times" = true)
    (k_d_law_times : PySem.W.keepIn K (.ref f_d_law_times) = true)
    (a_d_law_under : PySem.W.nsIn K mainGlobals "_law_under" = some (some (.ref f_d_law_under)))
    (l_d_law_under : K.lookup f_d_law_under = some ⟨oc_d_law_under, od_d_law_under, .func (PySem.W.fnOf "_law_under" "_law_under" (defArgs sLUnder) (defBody sLUnder) (defScope sLUnder) .none kV_d_law_under dc_d_law_under pm_d_law_under an_d_law_under cd_d_law_under ct_d_law_under), sl_d_law_under⟩)
    (c_d_law_under : PySem.W.codeIn K cd_d_law_under "_law_under" = true)
    (k_d_law_under : PySem.W.keepIn K (.ref f_d_law_under) = true)
    (a_d_law_gain : PySem.W.nsIn K mainGlobals "_law_gain" = some (some (.ref f_d_law_gain)))
    (l_d_law_gain : K.lookup f_d_law_gain = some ⟨oc_d_law_gain, od_d_law_gain, .func (PySem.W.fnOf "_law_gain" "_law_gain" (defArgs sGain) (defBody sGain) (defScope sGain) .none kV_d_law_gain dc_d_law_gain pm_d_law_gain an_d_law_gain cd_d_law_gain ct_d_law_gain), sl_d_law_gain⟩)
    (c_d_law_gain : PySem.W.codeIn K cd_d_law_gain "_law_gain" = true)
    (k_d_law_gain : PySem.W.keepIn K (.ref f_d_law_gain) = true)
    (a_d_law_corners : PySem.W.nsIn K mainGlobals "_law_corners" = some (some (.ref f_d_law_corners)))
    (l_d_law_corners : K.lookup f_d_law_corners = some ⟨oc_d_law_corners, od_d_law_corners, .func (PySem.W.fnOf "_law_corners" "_law_corners" (defArgs sCorners) (defBody sCorners) (defScope sCorners) .none kV_d_law_corners dc_d_law_corners pm_d_law_corners an_d_law_corners cd_d_law_corners ct_d_law_corners), sl_d_law_corners⟩)
    (c_d_law_corners : PySem.W.codeIn K cd_d_law_corners "_law_corners" = true)
    (k_d_law_corners : PySem.W.keepIn K (.ref f_d_law_corners) = true)
    (a_d_law_due : PySem.W.nsIn K mainGlobals "_law_due" = some (some (.ref f_d_law_due)))
    (l_d_law_due : K.lookup f_d_law_due = some ⟨oc_d_law_due, od_d_law_due, .func (PySem.W.fnOf "_law_due" "_law_due" (defArgs sDue43) (defBody sDue43) (defScope sDue43) .none kV_d_law_due dc_d_law_due pm_d_law_due an_d_law_due cd_d_law_due ct_d_law_due), sl_d_law_due⟩)
    (c_d_law_due : PySem.W.codeIn K cd_d_law_due "_law_due" = true)
    (k_d_law_due : PySem.W.keepIn K (.ref f_d_law_due) = true)
    (a_d_law_refused : PySem.W.nsIn K mainGlobals "_law_refused" = some (some (.ref f_d_law_refused)))
    (l_d_law_refused : K.lookup f_d_law_refused = some ⟨oc_d_law_refused, od_d_law_refused, .func (PySem.W.fnOf "_law_refused" "_law_refused" (defArgs sRef43) (defBody sRef43) (defScope sRef43) .none kV_d_law_refused dc_d_law_refused pm_d_law_refused an_d_law_refused cd_d_law_refused ct_d_law_refused), sl_d_law_refused⟩)
    (c_d_law_refused : PySem.W.codeIn K cd_d_law_refused "_law_refused" = true)
    (k_d_law_refused : PySem.W.keepIn K (.ref f_d_law_refused) = true)
    (a_d_law : PySem.W.nsIn K mainGlobals "law" = some (some (.ref f_d_law)))
    (l_d_law : K.lookup f_d_law = some ⟨oc_d_law, od_d_law, .func (PySem.W.fnOf "law" "law" (defArgs sLaw) (defBody sLaw) (defScope sLaw) .none kV_d_law dc_d_law pm_d_law an_d_law cd_d_law ct_d_law), sl_d_law⟩)
    (c_d_law : PySem.W.codeIn K cd_d_law "law" = true)
    (k_d_law : PySem.W.keepIn K (.ref f_d_law) = true)
    (aC_U : PySem.W.nsIn K mainGlobals "NoPart" = some (some (.ref C_U)))
    (xC_U : K.lookup C_U = some (excClassObj nm_U q_U C_U N_U bs_U [.type "LookupError", .type "Exception", .type "BaseException", .type "object"] true sn_U su_U ab_U co_U dd_U m0_U m1_U m2_U m3_U m5_U "LookupError.__new__"))
    (sa_U : PySem.W.findIn K (.ref C_U) "__setattr__" = some (some (.builtin "object.__setattr__")))
    (ga_U : PySem.W.findIn K (.ref C_U) "__getattribute__" = some (some (.builtin "BaseException.__getattribute__")))
    (gg_U : PySem.W.findIn K (.ref C_U) "__getattr__" = some none)
    (cl_U : PySem.W.findIn K (.ref C_U) "__class__" = some (some (.builtin "object.__class__")))
    (mo_U : PySem.W.mroIn K C_U (.type "object") = some true)
    (kC_U : PySem.W.keepIn K (.ref C_U) = true)
    (eC_U : PySem.W.subIn K (.ref C_U) (.type "BaseException") = some true)
    (tC_U : PySem.W.typeIn K (.ref C_U) = some (.type "type"))
    (hd_U : PySem.W.hasDictIn K C_U = true)
    (vV_U : PySem.W.findCls K (.type "LookupError") (.type "type") "__init__" = some (.val (.builtin "LookupError.__init__")))
    (sp_ : PySem.W.specialIn K (.builtin "object.__class__") "__get__" = some (some (.builtin "getset_descriptor.__get__")))
    (tk_ : PySem.W.takesIn K (.builtin "object.__class__") = some true)
    (i_i_U : PySem.W.findIn K (.ref C_U) "__init__" = some (some (.ref f_i_U)))
    (ty_i_U : PySem.W.typeIn K (.ref f_i_U) = some (.type "function"))
    (l_i_U : K.lookup f_i_U = some ⟨oc_i_U, od_i_U, .func (PySem.W.fnOf "__init__" "NoPart.__init__" (defArgs sNoPartI) (defBody sNoPartI) (defScope sNoPartI) .none kV_i_U dc_i_U pm_i_U an_i_U cd_i_U ct_i_U), sl_i_U⟩)
    (c_i_U : PySem.W.codeIn K cd_i_U "NoPart.__init__" = true)
    (k_i_U : PySem.W.keepIn K (.ref f_i_U) = true)
    (no_U_part : PySem.W.findIn K (.ref C_U) "part" = some none)
    (sb_U_U : PySem.W.subIn K (.ref C_U) (.ref C_U) = some true)
    (kU_LookupError : PySem.W.kitOne K (.ref C_U) (.type "LookupError") = some true)
    (z_abs : PySem.W.nsIn K mainGlobals "abs" = some none)
    (z_isinstance : PySem.W.nsIn K mainGlobals "isinstance" = some none)
    (z_int : PySem.W.nsIn K mainGlobals "int" = some none)
    (z_bool : PySem.W.nsIn K mainGlobals "bool" = some none)
    (z_tuple : PySem.W.nsIn K mainGlobals "tuple" = some none)
    (z_list : PySem.W.nsIn K mainGlobals "list" = some none)
    (z_len : PySem.W.nsIn K mainGlobals "len" = some none)
    (z_range : PySem.W.nsIn K mainGlobals "range" = some none)
    (z_str : PySem.W.nsIn K mainGlobals "str" = some none)
    (z_repr : PySem.W.nsIn K mainGlobals "repr" = some none)
    (z_sum : PySem.W.nsIn K mainGlobals "sum" = some none)
    (z_all : PySem.W.nsIn K mainGlobals "all" = some none)
    (z_any : PySem.W.nsIn K mainGlobals "any" = some none)
    (z_enumerate : PySem.W.nsIn K mainGlobals "enumerate" = some none)
    (z_zip : PySem.W.nsIn K mainGlobals "zip" = some none)
    (z_min : PySem.W.nsIn K mainGlobals "min" = some none)
    (z_max : PySem.W.nsIn K mainGlobals "max" = some none)
    (z_sorted : PySem.W.nsIn K mainGlobals "sorted" = some none)
    (z_ValueError : PySem.W.nsIn K mainGlobals "ValueError" = some none)
    (z_ZeroDivisionError : PySem.W.nsIn K mainGlobals "ZeroDivisionError" = some none)
    (z_OverflowError : PySem.W.nsIn K mainGlobals "OverflowError" = some none)
    (z_IndexError : PySem.W.nsIn K mainGlobals "IndexError" = some none)
    (z_LookupError : PySem.W.nsIn K mainGlobals "LookupError" = some none)
    (z_ArithmeticError : PySem.W.nsIn K mainGlobals "ArithmeticError" = some none)
    (z_KeyError : PySem.W.nsIn K mainGlobals "KeyError" = some none)
    (z_RuntimeError : PySem.W.nsIn K mainGlobals "RuntimeError" = some none) :
    ∃ fd : FuncData, (∀ (s : Shared) (v : Value), BindsTo s fd ⟨[v], []⟩ [("_law_script", v)]) ∧ ∀ base : Heap, K.In base → base.Ns mainGlobals mg → FnOkG l.prog w K mg base CX0 10 fa fd ["_law_script"] (spLaw K) := by
  have e := hfa.symm.trans (PySem.W.mg_of X G a_d_law)
  cases e
  have B : Blt mg := ⟨PySem.W.mg_none_of X G z_abs, PySem.W.mg_none_of X G z_isinstance, PySem.W.mg_none_of X G z_int, PySem.W.mg_none_of X G z_bool, PySem.W.mg_none_of X G z_tuple, PySem.W.mg_none_of X G z_list, PySem.W.mg_none_of X G z_len, PySem.W.mg_none_of X G z_range, PySem.W.mg_none_of X G z_str, PySem.W.mg_none_of X G z_repr, PySem.W.mg_none_of X G z_sum, PySem.W.mg_none_of X G z_all, PySem.W.mg_none_of X G z_any, PySem.W.mg_none_of X G z_enumerate, PySem.W.mg_none_of X G z_zip, PySem.W.mg_none_of X G z_min, PySem.W.mg_none_of X G z_max, PySem.W.mg_none_of X G z_sorted, PySem.W.mg_none_of X G z_ValueError, PySem.W.mg_none_of X G z_ZeroDivisionError, PySem.W.mg_none_of X G z_OverflowError, PySem.W.mg_none_of X G z_IndexError, PySem.W.mg_none_of X G z_LookupError, PySem.W.mg_none_of X G z_ArithmeticError, PySem.W.mg_none_of X G z_KeyError, PySem.W.mg_none_of X G z_RuntimeError⟩
  have F_d_is_whole := fun_mk (st := sWhole) l_d_is_whole c_d_is_whole k_d_is_whole
  have b_d_is_whole := F_d_is_whole.binds (ps := ["thing"]) fun _ _ _ _ _ _ us hl => match us, hl with | [_], _ => rfl
  have g_d_is_whole := PySem.W.mg_of X G a_d_is_whole
  have F_d_is_ratio := fun_mk (st := sIsR) l_d_is_ratio c_d_is_ratio k_d_is_ratio
  have b_d_is_ratio := F_d_is_ratio.binds (ps := ["thing"]) fun _ _ _ _ _ _ us hl => match us, hl with | [_], _ => rfl
  have g_d_is_ratio := PySem.W.mg_of X G a_d_is_ratio
  have F_d_plus := fun_mk (st := sPlus) l_d_plus c_d_plus k_d_plus
  have b_d_plus := F_d_plus.binds (ps := ["one", "other"]) fun _ _ _ _ _ _ us hl => match us, hl with | [_, _], _ => rfl
  have g_d_plus := PySem.W.mg_of X G a_d_plus
  have F_d_minus := fun_mk (st := sMinus) l_d_minus c_d_minus k_d_minus
  have b_d_minus := F_d_minus.binds (ps := ["one", "other"]) fun _ _ _ _ _ _ us hl => match us, hl with | [_, _], _ => rfl
  have g_d_minus := PySem.W.mg_of X G a_d_minus
  have F_d_times := fun_mk (st := sTimes) l_d_times c_d_times k_d_times
  have b_d_times := F_d_times.binds (ps := ["one", "other"]) fun _ _ _ _ _ _ us hl => match us, hl with | [_, _], _ => rfl
  have g_d_times := PySem.W.mg_of X G a_d_times
  have F_d_over := fun_mk (st := sOver) l_d_over c_d_over k_d_over
  have b_d_over := F_d_over.binds (ps := ["one", "other"]) fun _ _ _ _ _ _ us hl => match us, hl with | [_, _], _ => rfl
  have g_d_over := PySem.W.mg_of X G a_d_over
  have F_d_under := fun_mk (st := sUnder) l_d_under c_d_under k_d_under
  have b_d_under := F_d_under.binds (ps := ["one", "other"]) fun _ _ _ _ _ _ us hl => match us, hl with | [_, _], _ => rfl
  have g_d_under := PySem.W.mg_of X G a_d_under
  have F_d_lowest := fun_mk (st := sLowest) l_d_lowest c_d_lowest k_d_lowest
  have b_d_lowest := F_d_lowest.binds (ps := ["top", "bottom"]) fun _ _ _ _ _ _ us hl => match us, hl with | [_, _], _ => rfl
  have g_d_lowest := PySem.W.mg_of X G a_d_lowest
  have F_d_divisor := fun_mk (st := sDiv) l_d_divisor c_d_divisor k_d_divisor
  have b_d_divisor := F_d_divisor.binds (ps := ["one", "other"]) fun _ _ _ _ _ _ us hl => match us, hl with | [_, _], _ => rfl
  have g_d_divisor := PySem.W.mg_of X G a_d_divisor
  have F_d_roof_at := fun_mk (st := sRoofAt) l_d_roof_at c_d_roof_at k_d_roof_at
  have b_d_roof_at := F_d_roof_at.binds (ps := ["corners", "part"]) fun _ _ _ _ _ _ us hl => match us, hl with | [_, _], _ => rfl
  have g_d_roof_at := PySem.W.mg_of X G a_d_roof_at
  have F_d_is_part := fun_mk (st := sIsPart) l_d_is_part c_d_is_part k_d_is_part
  have b_d_is_part := F_d_is_part.binds (ps := ["thing"]) fun _ _ _ _ _ _ us hl => match us, hl with | [_], _ => rfl
  have g_d_is_part := PySem.W.mg_of X G a_d_is_part
  have F_d_level := fun_mk (st := sLevel) l_d_level c_d_level k_d_level
  have b_d_level := F_d_level.binds (ps := ["start", "low", "end", "high", "part"]) fun _ _ _ _ _ _ us hl => match us, hl with | [_, _, _, _, _], _ => rfl
  have g_d_level := PySem.W.mg_of X G a_d_level
  have F_d_law_left := fun_mk (st := sLeft) l_d_law_left c_d_law_left k_d_law_left
  have b_d_law_left := F_d_law_left.binds (ps := ["_law_cell"]) fun _ _ _ _ _ _ us hl => match us, hl with | [_], _ => rfl
  have g_d_law_left := PySem.W.mg_of X G a_d_law_left
  have F_d_law_digit := fun_mk (st := sDigit) l_d_law_digit c_d_law_digit k_d_law_digit
  have b_d_law_digit := F_d_law_digit.binds (ps := ["_law_left_here", "_law_many"]) fun _ _ _ _ _ _ us hl => match us, hl with | [_, _], _ => rfl
  have g_d_law_digit := PySem.W.mg_of X G a_d_law_digit
  have F_d_law_low := fun_mk (st := sLow) l_d_law_low c_d_law_low k_d_law_low
  have b_d_law_low := F_d_law_low.binds (ps := ["_law_top", "_law_bottom"]) fun _ _ _ _ _ _ us hl => match us, hl with | [_, _], _ => rfl
  have g_d_law_low := PySem.W.mg_of X G a_d_law_low
  have F_d_law_plus := fun_mk (st := sLPlus) l_d_law_plus c_d_law_plus k_d_law_plus
  have b_d_law_plus := F_d_law_plus.binds (ps := ["_law_one", "_law_other"]) fun _ _ _ _ _ _ us hl => match us, hl with | [_, _], _ => rfl
  have g_d_law_plus := PySem.W.mg_of X G a_d_law_plus
  have F_d_law_less := fun_mk (st := sLLess) l_d_law_less c_d_law_less k_d_law_less
  have b_d_law_less := F_d_law_less.binds (ps := ["_law_one", "_law_other"]) fun _ _ _ _ _ _ us hl => match us, hl with | [_, _], _ => rfl
  have g_d_law_less := PySem.W.mg_of X G a_d_law_less
  have F_d_law_times := fun_mk (st := sLTimes) l_d_law_times c_d_law_times k_d_law_times
  have b_d_law_times := F_d_law_times.binds (ps := ["_law_one", "_law_other"]) fun _ _ _ _ _ _ us hl => match us, hl with | [_, _], _ => rfl
  have g_d_law_times := PySem.W.mg_of X G a_d_law_times
  have F_d_law_under := fun_mk (st := sLUnder) l_d_law_under c_d_law_under k_d_law_under
  have b_d_law_under := F_d_law_under.binds (ps := ["_law_one", "_law_other"]) fun _ _ _ _ _ _ us hl => match us, hl with | [_, _], _ => rfl
  have g_d_law_under := PySem.W.mg_of X G a_d_law_under
  have F_d_law_gain := fun_mk (st := sGain) l_d_law_gain c_d_law_gain k_d_law_gain
  have b_d_law_gain := F_d_law_gain.binds (ps := ["_law_left_here"]) fun _ _ _ _ _ _ us hl => match us, hl with | [_], _ => rfl
  have g_d_law_gain := PySem.W.mg_of X G a_d_law_gain
  have F_d_law_corners := fun_mk (st := sCorners) l_d_law_corners c_d_law_corners k_d_law_corners
  have b_d_law_corners := F_d_law_corners.binds (ps := ["_law_left_here"]) fun _ _ _ _ _ _ us hl => match us, hl with | [_], _ => rfl
  have g_d_law_corners := PySem.W.mg_of X G a_d_law_corners
  have F_d_law_due := fun_mk (st := sDue43) l_d_law_due c_d_law_due k_d_law_due
  have b_d_law_due := F_d_law_due.binds (ps := ["_law_bends", "_law_part"]) fun _ _ _ _ _ _ us hl => match us, hl with | [_, _], _ => rfl
  have g_d_law_due := PySem.W.mg_of X G a_d_law_due
  have F_d_law_refused := fun_mk (st := sRef43) l_d_law_refused c_d_law_refused k_d_law_refused
  have b_d_law_refused := F_d_law_refused.binds (ps := ["_law_bends", "_law_part"]) fun _ _ _ _ _ _ us hl => match us, hl with | [_, _], _ => rfl
  have g_d_law_refused := PySem.W.mg_of X G a_d_law_refused
  have F_d_law := fun_mk (st := sLaw) l_d_law c_d_law k_d_law
  have g_d_law := PySem.W.mg_of X G a_d_law
  have ex_U : ExcC K C_U := ⟨ga_U, gg_U, eC_U, hd_U, cl_U, sp_, tk_, mo_U⟩
  have xf_U : XfC K C_U := ⟨ga_U, gg_U, eC_U, hd_U⟩
  have gC_U := PySem.W.mg_of X G aC_U
  have exc_U : ExC K C_U "LookupError.__new__" [.type "LookupError", .type "Exception", .type "BaseException", .type "object"] := ⟨⟨nm_U, q_U, N_U, bs_U, sn_U, su_U, ab_U, co_U, dd_U, m0_U, m1_U, m2_U, m3_U, m5_U, xC_U⟩, eC_U, tC_U, kC_U⟩
  have F_i_U := fun_mk (st := sNoPartI) l_i_U c_i_U k_i_U
  have b_i_U := F_i_U.binds (ps := ["self", "part"]) fun _ _ _ _ _ _ us hl => match us, hl with | [_, _], _ => rfl
  have em_U_U := PySem.W.exm_ref eC_U hd_U tC_U sb_U_U
  have U0 : ErF K mg "NoPart" "LookupError" "LookupError.__new__" [.type "LookupError", .type "Exception", .type "BaseException", .type "object"] C_U f_i_U ["part"] := ⟨⟨exc_U, sa_U⟩, (fun n hn => by rw [List.mem_singleton.mp hn]; exact no_U_part), gC_U, i_i_U, ty_i_U, vV_U, ex_U, xf_U⟩
  have KF0 : K43F K C_U := ⟨em_U_U, kU_LookupError⟩
  refine ⟨PySem.W.fnOf "law" "law" (defArgs sLaw) (defBody sLaw) (defScope sLaw) .none kV_d_law dc_d_law pm_d_law an_d_law cd_d_law ct_d_law, fun s v => .of_eq rfl, fun base _ _ => ?_⟩
  have G_d_divisor : FnOk l.prog w K mg base CX0 1 f_d_divisor _ ["one", "other"] spDiv := ok_div F_d_divisor  B
  have G_d_lowest : FnOk l.prog w K mg base CX0 2 f_d_lowest _ ["top", "bottom"] spLow := ok_lowest F_d_lowest (G_d_divisor.mono (by decide)) k_d_divisor b_d_divisor g_d_divisor
  have G_d_plus : FnOk l.prog w K mg base CX0 3 f_d_plus _ ["one", "other"] (spBin K (· + ·)) := ok_Plus F_d_plus (G_d_lowest.mono (by decide)) k_d_lowest b_d_lowest g_d_lowest
  have G_d_times : FnOk l.prog w K mg base CX0 3 f_d_times _ ["one", "other"] (spBin K (· * ·)) := ok_Times F_d_times (G_d_lowest.mono (by decide)) k_d_lowest b_d_lowest g_d_lowest
  have G_d_minus : FnOk l.prog w K mg base CX0 3 f_d_minus _ ["one", "other"] (spBin K (· - ·)) := ok_Minus F_d_minus (G_d_lowest.mono (by decide)) k_d_lowest b_d_lowest g_d_lowest
  have G_d_over : FnOk l.prog w K mg base CX0 3 f_d_over _ ["one", "other"] (spOver K) := ok_Over F_d_over (G_d_lowest.mono (by decide)) k_d_lowest b_d_lowest g_d_lowest
  have G_d_under : FnOk l.prog w K mg base CX0 1 f_d_under _ ["one", "other"] (spUnder K) := ok_Under F_d_under 
  have G_d_is_whole : FnOk l.prog w K mg base CX0 1 f_d_is_whole _ ["thing"] (spWholeZ K) := ok_WholeZ F_d_is_whole  B
  have G_d_is_ratio : FnOk l.prog w K mg base CX0 2 f_d_is_ratio _ ["thing"] (spIsRZ K) := ok_IsRZ F_d_is_ratio (G_d_is_whole.mono (by decide)) k_d_is_whole b_d_is_whole g_d_is_whole (G_d_divisor.mono (by decide)) k_d_divisor b_d_divisor g_d_divisor B
  have G_d_is_part : FnOk l.prog w K mg base CX0 3 f_d_is_part _ ["thing"] (spIsPart K) := ok_IsPart F_d_is_part (G_d_is_ratio.mono (by decide)) k_d_is_ratio b_d_is_ratio g_d_is_ratio
  have G_d_level : FnOk l.prog w K mg base CX0 4 f_d_level _ ["start", "low", "end", "high", "part"] (spLevel K) := ok_Level F_d_level (G_d_plus.mono (by decide)) k_d_plus b_d_plus g_d_plus (G_d_times.mono (by decide)) k_d_times b_d_times g_d_times (G_d_minus.mono (by decide)) k_d_minus b_d_minus g_d_minus (G_d_over.mono (by decide)) k_d_over b_d_over g_d_over
  have G_i_U : FnOk l.prog w K mg base CX0 1 f_i_U _ ["self", "part"] (spE1 C_U "part") := ok_NoPartI F_i_U U0 B
  have G_d_roof_at : FnOk l.prog w K mg base (L2.CX l.prog w) 6 f_d_roof_at _ ["corners", "part"] (spRoofAt K C_U) := ok_RoofAt F_d_roof_at U0 (G_i_U.mono (by decide)) b_i_U (G_d_is_part.mono (by decide)) k_d_is_part b_d_is_part g_d_is_part (G_d_under.mono (by decide)) k_d_under b_d_under g_d_under (G_d_level.mono (by decide)) k_d_level b_d_level g_d_level B
  have G_d_law_left : FnOk l.prog w K mg base CX0 1 f_d_law_left _ ["_law_cell"] spLeft := ok_left F_d_law_left  B
  have G_d_law_digit : FnOk l.prog w K mg base CX0 1 f_d_law_digit _ ["_law_left_here", "_law_many"] spDigit := ok_digit F_d_law_digit 
  have G_d_law_low : FnOk l.prog w K mg base CX0 1 f_d_law_low _ ["_law_top", "_law_bottom"] spLow := ok_low F_d_law_low  B
  have G_d_law_plus : FnOk l.prog w K mg base CX0 2 f_d_law_plus _ ["_law_one", "_law_other"] (spBin K (· + ·)) := ok_LPlus F_d_law_plus (G_d_law_low.mono (by decide)) k_d_law_low b_d_law_low g_d_law_low
  have G_d_law_less : FnOk l.prog w K mg base CX0 2 f_d_law_less _ ["_law_one", "_law_other"] (spBin K (· - ·)) := ok_LLess F_d_law_less (G_d_law_low.mono (by decide)) k_d_law_low b_d_law_low g_d_law_low
  have G_d_law_times : FnOk l.prog w K mg base CX0 2 f_d_law_times _ ["_law_one", "_law_other"] (spBin K (· * ·)) := ok_LTimes F_d_law_times (G_d_law_low.mono (by decide)) k_d_law_low b_d_law_low g_d_law_low
  have G_d_law_under : FnOk l.prog w K mg base CX0 1 f_d_law_under _ ["_law_one", "_law_other"] (spUnder K) := ok_LUnder F_d_law_under 
  have G_d_law_gain : FnOk l.prog w K mg base CX0 2 f_d_law_gain _ ["_law_left_here"] (Lw.spGain K) := ok_Gain F_d_law_gain (G_d_law_digit.mono (by decide)) k_d_law_digit b_d_law_digit g_d_law_digit (G_d_law_low.mono (by decide)) k_d_law_low b_d_law_low g_d_law_low
  have G_d_law_corners : FnOk l.prog w K mg base CX0 3 f_d_law_corners _ ["_law_left_here"] (spCorners K) := ok_Corners F_d_law_corners (G_d_law_digit.mono (by decide)) k_d_law_digit b_d_law_digit g_d_law_digit (G_d_law_low.mono (by decide)) k_d_law_low b_d_law_low g_d_law_low (G_d_law_gain.mono (by decide)) k_d_law_gain b_d_law_gain g_d_law_gain B
  have G_d_law_due : FnOk l.prog w K mg base CX0 3 f_d_law_due _ ["_law_bends", "_law_part"] (spDue43 K) := ok_Due43 F_d_law_due (G_d_law_under.mono (by decide)) k_d_law_under b_d_law_under g_d_law_under (G_d_law_less.mono (by decide)) k_d_law_less b_d_law_less g_d_law_less (G_d_law_times.mono (by decide)) k_d_law_times b_d_law_times g_d_law_times (G_d_law_plus.mono (by decide)) k_d_law_plus b_d_law_plus g_d_law_plus B
  have G_d_law_refused : FnOkG l.prog w K mg base CX0 7 f_d_law_refused _ ["_law_bends", "_law_part"] (spRef43 K) := ok_Ref43 F_d_law_refused U0 KF0 G_d_roof_at k_d_roof_at b_d_roof_at g_d_roof_at  B
  exact ok_law (k := 8) F_d_law (G_d_law_digit.mono (by decide)) k_d_law_digit b_d_law_digit g_d_law_digit (G_d_law_low.mono (by decide)) k_d_law_low b_d_law_low g_d_law_low (G_d_law_left.mono (by decide)) k_d_law_left b_d_law_left g_d_law_left (G_d_law_corners.mono (by decide)) k_d_law_corners b_d_law_corners g_d_law_corners (G_d_law_due.mono (by decide)) k_d_law_due b_d_law_due g_d_law_due (G_d_law_refused.mono (by decide)) k_d_law_refused b_d_law_refused g_d_law_refused (G_d_roof_at.mono (by decide)) k_d_roof_at b_d_roof_at g_d_roof_at B
end K43
open PySem PySem.W PyProof.Rows
set_option maxRecDepth 100000 in
set_option maxHeartbeats 0 in
theorem PySem.Challenge.cw_besttelling_k43_walked_between_corners_holds : PySem.Challenge.rw_besttelling_k43_walked_between_corners.Holds := by
  w_on; o_law; k_head; (case hw => w_witness2)
  k_fill
  refine BX.walk_ofG (l := PySem.Challenge.rw_besttelling_k43_walked_between_corners) (n := 63) (k := 10) (x := "_law_script") (CX := fun _ => L2.CX0) (sp := fun w => K43.spLaw _) rfl (by decide) rfl ⟨rfl, by decide, by decide⟩ (fun w h Y => PySem.W.kIn_of Y) ?F (fun _ _ a ns hl _ hS => ⟨a, ns, rfl, hS, hl, fun _ => rfl⟩) (fun _ _ _ _ _ h => h)
  case F =>
    intro w mg fa h KX G hmg
    refine' K43.all_mk KX G hmg ?a_d_is_whole ?l_d_is_whole ?c_d_is_whole ?k_d_is_whole ?a_d_is_ratio ?l_d_is_ratio ?c_d_is_ratio ?k_d_is_ratio ?a_d_plus ?l_d_plus ?c_d_plus ?k_d_plus ?a_d_minus ?l_d_minus ?c_d_minus ?k_d_minus ?a_d_times ?l_d_times ?c_d_times ?k_d_times ?a_d_over ?l_d_over ?c_d_over ?k_d_over ?a_d_under ?l_d_under ?c_d_under ?k_d_under ?a_d_lowest ?l_d_lowest ?c_d_lowest ?k_d_lowest ?a_d_divisor ?l_d_divisor ?c_d_divisor ?k_d_divisor ?a_d_roof_at ?l_d_roof_at ?c_d_roof_at ?k_d_roof_at ?a_d_is_part ?l_d_is_part ?c_d_is_part ?k_d_is_part ?a_d_level ?l_d_level ?c_d_level ?k_d_level ?a_d_law_left ?l_d_law_left ?c_d_law_left ?k_d_law_left ?a_d_law_digit ?l_d_law_digit ?c_d_law_digit ?k_d_law_digit ?a_d_law_low ?l_d_law_low ?c_d_law_low ?k_d_law_low ?a_d_law_plus ?l_d_law_plus ?c_d_law_plus ?k_d_law_plus ?a_d_law_less ?l_d_law_less ?c_d_law_less ?k_d_law_less ?a_d_law_times ?l_d_law_times ?c_d_law_times ?k_d_law_times ?a_d_law_under ?l_d_law_under ?c_d_law_under ?k_d_law_under ?a_d_law_gain ?l_d_law_gain ?c_d_law_gain ?k_d_law_gain ?a_d_law_corners ?l_d_law_corners ?c_d_law_corners ?k_d_law_corners ?a_d_law_due ?l_d_law_due ?c_d_law_due ?k_d_law_due ?a_d_law_refused ?l_d_law_refused ?c_d_law_refused ?k_d_law_refused ?a_d_law ?l_d_law ?c_d_law ?k_d_law ?aC_U ?xC_U ?sa_U ?ga_U ?gg_U ?cl_U ?mo_U ?kC_U ?eC_U ?tC_U ?hd_U ?vV_U ?sp_ ?tk_ ?i_i_U ?ty_i_U ?l_i_U ?c_i_U ?k_i_U ?no_U_part ?sb_U_U ?kU_LookupError ?z_abs ?z_isinstance ?z_int ?z_bool ?z_tuple ?z_list ?z_len ?z_range ?z_str ?z_repr ?z_sum ?z_all ?z_any ?z_enumerate ?z_zip ?z_min ?z_max ?z_sorted ?z_ValueError ?z_ZeroDivisionError ?z_OverflowError ?z_IndexError ?z_LookupError ?z_ArithmeticError ?z_KeyError ?z_RuntimeError
    (case a_d_is_whole => k_is)
    (case l_d_is_whole => k_is)
    (case c_d_is_whole => k_is)
    (case k_d_is_whole => k_is)
    (case a_d_is_ratio => k_is)
    (case l_d_is_ratio => k_is)
    (case c_d_is_ratio => k_is)
    (case k_d_is_ratio => k_is)
    (case a_d_plus => k_is)
    (case l_d_plus => k_is)
    (case c_d_plus => k_is)
    (case k_d_plus => k_is)
    (case a_d_minus => k_is)
    (case l_d_minus => k_is)
    (case c_d_minus => k_is)
    (case k_d_minus => k_is)
    (case a_d_times => k_is)
    (case l_d_times => k_is)
    (case c_d_times => k_is)
    (case k_d_times => k_is)
    (case a_d_over => k_is)
    (case l_d_over => k_is)
    (case c_d_over => k_is)
    (case k_d_over => k_is)
    (case a_d_under => k_is)
    (case l_d_under => k_is)
    (case c_d_under => k_is)
    (case k_d_under => k_is)
    (case a_d_lowest => k_is)
    (case l_d_lowest => k_is)
    (case c_d_lowest => k_is)
    (case k_d_lowest => k_is)
    (case a_d_divisor => k_is)
    (case l_d_divisor => k_is)
    (case c_d_divisor => k_is)
    (case k_d_divisor => k_is)
    (case a_d_roof_at => k_is)
    (case l_d_roof_at => k_is)
    (case c_d_roof_at => k_is)
    (case k_d_roof_at => k_is)
    (case a_d_is_part => k_is)
    (case l_d_is_part => k_is)
    (case c_d_is_part => k_is)
    (case k_d_is_part => k_is)
    (case a_d_level => k_is)
    (case l_d_level => k_is)
    (case c_d_level => k_is)
    (case k_d_level => k_is)
    (case a_d_law_left => k_is)
    (case l_d_law_left => k_is)
    (case c_d_law_left => k_is)
    (case k_d_law_left => k_is)
    (case a_d_law_digit => k_is)
    (case l_d_law_digit => k_is)
    (case c_d_law_digit => k_is)
    (case k_d_law_digit => k_is)
    (case a_d_law_low => k_is)
    (case l_d_law_low => k_is)
    (case c_d_law_low => k_is)
    (case k_d_law_low => k_is)
    (case a_d_law_plus => k_is)
    (case l_d_law_plus => k_is)
    (case c_d_law_plus => k_is)
    (case k_d_law_plus => k_is)
    (case a_d_law_less => k_is)
    (case l_d_law_less => k_is)
    (case c_d_law_less => k_is)
    (case k_d_law_less => k_is)
    (case a_d_law_times => k_is)
    (case l_d_law_times => k_is)
    (case c_d_law_times => k_is)
    (case k_d_law_times => k_is)
    (case a_d_law_under => k_is)
    (case l_d_law_under => k_is)
    (case c_d_law_under => k_is)
    (case k_d_law_under => k_is)
    (case a_d_law_gain => k_is)
    (case l_d_law_gain => k_is)
    (case c_d_law_gain => k_is)
    (case k_d_law_gain => k_is)
    (case a_d_law_corners => k_is)
    (case l_d_law_corners => k_is)
    (case c_d_law_corners => k_is)
    (case k_d_law_corners => k_is)
    (case a_d_law_due => k_is)
    (case l_d_law_due => k_is)
    (case c_d_law_due => k_is)
    (case k_d_law_due => k_is)
    (case a_d_law_refused => k_is)
    (case l_d_law_refused => k_is)
    (case c_d_law_refused => k_is)
    (case k_d_law_refused => k_is)
    (case a_d_law => k_is)
    (case l_d_law => k_is)
    (case c_d_law => k_is)
    (case k_d_law => k_is)
    (case aC_U => k_is)
    (case xC_U => k_is)
    (case sa_U => k_is)
    (case ga_U => k_is)
    (case gg_U => k_is)
    (case cl_U => k_is)
    (case mo_U => first | rfl | k_is | decide +kernel)
    (case kC_U => k_is)
    (case eC_U => k_is)
    (case tC_U => k_is)
    (case hd_U => k_is)
    (case vV_U => first | rfl | decide +kernel | k_is)
    (case sp_ => first | rfl | k_is | decide +kernel)
    (case tk_ => first | rfl | k_is | decide +kernel)
    (case i_i_U => k_is)
    (case ty_i_U => k_is)
    (case l_i_U => k_is)
    (case c_i_U => k_is)
    (case k_i_U => k_is)
    (case no_U_part => k_is)
    (case sb_U_U => first | rfl | k_is | decide +kernel)
    (case kU_LookupError => first | rfl | k_is | kit_is | decide +kernel)
    (case z_abs => k_is)
    (case z_isinstance => k_is)
    (case z_int => k_is)
    (case z_bool => k_is)
    (case z_tuple => k_is)
    (case z_list => k_is)
    (case z_len => k_is)
    (case z_range => k_is)
    (case z_str => k_is)
    (case z_repr => k_is)
    (case z_sum => k_is)
    (case z_all => k_is)
    (case z_any => k_is)
    (case z_enumerate => k_is)
    (case z_zip => k_is)
    (case z_min => k_is)
    (case z_max => k_is)
    (case z_sorted => k_is)
    (case z_ValueError => k_is)
    (case z_ZeroDivisionError => k_is)
    (case z_OverflowError => k_is)
    (case z_IndexError => k_is)
    (case z_LookupError => k_is)
    (case z_ArithmeticError => k_is)
    (case z_KeyError => k_is)
    (case z_RuntimeError => k_is)
