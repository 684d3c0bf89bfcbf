import PyProof.Rows.All
import Wide.All
import OpenK.AllK
import Wide.FinOn
import HandS.Base
import HandS.Call
import HandS.List
import HandS.Ends
import HandS.Words
import HandS.Exc
import HandS.ExcOwn
import HandS.ExcInit
import HandS.ExcField
import HandS.ExcIs
import HandS.WordsExc
import HandS.TryOnly
import HandS.TryMany
import KE.KExcIs
import PyProof.ReprRoads
import HandS.Wide
import HandS.IsInst
import HandS.Defaults
import HandS.Style
import HandS.Comp
import HandS.Flow
import HandS.Iter
import HandS.Zip
import HandS.CallLocal
import HandS.Dict
import HandS.Walk
import HandS.MakeKw
import HandS.Deep
import PyProof.InstNe
import PyProof.InstEq
import HandS.OwnEq
import PyProof.TupleOfSeq
import PyProof.Rows.SortWalk
import HandS.ExcValue
import HandS.FStr
import KE.KCallOwn
import HandS.Text
import HandS.Codes
import HandS.StrMore
import KE.GoesMore
import PyProof.FitsInt
import HandS.WordsDict
import KE.KStateDown
import HandS.HeadEnd
import HandS.HeadHook1
import HandS.HeadHook2
import HandS.Head0
import HandS.Head1
import HandS.Head2
import PySem.Challenge.RW_besttelling_k67_cases_written
set_option Elab.async false
set_option linter.all false
set_option maxRecDepth 100000
set_option maxHeartbeats 4000000
namespace BX
open PySem PySem.Spec PyProof.Rows L2
/-! ### several clauses «except x as n» -/
structure Clause where
  cls : Value
  slot : Nat
  ts : Addr → Value → Option Addr → TS
def wClauses (K : PySem.W.Frag) (Wout : WX) (D : Ends) : List Clause → WX
  | [] => Wout
  | c :: r => wAs K c.cls c.slot c.ts (wClauses K Wout D r) D
inductive ClausesOk (X : Cx) : List ExceptHandler → List Clause → Prop
  | nil : ClausesOk X [] []
  | cons {x n : Str} {c : Value} {i : Nat} {ts : Addr → Value → Option Addr → TS} {b₀ : Stmt} {suite : List Stmt} {np pos' : Pos} {hds : List ExceptHandler} {l : List Clause} (hi : X.N[i]? = some n) (hln : X.env.kindOf n = some .local) (hc : Names X x c)
      (hsu : ∀ (a : Addr) (oe : Obj) (cls : Value) (d : Option Addr) (pn : List (Addr × Obj)), Zc cls d oe → (∃ vs, oe.data = .fields vs) → PSs (X.suite a ((a, oe) :: pn)) (b₀ :: suite) (ts a cls d)) (r : ClausesOk X hds l) :
      ClausesOk X (.ExceptHandler (some (.Name x np)) (some n) (b₀ :: suite) pos' :: hds) (⟨c, i, ts⟩ :: l)
section
variable {X : Cx} {body : List Stmt} {h₀ : ExceptHandler} {hds : List ExceptHandler} {l : List Clause} {pos : Pos} {tb : WX → TS} {Wout : WX}
theorem ps_try_clauses (hs : X.stack = X.env :: X.outer) (hf : X.env.frame = some X.env.locals) (hN : X.N.Nodup) (tk : Takes X Wout)
    (hb : ∀ (W : WX) (pn : List (Addr × Obj)) (xe : Value → Shared → Prop), Takes (X.tr pn xe) W → PassesOwn (model X.prog X.w) X.A X.env xe → PSs (X.tr pn xe) body (tb W))
    (hh : ClausesOk X (h₀ :: hds) l) : PS X (.Try body (h₀ :: hds) [] [] pos) (fun D σ H => tb (wClauses X.K Wout D l) D σ H) := by
  refine ⟨fun pins s σ H D I h => ?_⟩
  have ok := I.ok
  have hfr : X.A.frames = some (X.env :: X.outer) := by rw [ok.frames, hs]
  refine wpAny_Try_except ?_
  refine wpAny_mono ((hb (wClauses X.K Wout D l) (X.pn ++ pins) (fun e s₁ => wpAny (model X.prog X.w) X.A (noteFrame e X.env) (fun _ s₂ => wpAny (model X.prog X.w) X.A (setFlight e none) (fun _ s₃ =>
    wpAny (model X.prog X.w) X.A (handleBy e X.env (h₀ :: hds)) (SP X pins D) X.xe s₃) X.xe s₂) X.xe s₁) (fun u s' xx => ?_) PassesOwn.looking).run [] s σ H D (I.toTry _) h) (fun f s1 hsp => ?_) (fun e s1 he => he)
  · obtain ⟨a, B, sI, pins', σ', H', cls, d, rfl, J', nb, up, sky, na, os, ag, ww⟩ := xx
    have J : Inv X pins σ' H' sI := J'.ofTry ok
    have sky' : Sky B (X.env :: X.outer) a (Zc cls d) X.env.locals s'.heap := by rw [← hs]; exact sky
    show wpAny (model X.prog X.w) X.A (noteFrame (.ref a) X.env) _ _ _
    refine Sky.land Zc.steady hfr hf sky' fun h3 fl3 up3 => ?_
    have J3 : Inv X pins σ' H' { s' with heap := h3 } := J.landed nb fl3.1 (up.trans up3) os ag
    obtain ⟨oe3, vs3, he3, hz3, hd3⟩ := fl3.there
    have nfr : a ∉ frs (X.env :: X.outer) := fun hm => by
      obtain ⟨_, o', e', hnf⟩ := fl3.2.2.1.mem hm
      rw [he3] at e'; cases e'
      exact hnf _ hd3
    have nL : a ≠ X.env.locals := fun z => nfr (List.mem_filterMap.mpr ⟨X.env, List.mem_cons_self, by rw [hf, z]⟩)
    have nF : a ∉ X.fs := fun hm => by
      obtain ⟨e, he, q⟩ := List.mem_filterMap.mp hm
      exact nfr (List.mem_filterMap.mpr ⟨e, List.mem_cons_of_mem _ he, q⟩)
    have S3 := J3.suite he3 hd3 na nL nF
    have go : ∀ {hds' : List ExceptHandler} {l' : List Clause}, ClausesOk X hds' l' → wClauses X.K Wout D l' cls d σ' H' →
        wpAny (model X.prog X.w) X.A (handleBy (.ref a) X.env hds') (SP X pins D) X.xe { s' with heap := h3 } := by
      intro hds' l' hk
      induction hk with
      | nil =>
        intro ww
        refine wpAny_handleBy_nil ?_
        obtain ⟨k1, k2, k3, oe, vs, T, oT, ts', he, hz, hd, h1, hr⟩ := id fl3
        unfold PySem.passOn
        refine wpAny_bind (wpAny_field he hd h1 ?_)
        rw [if_neg (show ¬ ((Value.ref T == Value.none) = true) from by simp)]
        have fin : wpAny (model X.prog X.w) X.A (setFlight (.ref a) X.env.frame) (fun _ s4 => wpAny (model X.prog X.w) X.A (throw (.ref a) : Sem Flow) (SP X pins D) X.xe s4) X.xe { s' with heap := h3 } := by
          rw [hf]
          refine HandSPX.setFlight_upZ fl3 fun h4 hh4 up4 => wpAny_throw (tk _ _ ?_)
          exact ⟨a, B, sI, pins, σ', H', cls, d, rfl, J, nb, (up.trans up3).trans up4, .inr (.inr (by rw [hs]; exact hh4)), na, os, ag, ww⟩
        first
          | exact wpAny_bind (wpAny_pure (wpAny_bind fin))
          | exact wpAny_bind fin
      | @cons x n c i ts b₀ suite np pos' hds2 l2 hi hln hc hsu r ih =>
        intro ww
        have hloc : Loc X.env.scope n := .inl hln
        obtain ⟨b, hb1, hyes, hno⟩ := ww
        refine wpAny_handleBy_cons (codeAny_handlers_test ?_) (by intro q; cases q)
        have LT : PySem.W.Looks (model X.prog X.w) h3 (typeOf (.ref a)) cls := fun A Q E s k q => wpAny_typeOf_ref (k _ _ he3) (by rw [hz3.1]; exact q)
        have LM := PySem.W.exm_one (M := model X.prog X.w) (J3.kIn) LT hb1
        have test : ∀ {Q : Value → Shared → Prop} {E : Value → Shared → Prop}, Q c { s' with heap := h3 } → wpAny (model X.prog X.w) (X.A.mark (some (.ref a))) (eval (.Name x np) X.env) Q E { s' with heap := h3 } := fun {Q E} q => by
          obtain ⟨hg, hdbg, hm | ⟨hm, hv, hnn⟩⟩ := hc
          · exact ld_glob (X := X.suite a ((a, oe3) :: (X.pn ++ pins))) S3 hg hm q hdbg
          · exact ld_blt (X := X.suite a ((a, oe3) :: (X.pn ++ pins))) S3 hg hm hv q hnn hdbg
        refine test (LM.here ?_)
        cases b with
        | true =>
          refine codeAny_handlers_suite_as ?_
          refine HandSPX.lands_againZ fl3 fun h4 fl4 up4 => ?_
          have J4 : Inv X pins σ' H' { s' with heap := h4 } := J.landed nb fl4.1 ((up.trans up3).trans up4) os ag
          obtain ⟨oe4, vs4, he4, hz4, hd4⟩ := fl4.there
          have S4 := J4.suite he4 hd4 na nL nF
          refine store_ok (X := X.suite a ((a, oe4) :: (X.pn ++ pins))) (v := .ref a) S4 hN hi hloc rfl (fun s5 S5 => ?_) (.inr hln)
          refine wpAny_mono ((hsu a oe4 cls d (X.pn ++ pins) hz4 ⟨_, hd4⟩).run [] s5 _ H' _ S5 (hyes rfl a na)) (fun f s6 hsp => ?_) (fun _ _ z => False.elim z)
          have end_ : ∀ {σ6 : L2.St} {H6 : Hp} {Q : Shared → Prop}, Inv (X.suite a ((a, oe4) :: (X.pn ++ pins))) [] σ6 H6 s6 → (∀ s7, Inv X pins (σ6.set i none) H6 s7 → Q s7) →
              wpAny (model X.prog X.w) X.A (do bindName X.env n .none; unbindBehindTheSuite X.env n pos') (fun _ s7 => Q s7) X.xe s6 := fun {σ6 H6 Q} S6 hq => gone_ok (S6.unsuite ok) hN hi hln hq
          cases f with
          | next =>
            obtain ⟨σ6, H6, S6, q6⟩ := hsp
            exact end_ S6 fun s7 J7 => ⟨_, _, J7, q6⟩
          | brk =>
            obtain ⟨σ6, H6, S6, q6⟩ := hsp
            exact end_ S6 fun s7 J7 => ⟨_, _, J7, q6⟩
          | cont =>
            obtain ⟨σ6, H6, S6, q6⟩ := hsp
            exact end_ S6 fun s7 J7 => ⟨_, _, J7, q6⟩
          | ret u =>
            obtain ⟨v6, σ6, H6, S6, r6, q6⟩ := hsp
            exact end_ S6 fun s7 J7 => ⟨_, _, _, J7, r6, q6⟩
        | false =>
          show wpAny _ X.A (handleBy (.ref a) X.env hds2) _ _ _
          exact ih (hno rfl)
    exact go hh ww
  · cases f with
    | next =>
      obtain ⟨σ', H', J', q⟩ := hsp
      exact wpAny_execs_nil ⟨σ', H', J'.ofTry ok, q⟩
    | brk =>
      obtain ⟨σ', H', J', q⟩ := hsp
      exact ⟨σ', H', J'.ofTry ok, q⟩
    | cont =>
      obtain ⟨σ', H', J', q⟩ := hsp
      exact ⟨σ', H', J'.ofTry ok, q⟩
    | ret u =>
      obtain ⟨v, σ', H', J', r, q⟩ := hsp
      exact ⟨v, σ', H', J'.ofTry ok, r, q⟩
end
/-! ### isinstance of a caught error, with or without fields -/
def rIsX (K : PySem.W.Frag) (D a : Addr) (cls : Value) (d : Option Addr) : List V → Hp → VK → Prop := fun xs H Q => ∃ (c : V) (u : Value) (b : Bool), xs = [.ref a, c] ∧ cls = .ref D ∧ ClsE c u ∧ (d = none ∨ ∃ dd fs, d = some dd ∧ H dd = some (.xd fs)) ∧ PySem.W.kitOne K (.ref D) u = some b ∧ Q (.bl b) H
where ClsE (c : V) (u : Value) : Prop := ∀ w, RelV c w → w = u
theorem call_isX {X : Cx} {a D : Addr} {oe : Obj} {cls : Value} {d : Option Addr} {pn : List (Addr × Obj)} (C : ExcC X.K D) (hz : Zc cls d oe) (hf : ∃ vs, oe.data = .fields vs) : CallR (X.suite a ((a, oe) :: pn)) (.builtin "isinstance") (rIsX X.K D a cls d) := by
  intro pins s σ H xs us Q I r h
  obtain ⟨c, u, b, rfl, rfl, hcv, hdd, e, q⟩ := h
  cases r with
  | cons rx rr =>
    cases rr with
    | cons rt rr =>
      cases rr
      cases rx
      have ec := hcv _ rt
      subst ec
      obtain ⟨hget, _⟩ := I.pin (a, oe) (List.mem_append.mpr (.inl List.mem_cons_self))
      obtain ⟨vs, hv⟩ := hf
      have hcl : (PySem.W.clsIn X.K D).isSome = true := by
        obtain ⟨cd, hc, _⟩ := PySem.W.any_some C.hd
        rw [hc]
        rfl
      have J : ∃ od, PySem.W.InstAt s.heap a oe D od := by
        obtain ⟨oc, od, oda, osl⟩ := oe
        obtain ⟨h1, h2⟩ := hz
        dsimp only at h1 h2 hv
        subst h1 h2 hv
        rcases hdd with rfl | ⟨dd, fs, rfl, hx⟩
        · exact ⟨none, hget, rfl, rfl, trivial⟩
        · obtain ⟨o, ho⟩ := objOk_get (I.hok dd _ hx)
          exact ⟨some o, hget, rfl, rfl, ho⟩
      obtain ⟨od, J⟩ := J
      exact PySem.W.kia_one (PySem.W.kitx_exc hcl C.hg C.hk C.hs C.ha C.hn C.ht C.hm) I.kIn J e (fun z => nomatch z) fun tk => ⟨.bl b, H, I.kept (t' := tk) fun _ _ z => z, rfl, q⟩
end BX

set_option Elab.async false
set_option linter.all false
set_option maxRecDepth 100000
set_option maxHeartbeats 4000000
namespace BX
open PySem PySem.Spec PyProof.Rows L2
/-! ### promises of defs that are called where nothing is being shown -/
structure FnOkG (P : Program) (w : World) (K : PySem.W.Frag) (mg : Str → Option Value) (base : Heap) (CX : CXT) (k : Nat) (f : Addr) (fd : FuncData) (ps : List Str) (sp : Sp) : Prop where
  len : ∀ vs H Q E, sp vs H Q E → vs.length = ps.length
  run : ∀ (A : Around) (outer : List Env) (s : Shared) (H : Hp) (args : Args) (us : List Value) (vs : List V) (Q : VK) (E : XK), Room k A → A.guards = some [] → Env0 P w K mg base A outer s H → BindsTo s fd args (ps.zip us) → Vals vs us → sp vs H Q E →
    codeAny (model P w) A (.call (.ref f) args) (CR CX outer P w H s Q E) s
section
variable {P : Program} {w : World} {K : PySem.W.Frag} {mg : Str → Option Value} {base : Heap} {CX : CXT} {k : Nat} {f : Addr} {fd : FuncData} {ps : List Str} {sp : Sp}
theorem FnOkG.of (F : FnOk P w K mg base CX k f fd ps sp) : FnOkG P w K mg base CX k f fd ps sp := ⟨F.len, fun A outer s H args us vs Q E hr _ e b r h => F.run A outer s H args us vs Q E hr e b r h⟩
theorem FnOkG.mono {j : Nat} (F : FnOkG P w K mg base CX j f fd ps sp) (h : j ≤ k) : FnOkG P w K mg base CX k f fd ps sp := ⟨F.len, fun A outer s H args us vs Q E hr => F.run A outer s H args us vs Q E (hr.mono h)⟩
/-- the body of such a def -/
theorem fn_ofG {name qual : Str} {params : Arguments} {body : List Stmt} {scope : Scope} {dV kV doc pm cdv ct oc : Value} {an od : Option Addr} {osl : Array (Option Value)} {N : List Str}
    (lk : K.lookup f = some ⟨oc, od, .func (PySem.W.fnOf name qual params body scope dV kV doc pm an cdv ct), osl⟩) (hcd : PySem.W.codeIn K cdv qual = true) (S : FnScope N ps scope) (len : ∀ vs H Q E, sp vs H Q E → vs.length = ps.length)
    (hbody : ∀ (A : Around) (outer : List Env) (s : Shared) (H : Hp) (vs : List V) (Q : VK) (E : XK), Room k (A.deeper (envOfC qual scope s.heap.objs.size f cdv)) → (A.deeper (envOfC qual scope s.heap.objs.size f cdv)).guards = some [] → sp vs H Q E →
      ∃ t, PSs (cxOf CX P w K mg base N qual scope f cdv A outer s H E) body t ∧ t { nx := fun _ H' => Q .non H', rt := Q } (start N vs) H) :
    FnOkG P w K mg base CX (k + 1) f (PySem.W.fnOf name qual params body scope dV kV doc pm an cdv ct) ps sp := by
  refine ⟨len, fun A outer s H args us vs Q E hr hgd e0 hb r hsp => ?_⟩
  have KX : K.In s.heap := e0.mod.kin.keeps fun b o e => (e0.bs b o e).1
  have lim : s.heap.NoLimit := e0.mod.nolimit.keeps fun b o e => (e0.bs b o e).1
  have hkind : ∀ y ∈ ps.zip us, scope.names.lookup y.1 = some .local ∨ (scope.names.lookup y.1 = some .cell ∧ ((cellsFrom (s.heap.objs.size + 1) scope.names []).lookup y.1).isSome = true) := fun ⟨n, v⟩ hy => by
    rcases S.par n (List.of_mem_zip hy).1 with q | q
    · exact .inl q
    · exact .inr ⟨q, PySem.W.cellsFrom_some _ _ _ (.inl q)⟩
  refine codeAny_call_function hr.depth (KX _ _ lk) rfl S.co S.gen rfl (PySem.W.codeRec_of KX hcd) (hb _ _ _ _ ?_)
  refine wpAny_newFunctionEnv_cells S.kind hkind fun env he s1 x => ?_
  subst he
  refine ⟨lim.keeps x.toInCall.keep, codeAny_func ?_⟩
  obtain ⟨t, ht, hq⟩ := hbody A outer s H vs Q E (hr.deeper _) hgd hsp
  have I : Inv (cxOf CX P w K mg base N qual scope f cdv A outer s H E) [] (start N vs) H s1 := inv_start S hr.hd e0 (len _ _ _ _ hsp) r x
  refine wpAny_mono (ht.run [] s1 (start N vs) H _ I hq) (fun fl s' hs => ?_) fun e s' hs => hs
  have fin : ∀ {σ' : L2.St} {H' : Hp} {v : V} {u : Value}, Inv (cxOf CX P w K mg base N qual scope f cdv A outer s H E) [] σ' H' s' → RelV v u → Q v H' → CE outer P w H s Q u s' :=
    fun {σ' H' v u} J rv q => ⟨v, H', J.os, J.bare, J.base, J.hok, rv, q⟩
  cases fl with
  | ret u =>
    obtain ⟨v, σ', H', J, rv, q⟩ := hs
    exact fin J rv q
  | next =>
    obtain ⟨σ', H', J, q⟩ := hs
    exact fin (v := V.non) (u := Value.none) J rfl q
  | brk =>
    obtain ⟨_, _, _, q⟩ := hs
    exact False.elim q
  | cont =>
    obtain ⟨_, _, _, q⟩ := hs
    exact False.elim q
theorem okG {x qual : Str} {st : Stmt} {N : List Str} (F : Fun K x qual st f fd) (S : FnScope N ps (defScope st)) (len : ∀ vs H Q E, sp vs H Q E → vs.length = ps.length)
    (hbody : ∀ (cdv : Value) (A : Around) (outer : List Env) (s : Shared) (H : Hp) (vs : List V) (Q : VK) (E : XK), Room k (A.deeper (envOfC qual (defScope st) s.heap.objs.size f cdv)) → (A.deeper (envOfC qual (defScope st) s.heap.objs.size f cdv)).guards = some [] → sp vs H Q E →
      ∃ t, PSs (cxOf CX0 P w K mg base N qual (defScope st) f cdv A outer s H E).nox (defBody st) t ∧ t { nx := fun _ H' => Q .non H', rt := Q } (start N vs) H) : FnOkG P w K mg base CX0 (k + 1) f fd ps sp := by
  obtain ⟨oc, od, kV, doc, pm, an, cdv, ct, osl, rfl, lk, hcd⟩ := F.ex
  refine fn_ofG lk hcd S len fun A outer s H vs Q E hr hgd hsp => ?_
  obtain ⟨t, h, q⟩ := hbody cdv A outer s H vs Q E hr hgd hsp
  exact ⟨t, h.nox, q⟩
end
section
variable {X : Cx} {CX : CXT} {k : Nat} {f : Addr} {fd : FuncData} {ps : List Str} {sp : Sp} {E : XK} {x : Str} {p pos : Pos} {e : Expr} {es : List Expr} {t : TA} {ds : List Value} {dvs : List V}
theorem run_fnG {pins : List (Addr × Obj)} {σ : L2.St} {H : Hp} {s : Shared} {Q : VK} {us : List Value} {vs : List V} (F : FnOkG X.prog X.w X.K X.mg X.base CX k f fd ps sp) (hr : Room k X.A) (hgd : X.A.guards = some []) (hb : Binds X.K fd ps ds) (hd : Vals dvs ds) (hx : Passes CX X E)
    (I : Inv X pins σ H s) (r : Vals vs us) (h : sp (vs ++ dvs) H Q E) : wpAny (model X.prog X.w) X.A (call (.ref f) us) (EP X pins σ Q) X.xe s := by
  have r2 : Vals (vs ++ dvs) (us ++ ds) := r.append hd
  have hl : (us ++ ds).length = ps.length := by rw [← r2.length]; exact F.len _ _ _ _ h
  refine wpAny_call (codeAny_mono (F.run X.A X.stack s H ⟨us, []⟩ (us ++ ds) (vs ++ dvs) Q E hr hgd I.env0 (hb s us I.kIn hl) r2 h) fun r s' hq => ?_)
  cases r with
  | error e => exact hx pins σ H s e s' I hq
  | ok fl =>
    cases fl with
    | ret u => exact I.after hq
    | next => exact False.elim hq
    | brk => exact False.elim hq
    | cont => exact False.elim hq
theorem pe_callG (F : FnOkG X.prog X.w X.K X.mg X.base CX k f fd ps sp) (hr : Room k X.A) (hgd : X.A.guards = some []) (hg : Gl X x) (hm : X.mg x = some (.ref f)) (hk : PySem.W.keepIn X.K (.ref f) = true) (hb : Binds X.K fd ps ds) (hd : Vals dvs ds) (hx : Passes CX X E)
    (ha : PA X (e :: es) t) (hdb : (x == ("__debug__" : Str)) = false := by decide) (he : starEach (e :: es) X.env = (false, eval e X.env) :: starEach es X.env := by rfl) (hpl : (backTo pos (starEach es X.env)).any (·.1) = false := by rfl) :
    PE X (.Call (.Name x p) (e :: es) [] pos) (tCall sp dvs E t) := by
  refine ⟨fun pins s σ H Q I h => ?_⟩
  refine wpAny_Call_Name_kw (ld_glob I hg hm ?_ hdb)
  refine PySem.W.callWith_K (h₀ := X.base) I.ok.mod.kin hk (thn (ha.run pos pins s σ H _ I h) fun us s1 ⟨vs, H1, I1, r, q⟩ => ⟨I1.kIn, ?_⟩) he hpl
  exact run_fnG F hr hgd hb hd hx I1 r q
end
/-! ### repr -/
/-- data, or the empty dict -/
def Dq (K : PySem.W.Frag) (H : Hp) (v : V) (d : PyData) : Prop := Dp K H v d ∨ ∃ a, v = .ref a ∧ H a = some (.dK []) ∧ d = .dict []
mutual
theorem noDict {K : PySem.W.Frag} {H : Hp} : ∀ (d : PyData) (v : V), Dp K H v d → d.hasDict = false
  | .none, _, _ => rfl
  | .bool _, _, _ => rfl
  | .int _, _, _ => rfl
  | .str _, _, _ => rfl
  | .list ds, _, h => by
    cases h with
    | lst _ ha => exact noDicts ds _ ha
  | .tuple ds, _, h => by
    cases h with
    | tup _ ha => exact noDicts ds _ ha
  | .dict _, _, h => by cases h
theorem noDicts {K : PySem.W.Frag} {H : Hp} : ∀ (ds : List PyData) (vs : List V), DpAll K H vs ds → PyData.hasDictAll ds = false
  | [], _, _ => rfl
  | d :: ds, _, h => by
    cases h with
    | cons h1 h2 =>
      show (PyData.hasDict d || PyData.hasDictAll ds) = false
      rw [noDict d _ h1, noDicts ds _ h2]
      rfl
end
def rRepr (K : PySem.W.Frag) : List V → Hp → VK → Prop := fun xs H Q => ∃ x d, xs = [x] ∧ Dq K H x d ∧ d.showable = true ∧ d.depth ≤ 64 ∧ d.shown.length ≤ sizeLine ∧ Q (.str d.shown) H
theorem call_reprD {X : Cx} (hgd : X.A.guards = some []) (hu : X.A.units + 80 < cLine) : CallR X (.builtin "repr") (rRepr X.K) := by
  intro pins s σ H xs us Q I r h
  obtain ⟨x, d, rfl, hd, hs, hdp, hsz, q⟩ := h
  cases r with
  | @cons _ u _ _ ru rn =>
    cases rn
    have up : ∀ {a : Addr} {as : List Addr}, Reads s.heap (.ref a) d as → (d.hasDict = true → sysModules ∉ as) → wpAny (model X.prog X.w) X.A (call (.builtin "repr") [.ref a]) (EP X pins σ Q) X.xe s := fun {a as} rd hsm =>
      repr_of_reads' rd hs hsm hgd (by omega) (fun _ _ z => z) (fun h' u tk hk => ⟨.str d.shown, H, I.kept (t' := tk) hk, ⟨_, rfl⟩, q⟩) hsz
    rcases hd with hd | ⟨a, rfl, ha, rfl⟩
    · have nd := noDict d x hd
      cases hd with
      | non => cases (show u = Value.none from ru); exact P.repr_of_none ⟨.str (PyData.shown .none), H, I.tok _, ⟨_, rfl⟩, q⟩
      | bl b => cases (show u = Value.bool b from ru); exact P.repr_of_bool ⟨.str (PyData.shown (.bool b)), H, I.tok _, ⟨_, rfl⟩, q⟩
      | int i => obtain ⟨t, e⟩ := (show ∃ t, u = Value.int i t from ru); cases e; exact P.repr_of_int (of_decide_eq_true hs) ⟨.str (PyData.shown (.int i)), H, I.tok _, ⟨_, rfl⟩, q⟩
      | str y => obtain ⟨t, e⟩ := (show ∃ t, u = Value.str y t from ru); cases e; exact P.repr_of_str ⟨.str (PyData.shown (.str y)), H, I.tok _, ⟨_, rfl⟩, q⟩ hsz
      | @lst a xs ds h1 h2 =>
        cases (show u = Value.ref a from ru)
        obtain ⟨as, rd⟩ := Dp.reads I _ _ _ (Dp.lst h1 h2) (show RelV (.ref a) (.ref a) from rfl)
        exact up rd (fun z => by rw [nd] at z; cases z)
      | @tup a xs ds h1 h2 =>
        cases (show u = Value.ref a from ru)
        obtain ⟨as, rd⟩ := Dp.reads I _ _ _ (Dp.tup h1 h2) (show RelV (.ref a) (.ref a) from rfl)
        exact up rd (fun z => by rw [nd] at z; cases z)
    · cases (show u = Value.ref a from ru)
      obtain ⟨_, hns, vs, hkv, o, es, ep, h1, h2, h3, h4, h5, _⟩ := (show ObjOk X.prog X.w H s.heap a (.dK []) from I.hok a _ ha)
      cases hkv
      have he : es.toList = [] := List.eq_nil_of_length_eq_zero h5.length
      refine up (as := a :: [] ++ []) (Reads.dict h1 h2.1 h3 (by rw [he]; exact .nil) (by rw [he]; exact .nil)) (fun _ hm => ?_)
      have ea : sysModules = a := by simpa using hm
      rw [← ea] at hns
      exact absurd hns (by decide +kernel)
end BX

namespace Fr
theorem fmod_abs (a : Int) {b : Int} (h : b ≠ 0) : (a.fmod b).natAbs < b.natAbs := by
  by_cases hb : 0 < b
  · have h1 := Int.fmod_lt_of_pos a hb
    have h2 := Int.fmod_nonneg_of_pos a hb
    omega
  · have hb' : 0 < -b := by omega
    have e := Int.neg_fmod_neg (-a) (-b)
    rw [Int.neg_neg, Int.neg_neg] at e
    have h1 := Int.fmod_lt_of_pos (-a) hb'
    have h2 := Int.fmod_nonneg_of_pos (-a) hb'
    omega
theorem gcd_step (a b : Int) : Int.gcd b (a.fmod b) = Int.gcd a b := by
  rw [Int.fmod_def, Int.mul_comm, Int.gcd_sub_mul_right_right, Int.gcd_comm]
theorem gcd_pos {t b : Int} (h : b ≠ 0) : (0 : Int) < (Int.gcd t b : Int) := by
  have : 0 < Int.gcd t b := Int.gcd_pos_of_ne_zero_right t h
  omega
theorem low_num {t b : Int} (hb : 0 < b) : t.fdiv (Int.gcd t b) = (Rat.divInt t b).num := by
  rw [Rat.num_divInt, Int.sign_eq_one_of_pos hb, Int.one_mul, Int.gcd_comm b t, Int.fdiv_eq_ediv_of_nonneg _ (by omega)]
theorem low_den {t b : Int} (hb : 0 < b) : b.fdiv (Int.gcd t b) = ((Rat.divInt t b).den : Int) := by
  rw [Rat.den_divInt, if_neg (by omega), Int.gcd_comm b t, Int.fdiv_eq_ediv_of_nonneg _ (by omega), Int.natCast_ediv]
  congr 1
  omega
theorem lowN_num {t b : Int} (hb : b < 0) : t.fdiv (-(Int.gcd t b : Int)) = (Rat.divInt t b).num := by
  have e := Int.neg_fdiv_neg (-t) (Int.gcd t b : Int)
  rw [Int.neg_neg] at e
  rw [e, Rat.num_divInt, Int.sign_eq_neg_one_of_neg hb, Int.gcd_comm b t, Int.fdiv_eq_ediv_of_nonneg _ (by omega), Int.neg_mul, Int.one_mul]
theorem lowN_den {t b : Int} (hb : b < 0) : b.fdiv (-(Int.gcd t b : Int)) = ((Rat.divInt t b).den : Int) := by
  have e := Int.neg_fdiv_neg (-b) (Int.gcd t b : Int)
  rw [Int.neg_neg] at e
  rw [e, Rat.den_divInt, if_neg (by omega), Int.gcd_comm b t, Int.fdiv_eq_ediv_of_nonneg _ (by omega), Int.natCast_ediv]
  congr 1
  omega
/-- top and bottom below 2 ^ n -/
def Bd (n : Nat) (q : Rat) : Prop := q.num.natAbs < 2 ^ n ∧ q.den < 2 ^ n
theorem Bd.mono {n m : Nat} {q : Rat} (h : Bd n q) (l : n ≤ m) : Bd m q :=
  ⟨Nat.lt_of_lt_of_le h.1 (Nat.pow_le_pow_right (by decide) l), Nat.lt_of_lt_of_le h.2 (Nat.pow_le_pow_right (by decide) l)⟩
theorem bd_low {t b : Int} {n : Nat} (ht : t.natAbs < 2 ^ n) (hb : b.natAbs < 2 ^ n) (h : b ≠ 0) : Bd n (Rat.divInt t b) := by
  constructor
  · rw [Rat.num_divInt]
    have h1 : (b.sign * t).natAbs = t.natAbs := by
      rw [Int.natAbs_mul, Int.natAbs_sign_of_ne_zero h, Nat.one_mul]
    have h2 : (b.sign * t / (b.gcd t : Int)).natAbs ≤ (b.sign * t).natAbs := Int.natAbs_ediv_le_natAbs _ _
    omega
  · rw [Rat.den_divInt, if_neg h]
    exact Nat.lt_of_le_of_lt (Nat.div_le_self _ _) hb
theorem den_pos (q : Rat) : (0 : Int) < (q.den : Int) := by
  have := q.den_pos
  omega
theorem den_ne (q : Rat) : (q.den : Int) ≠ 0 := Int.ne_of_gt (den_pos q)
theorem add_eq (a b : Rat) : Rat.divInt (a.num * b.den + b.num * a.den) (a.den * b.den) = a + b := by
  rw [← Rat.divInt_add_divInt _ _ (den_ne a) (den_ne b), Rat.num_divInt_den, Rat.num_divInt_den]
theorem sub_eq (a b : Rat) : Rat.divInt (a.num * b.den - b.num * a.den) (a.den * b.den) = a - b := by
  rw [Rat.sub_def, Rat.normalize_eq_mkRat, ← Int.natCast_mul]
  rfl
theorem mul_eq (a b : Rat) : Rat.divInt (a.num * b.num) (a.den * b.den) = a * b := by
  rw [← Rat.divInt_mul_divInt, Rat.num_divInt_den, Rat.num_divInt_den]
theorem div_eq (a b : Rat) : Rat.divInt (a.num * b.den) (a.den * b.num) = a / b := by
  rw [Rat.div_def, Rat.inv_def, ← Rat.divInt_mul_divInt, Rat.num_divInt_den]
theorem mul_bd {i j : Int} {n m : Nat} (hi : i.natAbs < 2 ^ n) (hj : j.natAbs < 2 ^ m) : (i * j).natAbs < 2 ^ (n + m) := by
  rw [Int.natAbs_mul, Nat.pow_add]
  exact Nat.mul_lt_mul'' hi hj
theorem add_bd {i j : Int} {n : Nat} (hi : i.natAbs < 2 ^ n) (hj : j.natAbs < 2 ^ n) : (i + j).natAbs < 2 ^ (n + 1) := by
  rw [Nat.pow_succ]
  omega
theorem sub_bd {i j : Int} {n : Nat} (hi : i.natAbs < 2 ^ n) (hj : j.natAbs < 2 ^ n) : (i - j).natAbs < 2 ^ (n + 1) := by
  rw [Nat.pow_succ]
  omega
theorem Bd.dn {n : Nat} {q : Rat} (h : Bd n q) : (q.den : Int).natAbs < 2 ^ n := by
  rw [Int.natAbs_natCast]
  exact h.2
theorem up {i : Int} {n m : Nat} (h : i.natAbs < 2 ^ n) (l : n ≤ m) : i.natAbs < 2 ^ m := Nat.lt_of_lt_of_le h (Nat.pow_le_pow_right (by decide) l)
theorem dd_ne (a b : Rat) : (a.den : Int) * (b.den : Int) ≠ 0 := Int.mul_ne_zero (den_ne a) (den_ne b)
theorem bd_add {a b : Rat} {n m : Nat} (ha : Bd n a) (hb : Bd m b) : Bd (n + m + 1) (a + b) := by
  rw [← add_eq]
  refine bd_low ?_ (up (mul_bd ha.dn hb.dn) (Nat.le_succ _)) (dd_ne a b)
  have h2 := mul_bd hb.1 ha.dn
  rw [Nat.add_comm m n] at h2
  exact add_bd (mul_bd ha.1 hb.dn) h2
theorem bd_sub {a b : Rat} {n m : Nat} (ha : Bd n a) (hb : Bd m b) : Bd (n + m + 1) (a - b) := by
  rw [← sub_eq]
  refine bd_low ?_ (up (mul_bd ha.dn hb.dn) (Nat.le_succ _)) (dd_ne a b)
  have h2 := mul_bd hb.1 ha.dn
  rw [Nat.add_comm m n] at h2
  exact sub_bd (mul_bd ha.1 hb.dn) h2
theorem bd_mul {a b : Rat} {n m : Nat} (ha : Bd n a) (hb : Bd m b) : Bd (n + m) (a * b) := by
  rw [← mul_eq]
  exact bd_low (mul_bd ha.1 hb.1) (mul_bd ha.dn hb.dn) (dd_ne a b)
theorem ratio_gcd (q : Rat) : Int.gcd q.num q.den = 1 := by
  have := q.reduced
  rw [Int.gcd, Int.natAbs_natCast]
  exact this
theorem foldl_add (l : List Rat) : ∀ a : Rat, l.foldl (· + ·) a = a + l.sum := by
  induction l with
  | nil => intro a; rw [List.foldl_nil, List.sum_nil, Rat.add_zero]
  | cons x r ih => intro a; rw [List.foldl_cons, ih, List.sum_cons, Rat.add_assoc]
theorem sum_rev (l : List Rat) : l.reverse.sum = l.sum := by
  induction l with
  | nil => rfl
  | cons x r ih => rw [List.reverse_cons, List.sum_append, ih, List.sum_cons, List.sum_cons, List.sum_nil, Rat.add_zero, Rat.add_comm]
theorem div_self' {a : Rat} (h : a ≠ 0) : a / a = 1 := by
  rw [Rat.div_def]
  exact Rat.mul_inv_cancel a h
end Fr

set_option Elab.async false
set_option linter.all false
set_option maxRecDepth 100000
set_option maxHeartbeats 2000000
namespace Co
open PySem PySem.Spec PyProof.Rows L2
open Fr (Bd)
/-! ### // by any number but nought -/
def CDivZ (_ j : Int) : Prop := j ≠ 0 ∧ j.natAbs.log2 < 9000
theorem op_fdivZ {X : Cx} : OpR X (binaryOp .FloorDiv) (rI CDivZ fun i j => .int (i.fdiv j)) := opI fun i j _ _ _ _ _ hc q => floordiv_int hc.1 q (.inl (PyProof.noPylong_of_log2 hc.2))
theorem divZ {i j : Int} {n : Nat} (h : j ≠ 0) (hb : j.natAbs < 2 ^ n) (h0 : 0 < n) (h9 : n ≤ 9000) : CDivZ i j := ⟨h, Nat.lt_of_lt_of_le (PySem.Flt.log2_lt_of h0 hb) h9⟩
theorem same_new {H : Hp} {p : Addr} (h : H p = none) (o : HO) : Same H (upd H p o) := fun b u q => by rw [upd_ne (ne_of_none q h)]; exact q
theorem seqT {K : PySem.W.Frag} {H H' : Hp} {a : Addr} {xs : List V} (e : Same H H') (h : SqT K H a xs) : SqT K H' a xs := by
  rcases h with (h | ⟨o, h⟩) | h
  · exact .inl (.inl (e _ _ h))
  · exact .inl (.inr ⟨o, e _ _ h⟩)
  · exact .inr h
/-- what stands in a fraction's tuple -/
def rp (q : Rat) : List V := [.int q.num, .int (q.den : Int)]
def spDiv : Sp := fun vs H Q _ => ∃ a b : Int, vs = [.int a, .int b] ∧ Q (.int (Int.gcd a b : Int)) H
def spLow : Sp := fun vs H Q _ => ∃ (t b : Int) (n : Nat), vs = [.int t, .int b] ∧ t.natAbs < 2 ^ n ∧ b.natAbs < 2 ^ n ∧ b ≠ 0 ∧ n ≤ 8950 ∧ ∀ p, H p = none → Q (.ref p) (upd H p (.tup (rp (Rat.divInt t b))))
theorem gcd_bd {t b : Int} {n : Nat} (h : b ≠ 0) (hb : b.natAbs < 2 ^ n) : (Int.gcd t b : Int).natAbs < 2 ^ n := by
  rw [Int.natAbs_natCast]
  exact Nat.lt_of_le_of_lt (Nat.le_of_dvd (by omega) (Int.gcd_dvd_natAbs_right t b)) hb
theorem wmul {i j : Int} {n m : Nat} (hi : i.natAbs < 2 ^ n) (hj : j.natAbs < 2 ^ m) (h : n + m ≤ 9000) : CMulW i j :=
  wide_mul (a := n + 1) (b := m + 1) (Fr.up hi (Nat.le_succ _)) (Fr.up hj (Nat.le_succ _)) (Nat.succ_pos _) (Nat.succ_pos _) (by omega)
theorem at0 (q : Rat) : atI (rp q) 0 = some (.int q.num) := atI_nat (j := 0) rfl
theorem at1 (q : Rat) : atI (rp q) 1 = some (.int (q.den : Int)) := atI_nat (j := 1) rfl
/-- a fraction made of two -/
def spBin (K : PySem.W.Frag) (g : Rat → Rat → Rat) : Sp := fun vs H Q _ => ∃ (a b : Addr) (x y : Rat) (n m : Nat), vs = [.ref a, .ref b] ∧ SqT K H a (rp x) ∧ SqT K H b (rp y) ∧ Bd n x ∧ Bd m y ∧ n + m ≤ 8900 ∧ ∀ p, H p = none → Q (.ref p) (upd H p (.tup (rp (g x y))))
def spUnder (K : PySem.W.Frag) : Sp := fun vs H Q _ => ∃ (a b : Addr) (x y : Rat) (n m : Nat), vs = [.ref a, .ref b] ∧ SqT K H a (rp x) ∧ SqT K H b (rp y) ∧ Bd n x ∧ Bd m y ∧ n + m ≤ 8900 ∧ Q (.bl (decide (x.num * y.den < y.num * x.den))) H
theorem abs_eq (x : Int) : (if x < 0 then -x else x) = (x.natAbs : Int) := by split <;> omega
theorem tyT {K : PySem.W.Frag} {H : Hp} {a : Addr} {xs : List V} (h : SqT K H a xs) : TyX K H (.ref a) (.type "tuple") := by
  rcases h with (h | ⟨o, h⟩) | ⟨o, its, n, e, c, _⟩
  · exact .base (.tup h)
  · exact .fTuple h
  · exact .kTuple e c
/-- what the module leaves of the built-in names -/
structure Blt (mg : Str → Option Value) : Prop where
  abs_ : mg "abs" = none
  isinstance_ : mg "isinstance" = none
  int_ : mg "int" = none
  bool_ : mg "bool" = none
  tuple_ : mg "tuple" = none
  list_ : mg "list" = none
  len_ : mg "len" = none
  range_ : mg "range" = none
  str_ : mg "str" = none
  repr_ : mg "repr" = none
  sum_ : mg "sum" = none
  all_ : mg "all" = none
  any_ : mg "any" = none
  enumerate_ : mg "enumerate" = none
  zip_ : mg "zip" = none
  min_ : mg "min" = none
  max_ : mg "max" = none
  sorted_ : mg "sorted" = none
  ValueError_ : mg "ValueError" = none
  ZeroDivisionError_ : mg "ZeroDivisionError" = none
  OverflowError_ : mg "OverflowError" = none
  IndexError_ : mg "IndexError" = none
  LookupError_ : mg "LookupError" = none
  ArithmeticError_ : mg "ArithmeticError" = none
  KeyError_ : mg "KeyError" = none
  RuntimeError_ : mg "RuntimeError" = none
/-- a list of fractions: its items, and what they are worth -/
structure FrL (K : PySem.W.Frag) (H : Hp) (refs : List V) (qs : List Rat) : Prop where
  len : refs.length = qs.length
  at_ : ∀ (i : Nat) (v : V), refs[i]? = some v → ∃ (a : Addr) (q : Rat), qs[i]? = some q ∧ v = .ref a ∧ SqT K H a (rp q) ∧ Bd 100 q
theorem FrL.keep {K : PySem.W.Frag} {H H' : Hp} {refs : List V} {qs : List Rat} (h : FrL K H refs qs) (k : ∀ a xs, SqT K H a xs → SqT K H' a xs) : FrL K H' refs qs :=
  ⟨h.len, fun i v e => let ⟨a, q, e1, e2, e3, e4⟩ := h.at_ i v e; ⟨a, q, e1, e2, k _ _ e3, e4⟩⟩
theorem FrL.same {K : PySem.W.Frag} {H H' : Hp} {refs : List V} {qs : List Rat} (h : FrL K H refs qs) (e : Same H H') : FrL K H' refs qs := h.keep fun _ _ => seqT e
theorem FrL.nil {K : PySem.W.Frag} {H : Hp} : FrL K H [] [] := ⟨rfl, fun i v e => by simp at e⟩
theorem FrL.snoc {K : PySem.W.Frag} {H : Hp} {refs : List V} {qs : List Rat} {a : Addr} {q : Rat} (h : FrL K H refs qs) (ha : SqT K H a (rp q)) (hb : Bd 100 q) : FrL K H (refs ++ [.ref a]) (qs ++ [q]) := by
  refine ⟨by rw [List.length_append, List.length_append, h.len]; rfl, fun i v e => ?_⟩
  by_cases hi : i < refs.length
  · rw [List.getElem?_append_left hi] at e
    obtain ⟨a', q', e1, e2, e3, e4⟩ := h.at_ i v e
    exact ⟨a', q', by rw [List.getElem?_append_left (by rw [← h.len]; exact hi)]; exact e1, e2, e3, e4⟩
  · rw [List.getElem?_append_right (by omega)] at e
    have e0 : i - refs.length = 0 := by
      cases z : i - refs.length with
      | zero => rfl
      | succ j => rw [z] at e; simp at e
    rw [e0] at e
    have ev : (V.ref a) = v := Option.some.inj e
    refine ⟨a, q, ?_, ev.symm, ha, hb⟩
    rw [List.getElem?_append_right (by rw [← h.len]; omega), ← h.len, e0]
    rfl
theorem keep_lst {K : PySem.W.Frag} {H : Hp} {l : Addr} {ys zs : List V} (hl : H l = some (.lst ys)) : ∀ a xs, SqT K H a xs → SqT K (upd H l (.lst zs)) a xs := fun a xs h => by
  rcases h with (h | ⟨o, h⟩) | h
  · exact .inl (.inl (by rw [upd_ne (ne_of h hl (by intro z; cases z))]; exact h))
  · exact .inl (.inr ⟨o, by rw [upd_ne (ne_of h hl (by intro z; cases z))]; exact h⟩)
  · exact .inr h
theorem sum_snoc {qs : List Rat} {i : Nat} {q : Rat} (h : qs[i]? = some q) : (qs.take (i + 1)).sum = (qs.take i).sum + q := by
  rw [List.take_add_one, h, List.sum_append]
  show _ + ([q] : List Rat).sum = _
  rw [List.sum_cons, List.sum_nil, Rat.add_zero]
def spLeft : Sp := fun vs H Q _ => ∃ c : Int, vs = [.int c] ∧ ∀ p n, H p = none → Q (.ref p) (upd H p (.lst [.int n]))
def spDigit : Sp := fun vs H Q _ => ∃ (l : Addr) (n m : Int), vs = [.ref l, .int m] ∧ H l = some (.lst [.int n]) ∧ 0 < m ∧ m.natAbs < 2 ^ 200 ∧ ∀ d n' : Int, 0 ≤ d → d < m → Q (.int d) (upd H l (.lst [.int n']))
theorem lt100 {i : Int} (h : i.natAbs ≤ 10 ^ 20) : i.natAbs < 2 ^ 100 := Nat.lt_of_le_of_lt h (by decide)
/-- a fraction as data -/
def dR (q : Rat) : PyData := .tuple [.int q.num, .int (q.den : Int)]
theorem dp_r {K : PySem.W.Frag} {H : Hp} {a : Addr} {q : Rat} (h : SqT K H a (rp q)) : Dp K H (.ref a) (dR q) := .tup h (.cons (.int _) (.cons (.int _) .nil))
theorem dR_lay (q : Rat) : (dR q).canLay0 = true := rfl
theorem dR_depth (q : Rat) : (dR q).depth = 1 := rfl
theorem dR_shaped (q : Rat) : SeqAt.shaped (dR q) = true := rfl
theorem FrL.dp {K : PySem.W.Frag} {H : Hp} : ∀ {refs : List V} {qs : List Rat}, FrL K H refs qs → DpAll K H refs (qs.map dR)
  | [], [], _ => .nil
  | [], _ :: _, h => by have := h.len; simp at this
  | _ :: _, [], h => by have := h.len; simp at this
  | v :: refs, q :: qs, h => by
    obtain ⟨a, q', e1, rfl, e3, _⟩ := h.at_ 0 v rfl
    have e : q = q' := Option.some.inj e1
    subst e
    refine .cons (dp_r e3) (FrL.dp ⟨by have := h.len; simpa using this, fun i v e => ?_⟩)
    exact h.at_ (i + 1) v e
theorem lays : ∀ qs : List Rat, PyData.canLayAll0 (qs.map dR) = true
  | [] => rfl
  | q :: qs => by
    show (PyData.canLay0 (dR q) && PyData.canLayAll0 (qs.map dR)) = true
    rw [lays qs]
    rfl
theorem deps : ∀ qs : List Rat, PyData.depthAll (qs.map dR) ≤ 1
  | [] => by decide
  | q :: qs => by
    have := deps qs
    show max (PyData.depth (dR q)) (PyData.depthAll (qs.map dR)) ≤ 1
    rw [dR_depth]
    omega
theorem list_lay (qs : List Rat) : (PyData.list (qs.map dR)).canLay0 = true := lays qs
theorem list_shaped (qs : List Rat) : SeqAt.shaped (.list (qs.map dR)) = true := by
  unfold SeqAt.shaped
  rw [list_lay, Bool.true_and]
  refine decide_eq_true ?_
  have := deps qs
  show PyData.depthAll (qs.map dR) + 1 ≤ 64
  omega
theorem FrL.rev {K : PySem.W.Frag} {H : Hp} {refs : List V} {qs : List Rat} (h : FrL K H refs qs) : FrL K H refs.reverse qs.reverse := by
  refine ⟨by rw [List.length_reverse, List.length_reverse, h.len], fun i v e => ?_⟩
  have hi : i < refs.length := by
    have := (List.getElem?_eq_some_iff.mp e).1
    rw [List.length_reverse] at this
    exact this
  rw [List.getElem?_reverse hi] at e
  obtain ⟨a, q, e1, e2, e3, e4⟩ := h.at_ _ v e
  refine ⟨a, q, ?_, e2, e3, e4⟩
  rw [List.getElem?_reverse (by rw [← h.len]; exact hi), ← h.len]
  exact e1
theorem cut_mem {xs : List V} {lo hi : Option Int} {x : V} (h : x ∈ cutV xs lo hi) : x ∈ xs := List.mem_of_mem_drop (List.mem_of_mem_take h)
theorem FrL.mem {K : PySem.W.Frag} {H : Hp} {refs : List V} {qs : List Rat} {v : V} (h : FrL K H refs qs) (hv : v ∈ refs) : ∃ (a : Addr) (q : Rat), v = .ref a ∧ SqT K H a (rp q) ∧ Bd 100 q := by
  obtain ⟨i, hi, e⟩ := List.getElem_of_mem hv
  obtain ⟨a, q, _, e2, e3, e4⟩ := h.at_ i v (by rw [List.getElem?_eq_getElem hi, e])
  exact ⟨a, q, e2, e3, e4⟩
theorem int_of {ns : List Int} {x : V} {lo hi : Option Int} {z : Int} {i : Nat} (h : (cutV (ns.map V.int) lo hi ++ [V.int z])[i]? = some x) : ∃ c : Int, x = .int c := by
  have hm := List.mem_of_getElem? h
  rcases List.mem_append.mp hm with hm | hm
  · obtain ⟨c, _, e⟩ := List.mem_map.mp (cut_mem hm)
    exact ⟨c, e.symm⟩
  · exact ⟨z, by simpa using hm⟩
/-- an error of the class at S is what «except S» names -/
theorem exm_self {K : PySem.W.Frag} {S : Addr} (h1 : PySem.W.subIn K (.ref S) (.type "BaseException") = some true) (h2 : PySem.W.isClsIn K S = true) (h3 : PySem.W.typeIn K (.ref S) = some (.type "type")) (h4 : PySem.W.subIn K (.ref S) (.ref S) = some true) :
    PySem.W.exmOne K (.ref S) (.ref S) = some true := by
  have e1 : (PySem.W.subIn K (.ref S) (.type "BaseException") == some true) = true := by rw [h1] <;> rfl
  have e2 : ((PySem.W.clsIn K S).isSome && PySem.W.typeIn K (.ref S) == some (.type "type")) = true := by
    have h2' : (PySem.W.clsIn K S).isSome = true := h2
    rw [h2', h3] <;> rfl
  show (if (PySem.W.subIn K (.ref S) (.type "BaseException") == some true) = true then (if ((PySem.W.clsIn K S).isSome && PySem.W.typeIn K (.ref S) == some (.type "type")) = true then PySem.W.subIn K (.ref S) (.ref S) else none) else none) = some true
  rw [if_pos e1, if_pos e2]
  exact h4
end Co

set_option Elab.async false
set_option linter.all false
set_option maxRecDepth 100000
set_option maxHeartbeats 4000000
namespace EXB
open PySem PySem.Spec PyProof.Rows L2
/-- what the written part says of an own error class over B -/
structure ExC (K : PySem.W.Frag) (C : Addr) (newId : String) (bmB : List Value) : Prop where
  cls : ∃ nm q N bs sn sub ab col dd k0 k1 k2 k3 k5, K.lookup C = some (excClassObj nm q C N bs bmB true sn sub ab col dd k0 k1 k2 k3 k5 newId)
  exC : PySem.W.subIn K (.ref C) (.type "BaseException") = some true
  tyC : PySem.W.typeIn K (.ref C) = some (.type "type")
  kC : PySem.W.keepIn K (.ref C) = true
section
variable {X : Cx} {pins : List (Addr × Obj)} {σ : L2.St} {H : Hp} {s : Shared} {a C : Addr} {A : Around} {E : Value → Shared → Prop} {B newId initId : String} {bmB : List Value}
/-- B.__init__(self, ..): nothing of it is told -/
theorem einit_ok {us : List Value} {Q : Value → Shared → Prop} (Fb : ExcBaseFacts B newId initId bmB) (T : ExC X.K C newId bmB) (I : Inv X pins σ H s) (e : H a = some (exo a C none)) (hl : us.length ≤ sizeLine) (h : ∀ s', Inv X pins σ H s' → Q .none s') :
    wpAny (model X.prog X.w) A (call (.builtin initId) (.ref a :: us)) Q E s := by
  obtain ⟨nm, q, N, bs, sn, sub, ab, col, dd, k0, k1, k2, k3, k5, hC⟩ := T.cls
  obtain ⟨t1, ho⟩ := exo_at I.hok e
  obtain ⟨hp, g, d, t, os⟩ := s
  refine wpAny_call (PySem.HandSPX.init_base Fb (fun Y => rfl) (I.kIn _ _ hC) ho hl fun h' t2 k hx => ?_)
  have J := I.write (t' := t) (x := a) (e := a) (o := exo a C none) (by rw [e]; exact True.intro) (.inl rfl) k ⟨_, hx⟩ (exo_ok hx)
  have eu : upd H a (exo a C none) = H := by
    funext b
    by_cases hb : b = a
    · rw [hb, upd_same, e]
    · rw [upd_ne hb]
  rw [eu] at J
  exact h _ J
end
def tExI (K : PySem.W.Frag) (newId : String) (bmB : List Value) (ta : TA) : TE := fun σ H Q => ta σ H fun vs H1 => ∃ (a C : Addr) (ws : List V), vs = .ref a :: ws ∧ ws.length ≤ 1000 ∧ ExC K C newId bmB ∧ H1 a = some (exo a C none) ∧ Q .non H1
section
variable {X : Cx} {e : Expr} {es : List Expr} {ta : TA} {p p1 p2 pos : Pos} {B newId initId : String} {bmB : List Value}
theorem typ_ZD : typeOf (.type "ZeroDivisionError") = pure (.type "type") := by kernel_rfl
theorem pe_zdinit {pl : Sem Bool} (hg : Gl X "ZeroDivisionError") (hm : X.mg "ZeroDivisionError" = none) (vV : PySem.W.findCls X.K (.type "ZeroDivisionError") (.type "type") "__init__" = some (.val (.builtin "ZeroDivisionError.__init__"))) (ha : PA X (e :: es) ta)
    (hc : eval (.Call (.Attribute (.Name "ZeroDivisionError" p1) "__init__" p2) (e :: es) [] pos) X.env = (do
      let ov ← eval (.Name "ZeroDivisionError" p1) X.env
      standAt p2.atName
      let (f, first) ← holding [ov] (getMethod ov "__init__" pl)
      callWith pos f first (backTo pos (starEach (e :: es) X.env)) (backToKw pos (keywordEach [] X.env))) := by rfl)
    (he : starEach (e :: es) X.env = (false, eval e X.env) :: starEach es X.env := by rfl) (hpl : (backTo pos (starEach es X.env)).any (·.1) = false := by rfl) :
    PE X (.Call (.Attribute (.Name "ZeroDivisionError" p1) "__init__" p2) (e :: es) [] pos) (tExI X.K "ZeroDivisionError.__new__" [.type "ZeroDivisionError", .type "ArithmeticError", .type "Exception", .type "BaseException", .type "object"] ta) := by
  refine ⟨fun pins s σ H Q I h => ?_⟩
  refine PySem.W.methodCall_KW (ld_blt I hg hm PyProof.Rows.Boot.«ZeroDivisionError» ?_ (by decide) (by decide)) hc
  obtain ⟨m, fr⟩ := I.fr
  refine PySem.W.method_type fr I.ok.mod.kin typ_ZD (by decide +kernel) vV (by decide +kernel) ?_
  show wpAny _ _ (callWith pos (Value.builtin "ZeroDivisionError.__init__") [] (backTo pos (starEach (e :: es) X.env)) []) _ _ _
  refine PyProof.Rows.callWith_method1 (thn (ha.run pos pins _ σ H _ (I.tok _) h) fun us s1 ⟨vs, H1, I1, r1, a, C, ws, ev, hl, T, ea, q⟩ => ?_) he hpl
  subst ev
  cases r1 with
  | @cons _ u0 _ ur ra rw' =>
    obtain rfl : u0 = Value.ref a := ra
    have hlen : ur.length ≤ sizeLine := by
      rw [← Paired.length rw', sizeLine_eq]
      omega
    exact einit_ok PySem.F.excBase_ZeroDivisionError T I1 ea hlen fun s' J => ⟨.non, H1, J, rfl, q⟩
/-- the end of C(..), no field: the exception is let go -/
theorem mk_endN {pins : List (Addr × Obj)} {σ : L2.St} {H1 H2 : Hp} {Q : XK} {hp hp2 h2 : Heap} {g1 g2 : Array GenState} {d1 d2 : Drawn} {t1 t2 : Nat} {os1 os2 : OsState} {a C : Addr} (T : Raises X (.ref C)) (I1 : Inv X pins σ H1 ⟨hp, g1, d1, t1, os1⟩)
    (ha : hp.objs.size ≤ a) (k : ∀ b o, hp.get? b = some o → hp2.get? b = some o) (un : Un (frs X.stack) [] (upd H1 a (exo a C none)) H2 hp2 h2) (hok : HOk X.prog X.w H2 h2) (ho : os2 = os1) (hb : AllBare g2)
    (ea : H2 a = some (exo a C none)) (q : Q (.ref C) none (del H2 a)) : MkP X pins σ Q (.ref a) ⟨h2, g2, d2, t2, os2⟩ := by
  obtain ⟨t0, hoe⟩ := exo_at hok ea
  have hn : H1 a = none := I1.hok.fresh ha
  obtain ⟨G, g1', g2'⟩ := restrict h2 fun b => decide (b ≠ a)
  have gk : ∀ b, b ≠ a → G.get? b = h2.get? b := fun b hb => g1' b (decide_eq_true hb)
  have ge : G.get? a = none := g2' a (by simp)
  have nha : ∀ {b : Addr} {o : Obj}, hp.get? b = some o → b ≠ a := fun {b o} z => Nat.ne_of_lt (Nat.lt_of_lt_of_le (Heap.lt_size z) ha)
  have up : ∀ {b : Addr}, b ≠ a → H1 b = none → upd H1 a (exo a C none) b = none := fun {b} hb n => by rw [upd_ne hb]; exact n
  have U : Un (frs X.stack) [] H1 (del H2 a) hp G := {
    keep := fun b o z n hf hx => by
      rw [gk b (nha z)]
      exact un.keep b o (k b o z) (up (nha z) n) hf hx
    slot := fun b o z n hf hx => by
      rw [gk b (nha z)]
      exact un.slot b o (k b o z) (up (nha z) n) hf hx
    free := fun b o z n hx => by
      rw [del_ne (nha z)]
      exact un.free b o (k b o z) (up (nha z) n) hx
    there := fun b o z hx => by
      rw [gk b (nha z)]
      exact un.there b o (k b o z) hx
    tups := fun b xs z => by
      rw [del_ne (ne_of_none z hn)]
      exact un.tups b xs (by rw [upd_ne (ne_of_none z hn)]; exact z)
    frzs := fun b o v z => by
      rw [del_ne (ne_of_none z hn)]
      exact un.frzs b o v (by rw [upd_ne (ne_of_none z hn)]; exact z)
    tbls := fun b ps z => by
      rw [del_ne (ne_of_none z hn)]
      exact un.tbls b ps (by rw [upd_ne (ne_of_none z hn)]; exact z) }
  have hok3 : HOk X.prog X.w (del H2 a) G := fun b o z => by
    have hba : b ≠ a := fun e => by
      rw [e, del_same] at z
      cases z
    rw [del_ne hba] at z
    have noa : ∀ {c : Addr}, H2 c = some (.own b) → c ≠ a := fun {c} hc => at_ne ea hc exo_own
    exact (hok b o z).stay (fun c v hc y => by
        have hca : c ≠ a := by
          rcases hc with hc | hc
          · rw [hc]
            exact hba
          · exact noa hc
        rw [gk c hca]
        exact y)
      (fun c hc => by rw [del_ne (noa hc)]; exact hc) (fun c xs hc => by rw [del_ne (at_ne ea hc exo_tup)]; exact hc)
  have J : Inv X pins σ (del H2 a) ⟨G, g2, d2, t2, os2⟩ := I1.call' (ch := []) ho U hok3 hb (fun b z => absurd z (by simp))
  refine ⟨a, _, _, ⟨G, g2, d2, t2, os2⟩, _, .ref C, none, rfl, J, fun b o z => ?_, ge, hoe, ⟨rfl, rfl⟩, rfl, rfl, del_same, rfl, hb, T, q⟩
  by_cases hba : b = a
  · have z' : G.get? b = some o := z
    rw [hba, ge] at z'
    cases z'
  · exact (gk b hba).symm.trans z
/-- the promise of an __init__ that makes no field -/
def spEi (C : Addr) : Sp := fun vs H Q _ => ∃ a, vs = [.ref a] ∧ H a = some (exo a C none) ∧ Q .non H
/-- C(), C's __init__ making no field -/
theorem pmk_exN {x : Str} {C fI : Addr} {k : Nat} {fd : FuncData} {ps : List Str} (Fb : ExcBaseFacts B newId initId bmB) (T : ExC X.K C newId bmB) (iC : PySem.W.findIn X.K (.ref C) "__init__" = some (some (.ref fI))) (tI : PySem.W.typeIn X.K (.ref fI) = some (.type "function"))
    (F1 : FnOk X.prog X.w X.K X.mg X.base CX0 k fI fd ps (spEi C)) (hr : Room (k + 1) X.A) (hb : Binds X.K fd ps []) (hg : Gl X x) (hm : X.mg x = some (.ref C))
    (hdb : (x == ("__debug__" : Str)) = false := by decide) :
    PMk X (.Call (.Name x p) [] [] pos) (fun _ H Q => Q (.ref C) none H) := by
  intro pins s σ H Q I h
  obtain ⟨nm, q, N, bs, sn, sub, ab, col, dd, k0, k1, k2, k3, k5, hC⟩ := T.cls
  refine wpAny_Call_Name_kw (ld_glob I hg hm ?_ hdb)
  refine PySem.W.callWith_K0 I.kIn T.kC ?_
  show wpAny _ _ (call (.ref C) []) _ _ _
  obtain ⟨hp, g, dr, tk, os⟩ := s
  have hsz : hp.objs.size ≤ hp.objs.size + 1 := Nat.le_succ _
  have hn : H (hp.objs.size + 1) = none := I.hok.fresh hsz
  have kk : ∀ b o, hp.get? b = some o → ((hp.push (PySem.W.kdv_tup [])).push (PySem.HandSPX.excO C hp.objs.size)).get? b = some o := fun b o e => Heap.get?_push_of_some _ (Heap.get?_push_of_some _ e)
  have hget : ((hp.push (PySem.W.kdv_tup [])).push (PySem.HandSPX.excO C hp.objs.size)).get? (hp.objs.size + 1) = some (PySem.HandSPX.excO C hp.objs.size) := by heap_get
  have I2 : Inv X pins σ (upd H (hp.objs.size + 1) (exo (hp.objs.size + 1) C none)) ⟨(hp.push (PySem.W.kdv_tup [])).push (PySem.HandSPX.excO C hp.objs.size), g, dr, tk, os⟩ :=
    I.laid (t' := tk) (a := hp.objs.size + 1) (o := exo (hp.objs.size + 1) C none) (h' := (hp.push (PySem.W.kdv_tup [])).push (PySem.HandSPX.excO C hp.objs.size)) kk hsz (exo_ok hget)
  have r2 : Vals [V.ref (hp.objs.size + 1)] [Value.ref (hp.objs.size + 1)] := .cons rfl .nil
  have hq : spEi C [V.ref (hp.objs.size + 1)] (upd H (hp.objs.size + 1) (exo (hp.objs.size + 1) C none)) (fun v H2 => v = .non ∧ H2 = upd H (hp.objs.size + 1) (exo (hp.objs.size + 1) C none)) (fun _ _ _ => False) :=
    ⟨_, rfl, upd_same, rfl, rfl⟩
  have hl : ([Value.ref (hp.objs.size + 1)] ++ []).length = ps.length := by
    have e := r2.length
    rw [F1.len _ _ _ _ hq] at e
    exact e.symm
  refine wpAny_call (PySem.HandSPX.call_own Fb (fun Y => rfl) (I.kIn _ _ hC) (PySem.W.looks_findIn I.kIn iC) (fun self => PySem.W.bind_fn I.kIn self tI) (Nat.zero_le _)
    (codeAny_mono (F1.run _ X.stack _ _ ⟨[Value.ref (hp.objs.size + 1)], []⟩ [Value.ref (hp.objs.size + 1)] _ _ (fun _ _ _ => False) (hr.make C [] []) (I2.env0.make C [] []) (hb _ [Value.ref (hp.objs.size + 1)] I2.kIn hl) r2 hq) fun r s' hq' => ?_))
  cases r with
  | error er => exact False.elim hq'
  | ok fl =>
    cases fl with
    | ret u =>
      obtain ⟨v, H2, os2, bare2, un2, hok2, rv, ev, eH⟩ := hq'
      subst ev
      subst eH
      obtain ⟨h2, g2, d2, t2, os'⟩ := s'
      refine ⟨rv, mk_endN (raises_own T.exC T.tyC) I hsz kk un2 hok2 os2 bare2 upd_same ?_⟩
      have eD : del (upd H (hp.objs.size + 1) (exo (hp.objs.size + 1) C none)) (hp.objs.size + 1) = H := by
        funext b
        by_cases hb : b = hp.objs.size + 1
        · rw [hb, del_same]
          exact hn.symm
        · rw [del_ne hb, upd_ne hb]
      rw [eD]
      exact h
    | next => exact False.elim hq'
    | brk => exact False.elim hq'
    | cont => exact False.elim hq'
end
/-! ### an own error over ValueError with one field -/
/-- the promise of an __init__ that makes the field f -/
def spE1 (C : Addr) (f : Str) : Sp := fun vs H Q _ => ∃ a v, vs = [.ref a, v] ∧ H a = some (exo a C none) ∧ ∀ dx, H dx = none → dx ≠ a → Q .non (upd (upd H dx (exd dx [(f, v)])) a (exo a C (some dx)))
/-- the same of two fields -/
def spE2 (C : Addr) (f g : Str) : Sp := fun vs H Q _ => ∃ a v u, vs = [.ref a, v, u] ∧ H a = some (exo a C none) ∧ ∀ dx, H dx = none → dx ≠ a → Q .non (upd (upd H dx (exd dx [(g, u), (f, v)])) a (exo a C (some dx)))
theorem heap_out {H : Hp} {a dx C : Addr} {fs : List (Str × V)} (ha : H a = none) (hd : dx ≠ a) : upd (del (upd (upd (upd H a (exo a C none)) dx (exd dx fs)) a (exo a C (some dx))) a) dx (.xd fs) = upd H dx (.xd fs) := by
  funext b
  by_cases h1 : b = dx
  · rw [h1, upd_same, upd_same]
  · rw [upd_ne h1, upd_ne h1]
    by_cases h2 : b = a
    · rw [h2, del_same, ha]
    · rw [del_ne h2, upd_ne h2, upd_ne h1, upd_ne h2]
theorem mk1 {C : Addr} {f : Str} {H : Hp} {v : V} {Q : XK} (h : ∀ dx, H dx = none → Q (.ref C) (some dx) (upd H dx (.xd [(f, v)]))) :
    [v].length ≤ 1000 ∧ ∀ a, H a = none → spE1 C f (.ref a :: ([v] ++ [])) (upd H a (exo a C none)) (fun v H2 => v = .non ∧ ∃ (d : Addr) (fs : List (Str × V)), H2 a = some (exo a C (some d)) ∧ H2 d = some (exd d fs) ∧ H d = none ∧ Q (.ref C) (some d) (upd (del H2 a) d (.xd fs))) (fun _ _ _ => False) := by
  refine ⟨by show 1 ≤ 1000; decide, fun a ha => ⟨a, v, rfl, upd_same, fun dx hdx hne => ?_⟩⟩
  have h0 : H dx = none := by rw [upd_ne hne] at hdx; exact hdx
  refine ⟨rfl, dx, [(f, v)], upd_same, by rw [upd_ne hne, upd_same], h0, ?_⟩
  rw [heap_out ha hne]
  exact h dx h0
theorem mk2 {C : Addr} {f g : Str} {H : Hp} {v u : V} {Q : XK} (h : ∀ dx, H dx = none → Q (.ref C) (some dx) (upd H dx (.xd [(g, u), (f, v)]))) :
    [v, u].length ≤ 1000 ∧ ∀ a, H a = none → spE2 C f g (.ref a :: ([v, u] ++ [])) (upd H a (exo a C none)) (fun v H2 => v = .non ∧ ∃ (d : Addr) (fs : List (Str × V)), H2 a = some (exo a C (some d)) ∧ H2 d = some (exd d fs) ∧ H d = none ∧ Q (.ref C) (some d) (upd (del H2 a) d (.xd fs))) (fun _ _ _ => False) := by
  refine ⟨by show 2 ≤ 1000; decide, fun a ha => ⟨a, v, u, rfl, upd_same, fun dx hdx hne => ?_⟩⟩
  have h0 : H dx = none := by rw [upd_ne hne] at hdx; exact hdx
  refine ⟨rfl, dx, [(g, u), (f, v)], upd_same, by rw [upd_ne hne, upd_same], h0, ?_⟩
  rw [heap_out ha hne]
  exact h dx h0
end EXB

set_option Elab.async false
set_option linter.all false
set_option maxRecDepth 100000
set_option maxHeartbeats 4000000
namespace BX
open PySem PySem.Spec PyProof.Rows L2
section
variable {X : Cx} {CX : CXT} {k : Nat} {f : Addr} {fd : FuncData} {ps ks : List Str} {sp : Sp} {E : L2.St → XK} {x : Str} {p pos : Pos} {e : Expr} {es : List Expr} {kws : List Keyword} {t tk : TA} {ds : List Value} {dvs : List V}
/-- a call with any arguments, what it raises being wished for at the caller's slots -/
theorem run_any {pins : List (Addr × Obj)} {σ : L2.St} {H : Hp} {s : Shared} {Q : VK} {us bs : List Value} {kw : List (Str × Value)} {vs : List V} (F : FnOkG X.prog X.w X.K X.mg X.base CX k f fd ps sp) (hr : Room k X.A) (hgd : X.A.guards = some []) (hx : PassesAt CX X σ (E σ))
    (I : Inv X pins σ H s) (hb : BindsTo s fd ⟨us, kw⟩ (ps.zip bs)) (r : Vals vs bs) (h : sp vs H Q (E σ)) : wpAny (model X.prog X.w) X.A (call (.ref f) us kw) (EP X pins σ Q) X.xe s := by
  refine wpAny_call (codeAny_mono (F.run X.A X.stack s H ⟨us, kw⟩ bs vs Q (E σ) hr hgd I.env0 hb r h) fun r s' hq => ?_)
  cases r with
  | error e => exact hx pins H s e s' I hq
  | ok fl =>
    cases fl with
    | ret u => exact I.after hq
    | next => exact False.elim hq
    | brk => exact False.elim hq
    | cont => exact False.elim hq
def tCallD (sp : Sp) (dvs : List V) (E : L2.St → XK) (t : TA) : TE := fun σ H Q => t σ H fun vs H1 => sp (vs ++ dvs) H1 Q (E σ)
/-- f(e, ..), the defaults behind them -/
theorem pe_callD (F : FnOkG X.prog X.w X.K X.mg X.base CX k f fd ps sp) (hr : Room k X.A) (hgd : X.A.guards = some []) (hg : Gl X x) (hm : X.mg x = some (.ref f)) (hk : PySem.W.keepIn X.K (.ref f) = true) (hb : Binds X.K fd ps ds) (hd : Vals dvs ds) (hx : ∀ σ, PassesAt CX X σ (E σ))
    (ha : PA X (e :: es) t) (hdb : (x == ("__debug__" : Str)) = false := by decide) (he : starEach (e :: es) X.env = (false, eval e X.env) :: starEach es X.env := by rfl) (hpl : (backTo pos (starEach es X.env)).any (·.1) = false := by rfl) :
    PE X (.Call (.Name x p) (e :: es) [] pos) (tCallD sp dvs E t) := by
  refine ⟨fun pins s σ H Q I h => ?_⟩
  refine wpAny_Call_Name_kw (ld_glob I hg hm ?_ hdb)
  refine PySem.W.callWith_K (h₀ := X.base) I.ok.mod.kin hk (thn (ha.run pos pins s σ H _ I h) fun us s1 ⟨vs, H1, I1, r, q⟩ => ⟨I1.kIn, ?_⟩) he hpl
  have r2 : Vals (vs ++ dvs) (us ++ ds) := r.append hd
  exact run_any F hr hgd (hx σ) I1 (hb s1 us I1.kIn (by rw [← r2.length]; exact F.len _ _ _ _ q)) r2 q
def tCallW (sp : Sp) (E : L2.St → XK) (tk : TA) : TE := fun σ H Q => tk σ H fun zs H1 => sp zs H1 Q (E σ)
/-- f(k = v, ..), all parameters by their names, in their order -/
theorem pe_callW (F : FnOkG X.prog X.w X.K X.mg X.base CX k f fd ps sp) (hr : Room k X.A) (hgd : X.A.guards = some []) (hg : Gl X x) (hm : X.mg x = some (.ref f)) (hk : PySem.W.keepIn X.K (.ref f) = true)
    (hb : ∀ (s : Shared) (ws : List Value), X.K.In s.heap → ws.length = ps.length → BindsTo s fd ⟨[], ps.zip ws⟩ (ps.zip ws)) (hx : ∀ σ, PassesAt CX X σ (E σ))
    (hkw : PK X kws tk) (hall : (backToKw pos (keywordEach kws X.env)).all (·.1.isSome) = true := by rfl) (hks : (backToKw pos (keywordEach kws X.env)).filterMap (·.1) = ps := by rfl)
    (hdb : (x == ("__debug__" : Str)) = false := by decide) (hpl : ((backTo pos (starEach [] X.env)).any (·.1) || (backToKw pos (keywordEach kws X.env)).any (·.1.isNone)) = false := by rfl) :
    PE X (.Call (.Name x p) [] kws pos) (tCallW sp E tk) := by
  refine ⟨fun pins s σ H Q I h => ?_⟩
  refine wpAny_Call_Name_kw (ld_glob I hg hm ?_ hdb)
  refine PySem.W.callWith_KW0 (h₀ := X.base) I.ok.mod.kin hk hall (thn (hkw.run pos pins s σ H _ I h) fun ws s2 ⟨zs, H2, I2, rz, q2⟩ => ⟨I2.kIn, ?_⟩) hpl
  rw [hks]
  exact run_any F hr hgd (hx σ) I2 (hb s2 ws I2.kIn (by rw [← rz.length]; exact F.len _ _ _ _ q2)) rz q2
end
end BX

set_option Elab.async false
set_option linter.all false
set_option maxRecDepth 100000
set_option maxHeartbeats 4000000
namespace BX
open PySem PySem.Spec PyProof.Rows L2
/-- the law's call, of a promise that holds where nothing is being shown -/
theorem law_callG {P : Program} {w : World} {K : PySem.W.Frag} {mg mb : Str → Option Value} {CX : CXT} {k : Nat} {fa a : Addr} {fd : FuncData} {x : Str} {sp : Sp} {s₁ : Shared} {vs : List Value} {ns : List Int}
    (KX : K.In s₁.heap) (hns : s₁.heap.Ns mainGlobals mg) (hb : s₁.heap.Ns builtinsNs mb) (hbb : ∀ x : Str, x ≠ "__name__" → mb x = bootBuiltins x) (hlim : s₁.heap.NoLimit) (hg : s₁.gens = #[])
    (ha : s₁.heap.get? a = some { cls := .type "list", data := .seq vs.toArray }) (hi : IntsAre vs ns) (hl : ns.length ≤ sizeLine) (hr : Room k callerA)
    (F : ∀ base : Heap, K.In base → base.Ns mainGlobals mg → FnOkG P w K mg base CX k fa fd [x] sp) (hbind : ∀ (s : Shared) (u : Value), BindsTo s fd ⟨[u], []⟩ [(x, u)])
    (hsp : ∀ H : Hp, Only H → SqL K H a (ns.map V.int) → sp [.ref a] H (fun v _ => v = .bl true) fun _ _ _ => False)
    (hCX : ∀ H e s', CX [] H s₁ (fun _ _ _ => False) e s' → False) :
    codeAny (model P w) callerA (.call (.ref fa) ⟨[.ref a], []⟩) (fun r s' => r = .ok (.ret (.bool true)) ∧ OldK s₁.heap s'.heap ∧ s'.os = s₁.os ∧ AllBare s'.gens) s₁ := by
  have rv := vals_ints hi
  have lenV := hi.length
  have core : ∀ H : Hp, Only H → SqL K H a (ns.map V.int) → HOk P w H s₁.heap → (∀ b, H b ≠ none → b = a) → (H a ≠ none → K.lookup a = none) →
      codeAny (model P w) callerA (.call (.ref fa) ⟨[.ref a], []⟩) (fun r s' => r = .ok (.ret (.bool true)) ∧ OldK s₁.heap s'.heap ∧ s'.os = s₁.os ∧ AllBare s'.gens) s₁ := by
    intro H hO hS hok hA hK
    have noA : ∀ {b : Addr} {o : Obj} {es : Array DictEntry} {ep : Nat}, s₁.heap.get? b = some o → o.data = .dict es ep → H b = none := fun {b o es ep} e dd => by
      cases q : H b with
      | none => rfl
      | some u =>
        have e' : b = a := hA b (by rw [q]; simp)
        rw [e', ha] at e
        cases e
        cases dd
    have nsK : ∀ {b : Addr} {m : Str → Option Value}, s₁.heap.Ns b m → (hidT s₁.heap H).Ns b m := fun {b m} ⟨o, es, ep, e, dd, r⟩ => ⟨o, es, ep, hidT_get e (noA e dd), dd, r⟩
    have hKb : K.In (hidT s₁.heap H) := fun b o e => hidT_get (KX b o e) (by
      cases q : H b with
      | none => rfl
      | some u =>
        have e' : b = a := hA b (by rw [q]; simp)
        rw [e'] at e q
        rw [hK (by rw [q]; simp)] at e
        cases e)
    have hM : Mod K mg (hidT s₁.heap H) := ⟨hKb, nsK hns, ⟨mb, nsK hb, hbb⟩, let ⟨mc, h1, h2⟩ := hlim; ⟨mc, nsK h1, h2⟩⟩
    have e0 : Env0 P w K mg (hidT s₁.heap H) callerA [] s₁ H := ⟨rfl, hM, fun b o e => of_hidT e, Nat.le_of_eq (hidT_size _ _), trivial, fun b hb => absurd (show b ∈ ([] : List Addr) from hb) (by simp), hok, .of_eq hg⟩
    refine codeAny_mono ((F _ hKb (nsK hns)).run callerA [] s₁ H ⟨[.ref a], []⟩ [.ref a] [.ref a] _ _ hr rfl e0 (hbind s₁ (.ref a)) (.cons rfl .nil) (hsp H hO hS)) fun r s' h => ?_
    cases r with
    | error e => exact (hCX H e s' h).elim
    | ok fl =>
      cases fl with
      | next => exact False.elim h
      | brk => exact False.elim h
      | cont => exact False.elim h
      | ret u =>
        obtain ⟨v, H', os, bare, un, hok', r', q⟩ := h
        have q' : v = .bl true := q
        subst q'
        obtain rfl : u = Value.bool true := r'
        refine ⟨rfl, OldK.of_keep fun b o e => ?_, os, bare⟩
        cases q : H b with
        | none => exact un.keep b o e q (by intro z; exact absurd (show b ∈ ([] : List Addr) from z) (by simp)) (by simp)
        | some u =>
          rcases hO b with z | ⟨ob, xs, z⟩
          · rw [q] at z; cases z
          · obtain ⟨e1, _⟩ := hok b _ z
            obtain ⟨e2, _⟩ := hok' b _ (un.frzs b ob _ z)
            rw [e] at e1; cases e1
            exact e2
  cases hk : K.lookup a with
  | some o =>
    have e := KX a o hk
    rw [ha] at e
    cases e
    refine core (fun _ => none) (fun _ => .inl rfl) (.inr ⟨_, vs.toArray, _, hk, rfl, rfl, rfl, by rw [List.size_toArray, lenV]; exact hl, by simpa using rv⟩) (fun b u z => by have z' : (none : Option HO) = some u := z; cases z') (fun b z => absurd rfl z) fun z => absurd rfl z
  | none =>
    refine core (fun b => if b = a then some (.frz { cls := .type "list", data := .seq vs.toArray } (.lst (ns.map V.int))) else none) (fun b => ?_) (.inl (.inr ⟨{ cls := .type "list", data := .seq vs.toArray }, if_pos rfl⟩)) (fun b u z => ?_) (fun b z => ?_) fun _ => hk
    · by_cases hb : b = a
      · exact .inr ⟨_, _, if_pos hb⟩
      · exact .inl (if_neg hb)
    · by_cases hb : b = a
      · have z' := (if_pos hb).symm.trans z
        cases z'
        subst hb
        exact ⟨ha, by rw [List.length_map]; exact hl, vs, _, rv, ha⟩
      · have z' := (if_neg hb).symm.trans z
        cases z'
    · by_cases hb : b = a
      · exact hb
      · exact absurd (if_neg hb) z
theorem walk_ofG {l : PySem.W.OpenLaw} {n k : Nat} {q : Program} {loose : List Str} {XP : (Str → Option Value) → Heap → Prop} {YP : World → Heap → Prop} {d : DefRec} {K : Params → PySem.W.Frag} {CX : World → CXT} {sp : World → Sp} {x : Str}
    (hn : l.most = some n) (hn2 : n ≤ sizeLine) (hdf : d.params.defaults = []) (hr : Room k callerA) (hY : ∀ (w : World) (h : Heap), YP w h → (K w.params).In h)
    (F : ∀ (w : World) (mg : Str → Option Value) (fa : Addr) (h : Heap), (K w.params).In h → h.Ns mainGlobals mg → mg d.name = some (.ref fa) →
      ∃ fd : FuncData, (∀ (s : Shared) (u : Value), BindsTo s fd ⟨[u], []⟩ [(x, u)]) ∧
        ∀ base : Heap, (K w.params).In base → base.Ns mainGlobals mg → FnOkG l.prog w (K w.params) mg base (CX w) k fa fd [x] (sp w))
    (hsp : ∀ (w : World) (H : Hp) (a : Addr) (ns : List Int), ns.length ≤ n → Only H → SqL (K w.params) H a (ns.map V.int) → sp w [.ref a] H (fun v _ => v = .bl true) fun _ _ _ => False)
    (hCX : ∀ (w : World) (H : Hp) (s : Shared) (e : Value) (s' : Shared), CX w [] H s (fun _ _ _ => False) e s' → False) :
    PySem.W.WalkO q loose XP YP l.row.toRowW d [] (fun f vs => PySem.call f vs) := by
  refine Att.attach_call hn hdf fun w s₀ s₁ mg mb fa o pm cd doc a vs ns G Y ho hd hcd hmg hobj hints hlen hg => ?_
  have KX := hY w _ Y
  obtain ⟨fd, hb, hF⟩ := F w mg fa _ KX G.T.g hmg
  exact law_callG KX G.T.g G.T.b G.T.builtins G.T.nolimit hg hobj hints (Nat.le_trans hlen hn2) hr hF hb (fun H hO hS => hsp w H a ns hlen hO hS) fun H e s' => hCX w H s₁ e s'
end BX

set_option Elab.async false
set_option linter.all false
set_option maxRecDepth 100000
set_option maxHeartbeats 4000000
namespace Ru
open PySem PySem.Spec PyProof.Rows L2 BX EXB Co
open Fr (Bd)
/-! ### rows of fractions -/
/-- cells and what they are worth, below 2 ^ n -/
structure FrN (K : PySem.W.Frag) (H : Hp) (n : Nat) (cs : List V) (qs : List Rat) : Prop where
  len : cs.length = qs.length
  at_ : ∀ (i : Nat) (v : V), cs[i]? = some v → ∃ (a : Addr) (q : Rat), qs[i]? = some q ∧ v = .ref a ∧ SqT K H a (rp q) ∧ Bd n q
section
variable {K : PySem.W.Frag} {H H' : Hp} {n : Nat} {cs : List V} {qs : List Rat}
theorem FrN.keep (h : FrN K H n cs qs) (k : ∀ a xs, SqT K H a xs → SqT K H' a xs) : FrN K H' n cs qs :=
  ⟨h.len, fun i v e => let ⟨a, q, e1, e2, e3, e4⟩ := h.at_ i v e; ⟨a, q, e1, e2, k _ _ e3, e4⟩⟩
theorem FrN.same (h : FrN K H n cs qs) (e : Same H H') : FrN K H' n cs qs := h.keep fun _ _ => seqT e
theorem FrN.mono {m : Nat} (h : FrN K H n cs qs) (l : n ≤ m) : FrN K H m cs qs :=
  ⟨h.len, fun i v e => let ⟨a, q, e1, e2, e3, e4⟩ := h.at_ i v e; ⟨a, q, e1, e2, e3, e4.mono l⟩⟩
theorem FrN.nil : FrN K H n [] [] := ⟨rfl, fun i v e => by simp at e⟩
theorem FrN.snoc {a : Addr} {q : Rat} (h : FrN K H n cs qs) (ha : SqT K H a (rp q)) (hb : Bd n q) : FrN K H n (cs ++ [.ref a]) (qs ++ [q]) := by
  refine ⟨by rw [List.length_append, List.length_append, h.len]; rfl, fun i v e => ?_⟩
  by_cases hi : i < cs.length
  · rw [List.getElem?_append_left hi] at e
    obtain ⟨a', q', e1, e2, e3, e4⟩ := h.at_ i v e
    exact ⟨a', q', by rw [List.getElem?_append_left (by rw [← h.len]; exact hi)]; exact e1, e2, e3, e4⟩
  · rw [List.getElem?_append_right (by omega)] at e
    have e0 : i - cs.length = 0 := by
      cases z : i - cs.length with
      | zero => rfl
      | succ j => rw [z] at e; simp at e
    rw [e0] at e
    have ev : (V.ref a) = v := Option.some.inj e
    refine ⟨a, q, ?_, ev.symm, ha, hb⟩
    rw [List.getElem?_append_right (by rw [← h.len]; omega), ← h.len, e0]
    rfl
theorem FrN.set {a : Addr} {q : Rat} {j : Nat} (h : FrN K H n cs qs) (ha : SqT K H a (rp q)) (hb : Bd n q) : FrN K H n (cs.set j (.ref a)) (qs.set j q) := by
  refine ⟨by rw [List.length_set, List.length_set, h.len], fun i v e => ?_⟩
  by_cases hij : j = i
  · subst hij
    have hj : j < cs.length := by
      have := (List.getElem?_eq_some_iff.mp e).1
      rw [List.length_set] at this
      exact this
    rw [List.getElem?_set_self hj] at e
    exact ⟨a, q, List.getElem?_set_self (by rw [← h.len]; exact hj), (Option.some.inj e).symm, ha, hb⟩
  · rw [List.getElem?_set_ne hij] at e
    obtain ⟨a', q', e1, e2, e3, e4⟩ := h.at_ i v e
    exact ⟨a', q', by rw [List.getElem?_set_ne hij]; exact e1, e2, e3, e4⟩
theorem FrN.dp : ∀ {cs : List V} {qs : List Rat}, FrN K H n cs qs → DpAll K H cs (qs.map dR)
  | [], [], _ => .nil
  | [], _ :: _, h => by have := h.len; simp at this
  | _ :: _, [], h => by have := h.len; simp at this
  | v :: cs, q :: qs, h => by
    obtain ⟨a, q', e1, rfl, e3, _⟩ := h.at_ 0 v rfl
    have e : q = q' := Option.some.inj e1
    subst e
    exact .cons (dp_r e3) (FrN.dp ⟨by have := h.len; simpa using this, fun i v e => h.at_ (i + 1) v e⟩)
end
/-- all but ex stays -/
def SameB (ex : Addr) (H H' : Hp) : Prop := ∀ b o, b ≠ ex → H b = some o → H' b = some o
theorem SameB.of {ex : Addr} {H H' : Hp} (h : Same H H') : SameB ex H H' := fun b o _ e => h b o e
theorem SameB.trans {ex : Addr} {H H1 H2 : Hp} (a : SameB ex H H1) (b : SameB ex H1 H2) : SameB ex H H2 := fun c o hc h => b c o hc (a c o hc h)
theorem SameB.upd {ex : Addr} {H : Hp} {o : HO} : SameB ex H (upd H ex o) := fun b u hb e => by rw [upd_ne hb]; exact e
theorem SameB.tup {K : PySem.W.Frag} {ex : Addr} {H H' : Hp} {ys : List V} (h : SameB ex H H') (hx : H ex = some (.lst ys)) : ∀ a xs, SqT K H a xs → SqT K H' a xs := fun a xs z => by
  rcases z with (z | ⟨o, z⟩) | z
  · exact .inl (.inl (h _ _ (ne_of z hx (by intro w; cases w)) z))
  · exact .inl (.inr ⟨o, h _ _ (ne_of z hx (by intro w; cases w)) z⟩)
  · exact .inr z
/-- what stands in the rows rs is worth rss -/
def RowsAt (K : PySem.W.Frag) (H : Hp) (n : Nat) (rs : List Addr) (rss : List (List Rat)) : Prop := rs.length = rss.length ∧ ∀ (j : Nat) (r : Addr), rs[j]? = some r → ∃ cs qs, rss[j]? = some qs ∧ H r = some (.lst cs) ∧ FrN K H n cs qs
theorem RowsAt.keep {K : PySem.W.Frag} {H H' : Hp} {n : Nat} {rs : List Addr} {rss : List (List Rat)} {ex : Addr} {ys : List V} (h : RowsAt K H n rs rss) (s : SameB ex H H') (hx : H ex = some (.lst ys)) (hn : ex ∉ rs) : RowsAt K H' n rs rss := by
  refine ⟨h.1, fun j r e => ?_⟩
  obtain ⟨cs, qs, e1, e2, e3⟩ := h.2 j r e
  exact ⟨cs, qs, e1, s r _ (fun z => hn (by rw [← z]; exact List.mem_of_getElem? e)) e2, e3.keep (s.tup hx)⟩
theorem RowsAt.same {K : PySem.W.Frag} {H H' : Hp} {n : Nat} {rs : List Addr} {rss : List (List Rat)} (h : RowsAt K H n rs rss) (s : Same H H') : RowsAt K H' n rs rss := by
  refine ⟨h.1, fun j r e => ?_⟩
  obtain ⟨cs, qs, e1, e2, e3⟩ := h.2 j r e
  exact ⟨cs, qs, e1, s r _ e2, e3.same s⟩
theorem RowsAt.nil {K : PySem.W.Frag} {H : Hp} {n : Nat} : RowsAt K H n [] [] := ⟨rfl, fun j r e => by simp at e⟩
theorem RowsAt.snoc {K : PySem.W.Frag} {H : Hp} {n : Nat} {rs : List Addr} {rss : List (List Rat)} {r : Addr} {cs : List V} {qs : List Rat} (h : RowsAt K H n rs rss) (hr : H r = some (.lst cs)) (hf : FrN K H n cs qs) : RowsAt K H n (rs ++ [r]) (rss ++ [qs]) := by
  refine ⟨by rw [List.length_append, List.length_append, h.1]; rfl, fun j x e => ?_⟩
  by_cases hj : j < rs.length
  · rw [List.getElem?_append_left hj] at e
    obtain ⟨cs', qs', e1, e2, e3⟩ := h.2 j x e
    exact ⟨cs', qs', by rw [List.getElem?_append_left (by rw [← h.1]; exact hj)]; exact e1, e2, e3⟩
  · rw [List.getElem?_append_right (by omega)] at e
    have e0 : j - rs.length = 0 := by
      cases z : j - rs.length with
      | zero => rfl
      | succ i => rw [z] at e; simp at e
    rw [e0] at e
    have ev : r = x := Option.some.inj e
    subst ev
    refine ⟨cs, qs, ?_, hr, hf⟩
    rw [List.getElem?_append_right (by rw [← h.1]; omega), ← h.1, e0]
    rfl
theorem RowsAt.dp {K : PySem.W.Frag} {H : Hp} {n : Nat} : ∀ {rs : List Addr} {rss : List (List Rat)}, RowsAt K H n rs rss → DpAll K H (rs.map V.ref) (rss.map fun qs => PyData.list (qs.map dR))
  | [], [], _ => .nil
  | [], _ :: _, h => by have := h.1; simp at this
  | _ :: _, [], h => by have := h.1; simp at this
  | r :: rs, q :: rss, h => by
    obtain ⟨cs, qs, e1, e2, e3⟩ := h.2 0 r rfl
    have e : q = qs := Option.some.inj e1
    subst e
    exact .cons (.lst (SqL.of e2) e3.dp) (RowsAt.dp ⟨by have := h.1; simpa using this, fun j x e => h.2 (j + 1) x e⟩)
/-- rows as data -/
def dRows (rss : List (List Rat)) : PyData := .list (rss.map fun qs => PyData.list (qs.map dR))
theorem rows_lays : ∀ rss : List (List Rat), PyData.canLayAll0 (rss.map fun qs => PyData.list (qs.map dR)) = true
  | [] => rfl
  | q :: rss => by
    show (PyData.canLayAll0 (q.map dR) && PyData.canLayAll0 (rss.map fun qs => PyData.list (qs.map dR))) = true
    rw [rows_lays rss, lays q]
    rfl
theorem rows_deps : ∀ rss : List (List Rat), PyData.depthAll (rss.map fun qs => PyData.list (qs.map dR)) ≤ 2
  | [] => by decide
  | q :: rss => by
    have h1 := rows_deps rss
    have h2 := deps q
    show max (PyData.depthAll (q.map dR) + 1) (PyData.depthAll (rss.map fun qs => PyData.list (qs.map dR))) ≤ 2
    omega
theorem dRows_lay (rss : List (List Rat)) : (dRows rss).canLay0 = true := rows_lays rss
theorem dRows_shaped (rss : List (List Rat)) : SeqAt.shaped (dRows rss) = true := by
  unfold SeqAt.shaped
  rw [dRows_lay, Bool.true_and]
  refine decide_eq_true ?_
  have := rows_deps rss
  show PyData.depthAll (rss.map fun qs => PyData.list (qs.map dR)) + 1 ≤ 64
  omega
/-- a new list of new rows, beside what stood in H0 (but ex) -/
structure New (K : PySem.W.Frag) (H0 H : Hp) (ex D : Addr) (rs : List Addr) (rss : List (List Rat)) (n : Nat) : Prop where
  at_ : H D = some (.lst (rs.map V.ref))
  nd : rs.Nodup
  ne : D ∉ rs
  fresh : ∀ x ∈ rs, H0 x = none
  fD : H0 D = none
  nx : ex ∉ rs
  keep : SameB ex H0 H
  rows : RowsAt K H n rs rss
theorem New.start {K : PySem.W.Frag} {H : Hp} {ex D : Addr} {n : Nat} (hD : H D = none) : New K H (upd H D (.lst [])) ex D [] [] n :=
  ⟨upd_same, List.nodup_nil, by simp, fun x hx => by simp at hx, hD, by simp, SameB.of (same_new hD _), RowsAt.nil⟩
/-- a step beside the list: what is new is laid, ex may change -/
theorem New.step {K : PySem.W.Frag} {H0 H H1 : Hp} {ex D : Addr} {rs : List Addr} {rss : List (List Rat)} {n : Nat} {ys : List V} (h : New K H0 H ex D rs rss n) (s : SameB ex H H1) (hx : H ex = some (.lst ys)) (hDx : D ≠ ex) : New K H0 H1 ex D rs rss n :=
  ⟨s D _ hDx h.at_, h.nd, h.ne, h.fresh, h.fD, h.nx, h.keep.trans s, h.rows.keep s hx h.nx⟩
theorem New.stepS {K : PySem.W.Frag} {H0 H H1 : Hp} {ex D : Addr} {rs : List Addr} {rss : List (List Rat)} {n : Nat} (h : New K H0 H ex D rs rss n) (s : Same H H1) : New K H0 H1 ex D rs rss n :=
  ⟨s D _ h.at_, h.nd, h.ne, h.fresh, h.fD, h.nx, h.keep.trans (SameB.of s), h.rows.same s⟩
/-- one row more -/
theorem New.push {K : PySem.W.Frag} {H0 H H1 : Hp} {ex D l : Addr} {rs : List Addr} {rss : List (List Rat)} {n : Nat} {cs : List V} {qs : List Rat} (h0 : New K H0 H ex D rs rss n) (h : New K H0 H1 ex D rs rss n) (hl0 : H l = none) (hl : H1 l = some (.lst cs)) (hf : FrN K H1 n cs qs) (hle : l ≠ ex) :
    New K H0 (upd H1 D (.lst (rs.map V.ref ++ [V.ref l]))) ex D (rs ++ [l]) (rss ++ [qs]) n := by
  have hlD : l ≠ D := fun e => by
    rw [e, h0.at_] at hl0
    cases hl0
  have hlr : l ∉ rs := fun hm => by
    obtain ⟨j, hj, e⟩ := List.getElem_of_mem hm
    obtain ⟨cs', qs', _, e2, _⟩ := h0.rows.2 j l (by rw [List.getElem?_eq_getElem hj, e])
    rw [hl0] at e2
    cases e2
  have hl00 : H0 l = none := by
    cases e : H0 l with
    | none => rfl
    | some o =>
      rw [h0.keep l o hle e] at hl0
      cases hl0
  have sD : SameB D H1 (upd H1 D (.lst (rs.map V.ref ++ [V.ref l]))) := SameB.upd
  refine ⟨by rw [upd_same, List.map_append]; rfl, ?_, ?_, ?_, h.fD, ?_, ?_, ?_⟩
  · rw [List.nodup_append]
    refine ⟨h.nd, by simp, fun a ha b hb => ?_⟩
    have : b = l := by simpa using hb
    rw [this]
    exact fun e => hlr (by rw [← e]; exact ha)
  · intro hm
    rcases List.mem_append.mp hm with hm | hm
    · exact h.ne hm
    · have : D = l := by simpa using hm
      exact hlD this.symm
  · intro x hx
    rcases List.mem_append.mp hx with hx | hx
    · exact h.fresh x hx
    · have : x = l := by simpa using hx
      rw [this]
      exact hl00
  · intro hm
    rcases List.mem_append.mp hm with hm | hm
    · exact h.nx hm
    · have : ex = l := by simpa using hm
      exact hle this.symm
  · intro b o hb e
    rw [upd_ne (ne_of_none e h.fD)]
    exact h.keep b o hb e
  · exact (h.rows.keep sD h.at_ h.ne).snoc (by rw [upd_ne hlD]; exact hl) (hf.keep (sD.tup h.at_))
/-- list(x), by values -/
def rListOf (K : PySem.W.Frag) : List V → Hp → VK → Prop := fun xs H Q => ∃ p ys, xs = [V.ref p] ∧ (SqL K H p ys ∨ SqT K H p ys) ∧ ∀ l : Addr, H l = none → Q (V.ref l) (upd H l (.lst ys))
/-! ### rules -/
def RowOk (m : Nat) (qs : List Rat) : Prop := qs.length = m ∧ (∀ q ∈ qs, 0 ≤ q) ∧ qs.sum = 1
structure Good (rss : List (List Rat)) (m : Nat) : Prop where
  w1 : 1 ≤ rss.length
  w5 : rss.length ≤ 5
  m1 : 1 ≤ m
  m30 : m ≤ 30
  row : ∀ qs ∈ rss, RowOk m qs
/-- a list of rows that stands -/
def RwL (K : PySem.W.Frag) (H : Hp) (a : Addr) (rs : List Addr) (rss : List (List Rat)) (n : Nat) : Prop := H a = some (.lst (rs.map V.ref)) ∧ RowsAt K H n rs rss
theorem RwL.same {K : PySem.W.Frag} {H H' : Hp} {a : Addr} {rs : List Addr} {rss : List (List Rat)} {n : Nat} (h : RwL K H a rs rss n) (s : Same H H') : RwL K H' a rs rss n := ⟨s _ _ h.1, h.2.same s⟩
theorem RwL.dp {K : PySem.W.Frag} {H : Hp} {a : Addr} {rs : List Addr} {rss : List (List Rat)} {n : Nat} (h : RwL K H a rs rss n) : Dp K H (.ref a) (dRows rss) := .lst (SqL.of h.1) h.2.dp
theorem New.rwl {K : PySem.W.Frag} {H0 H : Hp} {ex D : Addr} {rs : List Addr} {rss : List (List Rat)} {n : Nat} (h : New K H0 H ex D rs rss n) : RwL K H D rs rss n := ⟨h.at_, h.rows⟩
/-- a new list of new rows -/
def Fresh (K : PySem.W.Frag) (H H' : Hp) (D : Addr) (rs : List Addr) (rss : List (List Rat)) (n : Nat) : Prop := RwL K H' D rs rss n ∧ rs.Nodup ∧ D ∉ rs ∧ H D = none ∧ (∀ x ∈ rs, H x = none) ∧ Same H H'
/-- an instance of the class at C, of these rows -/
def IsRule (K : PySem.W.Frag) (H : Hp) (C x : Addr) (rss : List (List Rat)) (n : Nat) : Prop := ∃ dx ra rs, H x = some (.ins C dx [("own_rows", .ref ra)]) ∧ RwL K H ra rs rss n
theorem IsRule.same {K : PySem.W.Frag} {H H' : Hp} {C x : Addr} {rss : List (List Rat)} {n : Nat} (h : IsRule K H C x rss n) (s : Same H H') : IsRule K H' C x rss n :=
  let ⟨dx, ra, rs, e1, e2⟩ := h; ⟨dx, ra, rs, s _ _ e1, e2.same s⟩
theorem New.toFresh {K : PySem.W.Frag} {H0 H : Hp} {D : Addr} {rs : List Addr} {rss : List (List Rat)} {n : Nat} (h : New K H0 H D D rs rss n) : Fresh K H0 H D rs rss n :=
  ⟨h.rwl, h.nd, h.ne, h.fD, h.fresh, fun b o e => h.keep b o (ne_of_none e h.fD) e⟩
/-! ### the mathematics of rules -/
theorem sum_nonneg' : ∀ {qs : List Rat}, (∀ q ∈ qs, 0 ≤ q) → 0 ≤ qs.sum
  | [], _ => by rw [List.sum_nil]; exact Rat.le_refl
  | q :: qs, h => by
    rw [List.sum_cons]
    exact Rat.add_nonneg (h q (List.mem_cons_self ..)) (sum_nonneg' fun x hx => h x (List.mem_cons_of_mem _ hx))
/-- shares of two rows side by side -/
def rowB (row second : List Rat) : List Rat := row.flatMap fun s => second.map fun o => s * o
theorem sum_map_mul (s : Rat) : ∀ l : List Rat, (l.map fun o => s * o).sum = s * l.sum
  | [] => by rw [List.map_nil, List.sum_nil, Rat.mul_zero]
  | x :: l => by rw [List.map_cons, List.sum_cons, List.sum_cons, sum_map_mul s l, Rat.mul_add]
theorem rowB_sum : ∀ (row second : List Rat), (rowB row second).sum = row.sum * second.sum
  | [], second => by show ([] : List Rat).sum = _; rw [List.sum_nil, Rat.zero_mul]
  | s :: row, second => by
    show ((second.map fun o => s * o) ++ rowB row second).sum = _
    rw [List.sum_append, sum_map_mul, rowB_sum row second, List.sum_cons, Rat.add_mul]
theorem rowB_len : ∀ (row second : List Rat), (rowB row second).length = row.length * second.length
  | [], second => by show 0 = _; rw [List.length_nil, Nat.zero_mul]
  | s :: row, second => by
    show ((second.map fun o => s * o) ++ rowB row second).length = _
    rw [List.length_append, List.length_map, rowB_len row second, List.length_cons, Nat.succ_mul, Nat.add_comm]
theorem rowB_ok {m k : Nat} {row second : List Rat} (h1 : RowOk m row) (h2 : RowOk k second) : RowOk (m * k) (rowB row second) := by
  refine ⟨by rw [rowB_len, h1.1, h2.1], fun q hq => ?_, by rw [rowB_sum, h1.2.2, h2.2.2, Rat.mul_one]⟩
  obtain ⟨s, hs, hq⟩ := List.mem_flatMap.mp hq
  obtain ⟨o, ho, rfl⟩ := List.mem_map.mp hq
  exact Rat.mul_nonneg (h1.2.1 s hs) (h2.2.1 o ho)
/-- words of one group are one -/
def grp : List Rat → List Nat → List Rat → List Rat
  | s :: row, g :: gs, told => grp row gs (told.set g (told.getD g 0 + s))
  | _, _, told => told
theorem grp_len : ∀ (row : List Rat) (gs : List Nat) (told : List Rat), (grp row gs told).length = told.length
  | [], _, _ => by rw [grp] <;> simp
  | _ :: _, [], _ => by rw [grp] <;> simp
  | s :: row, g :: gs, told => by rw [grp, grp_len row gs, List.length_set]
theorem set_sum : ∀ (l : List Rat) (g : Nat) (s : Rat), g < l.length → (l.set g (l.getD g 0 + s)).sum = l.sum + s
  | [], g, s, h => by simp at h
  | x :: l, 0, s, h => by
    show ((x + s) :: l).sum = _
    rw [List.sum_cons, List.sum_cons, Rat.add_assoc, Rat.add_assoc, Rat.add_comm s]
  | x :: l, g + 1, s, h => by
    show (x :: l.set g (l.getD g 0 + s)).sum = _
    rw [List.sum_cons, List.sum_cons, set_sum l g s (by simpa using h), Rat.add_assoc]
theorem grp_sum : ∀ (row : List Rat) (gs : List Nat) (told : List Rat), row.length = gs.length → (∀ g ∈ gs, g < told.length) → (grp row gs told).sum = told.sum + row.sum
  | [], [], told, _, _ => by show told.sum = _; rw [List.sum_nil, Rat.add_zero]
  | [], _ :: _, _, h, _ => by simp at h
  | _ :: _, [], _, h, _ => by simp at h
  | s :: row, g :: gs, told, h, hg => by
    rw [grp, grp_sum row gs _ (by simpa using h) (fun x hx => by rw [List.length_set]; exact hg x (List.mem_cons_of_mem _ hx)), set_sum told g s (hg g (List.mem_cons_self ..)), List.sum_cons, Rat.add_assoc]
theorem grp_nonneg : ∀ (row : List Rat) (gs : List Nat) (told : List Rat), (∀ q ∈ row, 0 ≤ q) → (∀ q ∈ told, 0 ≤ q) → ∀ q ∈ grp row gs told, 0 ≤ q
  | [], _, _, _, ht => by rw [grp]; exact ht; simp
  | _ :: _, [], _, _, ht => by rw [grp]; exact ht; simp
  | s :: row, g :: gs, told, hr, ht => by
    rw [grp]
    refine grp_nonneg row gs _ (fun q hq => hr q (List.mem_cons_of_mem _ hq)) fun q hq => ?_
    have hx : 0 ≤ told.getD g 0 := by
      by_cases h : g < told.length
      · rw [List.getD_eq_getElem?_getD, List.getElem?_eq_getElem h]
        exact ht _ (List.getElem_mem h)
      · rw [List.getD_eq_getElem?_getD, List.getElem?_eq_none (by omega)]
        exact Rat.le_refl
    rcases List.mem_or_eq_of_mem_set hq with hq | rfl
    · exact ht q hq
    · exact Rat.add_nonneg hx (hr s (List.mem_cons_self ..))
theorem grp_ok {m many : Nat} {row : List Rat} {gs : List Nat} (h : RowOk m row) (hl : gs.length = m) (hg : ∀ g ∈ gs, g < many) : RowOk many (grp row gs (List.replicate many 0)) := by
  have z : ∀ k : Nat, (List.replicate k (0 : Rat)).sum = 0 := fun k => by
    induction k with
    | zero => rfl
    | succ k ih => rw [List.replicate_succ, List.sum_cons, ih, Rat.add_zero]
  refine ⟨by rw [grp_len, List.length_replicate], grp_nonneg row gs _ h.2.1 fun q hq => ?_, ?_⟩
  · rw [List.eq_of_mem_replicate hq]
    exact Rat.le_refl
  · rw [grp_sum row gs _ (by rw [h.1, hl]) (fun g hgm => by rw [List.length_replicate]; exact hg g hgm), z, Rat.zero_add]
    exact h.2.2
/-- the row of the world i among w -/
def unit (w i : Nat) : List Rat := (List.range w).map fun j => if j = i then 1 else 0
theorem unit_sum : ∀ (w i : Nat), (unit w i).sum = if i < w then 1 else 0
  | 0, i => rfl
  | w + 1, i => by
    unfold unit
    rw [List.range_succ, List.map_append, List.sum_append]
    have ih := unit_sum w i
    unfold unit at ih
    rw [ih]
    show _ + ([if w = i then (1 : Rat) else 0]).sum = _
    rw [List.sum_cons, List.sum_nil, Rat.add_zero]
    by_cases h1 : i < w
    · rw [if_pos h1, if_neg (by omega), if_pos (by omega), Rat.add_zero]
    · by_cases h2 : w = i
      · rw [if_neg h1, if_pos h2, if_pos (by omega), Rat.zero_add]
      · rw [if_neg h1, if_neg h2, if_neg (by omega), Rat.zero_add]
theorem unit_ok {w i : Nat} (h : i < w) : RowOk w (unit w i) := by
  refine ⟨by unfold unit; rw [List.length_map, List.length_range], fun q hq => ?_, by rw [unit_sum, if_pos h]⟩
  obtain ⟨j, _, rfl⟩ := List.mem_map.mp hq
  split
  · decide
  · exact Rat.le_refl
end Ru

set_option Elab.async false
set_option linter.all false
set_option maxRecDepth 100000
set_option maxHeartbeats 4000000
namespace BX
open PySem PySem.Spec PyProof.Rows L2
def tMakeD (C : Addr) (sp : Sp) (dvs : List V) (E : L2.St → XK) (t : TA) : TE := fun σ H Q => t σ H fun vs H1 => ∀ x dx, H1 x = none → H1 dx = none → dx ≠ x → sp (.ref x :: (vs ++ dvs)) (upd (upd H1 dx (.own x)) x (.ins C dx [])) (fun v H2 => v = .non ∧ Q (.ref x) H2) (E σ)
section
variable {X : Cx} {CX : CXT} {k : Nat} {f C : Addr} {fd : FuncData} {ps : List Str} {sp : Sp} {E : L2.St → XK} {x : Str} {p pos : Pos} {e : Expr} {es : List Expr} {t : TA} {ds : List Value} {dvs : List V}
/-- C(e, ..), what its __init__ raises being wished for at the caller's slots -/
theorem pe_makeD (M : Mk X.K C f) (F : FnOk X.prog X.w X.K X.mg X.base CX k f fd ps sp) (hr : Room (k + 1) X.A) (hg : Gl X x) (hm : X.mg x = some (.ref C)) (hb : Binds X.K fd ps ds) (hd : Vals dvs ds) (hx : ∀ σ, PassesAt CX X σ (E σ))
    (ha : PA X (e :: es) t) (hdb : (x == ("__debug__" : Str)) = false := by decide) (he : starEach (e :: es) X.env = (false, eval e X.env) :: starEach es X.env := by rfl) (hpl : (backTo pos (starEach es X.env)).any (·.1) = false := by rfl) :
    PE X (.Call (.Name x p) (e :: es) [] pos) (tMakeD C sp dvs E t) := by
  refine ⟨fun pins s σ H Q I h => ?_⟩
  refine wpAny_Call_Name_kw (ld_glob I hg hm ?_ hdb)
  refine PySem.W.callWith_K (h₀ := X.base) I.ok.mod.kin M.kp (thn (ha.run pos pins s σ H _ I h) fun us s1 ⟨vs, H1, I1, r, q⟩ => ⟨I1.kIn, ?_⟩) he hpl
  have hq := q (s1.heap.objs.size + 1) s1.heap.objs.size (I1.hok.fresh (Nat.le_succ _)) (I1.hok.fresh (Nat.le_refl _)) (Nat.ne_of_lt (Nat.lt_succ_self _))
  have I2 := Inv.made (C := C) I1
  have r2 : Vals (V.ref (s1.heap.objs.size + 1) :: (vs ++ dvs)) (Value.ref (s1.heap.objs.size + 1) :: (us ++ ds)) := .cons rfl (r.append hd)
  have hl : (Value.ref (s1.heap.objs.size + 1) :: us ++ ds).length = ps.length := by
    have z := r2.length
    rw [F.len _ _ _ _ hq] at z
    exact z.symm
  refine wpAny_call (make_map (f := f) I1.kIn M.makes M.init (beq_iff_eq.mp M.fn) (codeAny_mono (F.run _ X.stack _ _ ⟨Value.ref (s1.heap.objs.size + 1) :: us, []⟩ (Value.ref (s1.heap.objs.size + 1) :: (us ++ ds)) _ _ (E σ) (hr.make C us [])
    (I2.env0.make C us []) (hb _ (Value.ref (s1.heap.objs.size + 1) :: us) I2.kIn hl) r2 hq) fun r s' hq' => ?_))
  cases r with
  | error er => exact hx σ pins _ _ er s' I2 hq'
  | ok fl =>
    cases fl with
    | ret u =>
      obtain ⟨v, H', I3, rv, ev, q3⟩ := I2.after hq'
      subst ev
      exact ⟨rv, ⟨V.ref (s1.heap.objs.size + 1), H', I3, rfl, q3⟩⟩
    | next => exact False.elim hq'
    | brk => exact False.elim hq'
    | cont => exact False.elim hq'
end
end BX

set_option Elab.async false
set_option linter.all false
set_option maxRecDepth 100000
set_option maxHeartbeats 4000000
namespace Rs
open PySem PySem.Spec PyProof.Rows L2 BX EXB Co Ru
open Fr (Bd)
theorem upd_swap {H : Hp} {a dx : Addr} {A B A' : HO} (h : dx ≠ a) : upd (upd (upd H dx A) a B) dx A' = upd (upd H dx A') a B := by
  funext b
  by_cases h1 : b = dx
  · rw [h1, upd_same, upd_ne h, upd_same]
  · rw [upd_ne h1]
    by_cases h2 : b = a
    · rw [h2, upd_same, upd_same]
    · rw [upd_ne h2, upd_ne h2, upd_ne h1, upd_ne h1]
abbrev Rsp := Option (List V)
def Rv (H : Hp) (v : V) : Rsp → Prop
  | none => v = .non
  | some ws => ∃ p, v = .ref p ∧ H p = some (.lst ws)
def Ret (Q : VK) (H : Hp) (r : Rsp) : Prop := ∀ v H', Same H H' → Rv H' v r → Q v H'
theorem Rv.same {H H' : Hp} {v : V} {r : Rsp} (h : Rv H v r) (s : Same H H') : Rv H' v r := by
  cases r with
  | none => exact h
  | some ws => obtain ⟨p, e1, e2⟩ := h; exact ⟨p, e1, s _ _ e2⟩
theorem tYes_of {σ : L2.St} {H : Hp} {A B : Hp → Prop} (h : A H) : tYes σ H (fun b H3 => if b = true then A H3 else B H3) := by
  show (if true = true then A H else B H)
  rw [if_pos rfl]
  exact h
def dV : V → PyData
  | .str s => .str s
  | .int i => .int i
  | .bl b => .bool b
  | _ => .none
def datR : Rsp → PyData
  | none => .none
  | some ws => .list (ws.map dV)
def Flat (v : V) : Prop := ((∃ s, v = .str s) ∨ (∃ i, v = .int i) ∨ (∃ b, v = .bl b) ∨ v = .non) ∧ (dV v).canLay0 = true
def Okr : Rsp → Prop
  | none => True
  | some ws => ∀ v ∈ ws, Flat v
theorem flat_dp {K : PySem.W.Frag} {H : Hp} {v : V} (h : Flat v) : Dp K H v (dV v) := by
  rcases h.1 with ⟨s, rfl⟩ | ⟨i, rfl⟩ | ⟨b, rfl⟩ | rfl
  · exact .str _
  · exact .int _
  · exact .bl _
  · exact .non
theorem flats_dp {K : PySem.W.Frag} {H : Hp} : ∀ ws : List V, (∀ v ∈ ws, Flat v) → DpAll K H ws (ws.map dV)
  | [], _ => .nil
  | v :: ws, h => .cons (flat_dp (h v (List.mem_cons_self ..))) (flats_dp ws fun x hx => h x (List.mem_cons_of_mem _ hx))
theorem flats_lay : ∀ ws : List V, (∀ v ∈ ws, Flat v) → PyData.canLayAll0 (ws.map dV) = true
  | [], _ => rfl
  | v :: ws, h => by
    show (PyData.canLay0 (dV v) && PyData.canLayAll0 (ws.map dV)) = true
    rw [(h v (List.mem_cons_self ..)).2, flats_lay ws fun x hx => h x (List.mem_cons_of_mem _ hx)]
    rfl
theorem flats_dep : ∀ ws : List V, PyData.depthAll (ws.map dV) ≤ 1
  | [] => by decide
  | v :: ws => by
    have h := flats_dep ws
    show max (PyData.depth (dV v)) (PyData.depthAll (ws.map dV)) ≤ 1
    have : PyData.depth (dV v) = 0 := by cases v <;> rfl
    omega
theorem Rv.dp {K : PySem.W.Frag} {H : Hp} {v : V} {r : Rsp} (ok : Okr r) (h : Rv H v r) : Dp K H v (datR r) := by
  cases r with
  | none => cases (show v = .non from h); exact .non
  | some ws =>
    obtain ⟨p, rfl, hp⟩ := h
    exact .lst (SqL.of hp) (flats_dp ws ok)
theorem datR_lay {r : Rsp} (ok : Okr r) : (datR r).canLay0 = true := by
  cases r with
  | none => rfl
  | some ws => exact flats_lay ws ok
theorem datR_sh {r : Rsp} (ok : Okr r) : SeqAt.shaped (datR r) = true := by
  unfold SeqAt.shaped
  rw [datR_lay ok, Bool.true_and]
  refine decide_eq_true ?_
  cases r with
  | none => decide
  | some ws =>
    have := flats_dep ws
    show PyData.depthAll (ws.map dV) + 1 ≤ 64
    omega
theorem fl_str {s : Str} (h : (PyData.str s).canLay0 = true) : Flat (.str s) := ⟨.inl ⟨s, rfl⟩, h⟩
theorem fl_int (i : Int) : Flat (.int i) := ⟨.inr (.inl ⟨i, rfl⟩), rfl⟩
theorem fl_bl (b : Bool) : Flat (.bl b) := ⟨.inr (.inr (.inl ⟨b, rfl⟩)), rfl⟩
theorem fl_non : Flat .non := ⟨.inr (.inr (.inr rfl)), rfl⟩
theorem okr3 {a b c : V} (ha : Flat a) (hb : Flat b) (hc : Flat c) : Okr (some [a, b, c]) := by
  intro v hv
  rcases List.mem_cons.mp hv with rfl | hv
  · exact ha
  rcases List.mem_cons.mp hv with rfl | hv
  · exact hb
  rw [List.mem_singleton.mp hv]
  exact hc
theorem cut_len {xs : List V} {n : Nat} {lo hi : Option Int} (h : xs.length ≤ n) : (cutV xs lo hi).length ≤ n := Nat.le_trans (cutV_length xs lo hi) h
/-- the law's shares: of m words, small -/
def spShares (K : PySem.W.Frag) : Sp := fun vs H Q _ => ∃ (l : Addr) (z : Int) (m : Nat), vs = [.ref l, .int (m : Int)] ∧ H l = some (.lst [.int z]) ∧ 1 ≤ m ∧ m ≤ 30 ∧
  ∀ D cs qs z' H', SameB l H H' → H' l = some (.lst [.int z']) → H D = none → D ≠ l → H' D = some (.lst cs) → FrN K H' 8 cs qs → RowOk m qs → Q (.ref D) H'
def spRowsL (K : PySem.W.Frag) : Sp := fun vs H Q _ => ∃ (l : Addr) (z : Int) (ww up : Nat), vs = [.ref l, .int (ww : Int), .int (up : Int)] ∧ H l = some (.lst [.int z]) ∧ 1 ≤ ww ∧ ww ≤ 5 ∧ 1 ≤ up ∧ up ≤ 30 ∧
  ∀ D rs rss m z' H', New K H H' l D rs rss 8 → D ≠ l → H' l = some (.lst [.int z']) → Good rss m → rss.length = ww → m ≤ up → Q (.ref D) H'
/-- xs[i] by values, i from 0 on -/
def rGet0 (K : PySem.W.Frag) : V → V → Hp → VK → Prop := fun o i H Q => ∃ (p : Addr) (xs : List V) (j : Nat) (v : V), o = .ref p ∧ i = .int (j : Int) ∧ SqL K H p xs ∧ xs[j]? = some v ∧ Q v H
theorem pget_list {X : Cx} : PGet X (rGet0 X.K) := by
  intro pins s σ H o i ov iv Q I ro ri h
  obtain ⟨p, xs, j, z, rfl, rfl, hq, he, q⟩ := h
  cases ro
  obtain ⟨t, rfl⟩ := ri
  obtain ⟨its, r, pl, hz⟩ := I.list hq
  obtain ⟨w, ew, rw'⟩ := r.get he
  have hj : j < xs.length := (List.getElem?_eq_some_iff.mp he).1
  have hn := line63
  exact wpAny_getItem_list pl.isList (by omega) (by omega) (by rw [Int.toNat_natCast]; simpa using ew) ⟨z, H, I, rw', q⟩
def shq (ns : List Int) : List Rat := ns.map fun x => Rat.divInt x ns.sum
theorem sum_divInt (S : Int) : ∀ ns : List Int, (ns.map fun x => Rat.divInt x S).sum = Rat.divInt ns.sum S
  | [] => by rw [List.map_nil, List.sum_nil, List.sum_nil, Rat.zero_divInt]
  | x :: ns => by
    rw [List.map_cons, List.sum_cons, List.sum_cons, sum_divInt S ns]
    by_cases h : S = 0
    · subst h
      rw [Rat.divInt_zero, Rat.divInt_zero, Rat.divInt_zero, Rat.add_zero]
    · rw [Rat.divInt_add_divInt _ _ h h, ← Int.add_mul, Rat.divInt_mul_right h]
theorem divInt_nn {x S : Int} (hx : 0 ≤ x) (hS : 0 < S) : 0 ≤ Rat.divInt x S := by
  rw [← Rat.num_nonneg, ← Fr.low_num hS]
  exact Int.fdiv_nonneg hx (by omega)
theorem divInt_one {S : Int} (hS : 0 < S) : Rat.divInt S S = 1 := by
  have h := Rat.divInt_mul_right (n := 1) (d := 1) (a := S) (by omega)
  rw [Int.one_mul] at h
  rw [h]
  rfl
theorem shq_ok {ns : List Int} {m : Nat} (hl : ns.length = m) (h0 : ∀ x ∈ ns, 0 ≤ x) (hS : 0 < ns.sum) : RowOk m (shq ns) := by
  refine ⟨by unfold shq; rw [List.length_map, hl], fun q hq => ?_, ?_⟩
  · obtain ⟨x, hx, rfl⟩ := List.mem_map.mp hq
    exact divInt_nn (h0 x hx) hS
  · unfold shq
    rw [sum_divInt, divInt_one hS]
theorem sum_le : ∀ (ns : List Int) (b : Int), (∀ x ∈ ns, x ≤ b) → ns.sum ≤ b * ns.length
  | [], b, _ => by simp
  | x :: ns, b, h => by
    have h1 := sum_le ns b fun y hy => h y (List.mem_cons_of_mem _ hy)
    have h2 := h x (List.mem_cons_self ..)
    rw [List.sum_cons, List.length_cons, Int.natCast_succ, Int.mul_add]
    omega
theorem sum_nn : ∀ (ns : List Int), (∀ x ∈ ns, 0 ≤ x) → 0 ≤ ns.sum
  | [], _ => by simp
  | x :: ns, h => by
    have h1 := sum_nn ns fun y hy => h y (List.mem_cons_of_mem _ hy)
    have h2 := h x (List.mem_cons_self ..)
    rw [List.sum_cons]
    omega
theorem set_sumI : ∀ (l : List Int) (g : Nat) (x : Int), l[g]? = some x → (l.set g (x + 1)).sum = l.sum + 1
  | [], g, x, h => by simp at h
  | y :: l, 0, x, h => by
    have e : y = x := Option.some.inj h
    subst e
    show ((y + 1) :: l).sum = _
    rw [List.sum_cons, List.sum_cons]
    omega
  | y :: l, g + 1, x, h => by
    show (y :: l.set g (x + 1)).sum = _
    rw [List.sum_cons, List.sum_cons, set_sumI l g x h]
    omega
theorem tab_at {d : Int} (h0 : 0 ≤ d) (h6 : d < 6) : ∃ v : Int, atI [V.int 0, V.int 1, V.int 1, V.int 2, V.int 3, V.int 5] d = some (V.int v) ∧ 0 ≤ v ∧ v ≤ 5 := by
  have : d = 0 ∨ d = 1 ∨ d = 2 ∨ d = 3 ∨ d = 4 ∨ d = 5 := by omega
  rcases this with rfl | rfl | rfl | rfl | rfl | rfl
  · exact ⟨_, atI_nat (j := 0) rfl, by decide, by decide⟩
  · exact ⟨_, atI_nat (j := 1) rfl, by decide, by decide⟩
  · exact ⟨_, atI_nat (j := 2) rfl, by decide, by decide⟩
  · exact ⟨_, atI_nat (j := 3) rfl, by decide, by decide⟩
  · exact ⟨_, atI_nat (j := 4) rfl, by decide, by decide⟩
  · exact ⟨_, atI_nat (j := 5) rfl, by decide, by decide⟩
theorem ne_num {K : PySem.W.Frag} {H : Hp} {l : Addr} {z : Int} {a : Addr} {rs : List Addr} {rss : List (List Rat)} {n : Nat} (hl : H l = some (.lst [.int z])) (h : RwL K H a rs rss n) : a ≠ l := fun e => by
  have := h.1
  rw [e, hl] at this
  cases rs with
  | nil => cases this
  | cons r rs => cases this
theorem nr_num {K : PySem.W.Frag} {H : Hp} {l : Addr} {z : Int} {rs : List Addr} {rss : List (List Rat)} {n : Nat} (hl : H l = some (.lst [.int z])) (h : RowsAt K H n rs rss) : l ∉ rs := fun hm => by
  obtain ⟨j, hj, e⟩ := List.getElem_of_mem hm
  obtain ⟨cs, qs, e1, e2, e3⟩ := h.2 j l (by rw [List.getElem?_eq_getElem hj, e])
  rw [hl] at e2
  cases e2
  obtain ⟨a, q, _, e, _⟩ := e3.at_ 0 _ rfl
  cases e
theorem RwL.keepB {K : PySem.W.Frag} {H H' : Hp} {l : Addr} {z : Int} {a : Addr} {rs : List Addr} {rss : List (List Rat)} {n : Nat} (h : RwL K H a rs rss n) (hl : H l = some (.lst [.int z])) (s : SameB l H H') : RwL K H' a rs rss n :=
  ⟨s _ _ (ne_num hl h) h.1, h.2.keep s hl (nr_num hl h.2)⟩
theorem IsRule.keepB {K : PySem.W.Frag} {H H' : Hp} {C x l : Addr} {z : Int} {rss : List (List Rat)} {n : Nat} (h : IsRule K H C x rss n) (hl : H l = some (.lst [.int z])) (s : SameB l H H') : IsRule K H' C x rss n := by
  obtain ⟨dx, ra, rs, e1, e2⟩ := h
  exact ⟨dx, ra, rs, s _ _ (ne_of e1 hl (by intro w; cases w)) e1, RwL.keepB e2 hl s⟩
theorem New.pre {K : PySem.W.Frag} {H00 H0 H : Hp} {ex D : Addr} {rs : List Addr} {rss : List (List Rat)} {n : Nat} (h : New K H0 H ex D rs rss n) (s : SameB ex H00 H0) (hD : D ≠ ex) : New K H00 H ex D rs rss n := by
  refine ⟨h.at_, h.nd, h.ne, fun x hx => ?_, ?_, h.nx, s.trans h.keep, h.rows⟩
  · cases e : H00 x with
    | none => rfl
    | some o =>
      have := s x o (fun z => h.nx (by rw [← z]; exact hx)) e
      rw [h.fresh x hx] at this
      cases this
  · cases e : H00 D with
    | none => rfl
    | some o =>
      have := s D o hD e
      rw [h.fD] at this
      cases this
theorem RwL.ins {K : PySem.W.Frag} {H : Hp} {a x C dx : Addr} {fs gs : List (Str × V)} {rs : List Addr} {rss : List (List Rat)} {n : Nat} (h : RwL K H a rs rss n) (hx : H x = some (.ins C dx fs)) : RwL K (upd H x (.ins C dx gs)) a rs rss n := by
  have st : ∀ b xs, SqT K H b xs → SqT K (upd H x (.ins C dx gs)) b xs := fun b xs z => by
    rcases z with (z | ⟨o, z⟩) | z
    · exact .inl (.inl (by rw [upd_ne (ne_of z hx (by intro w; cases w))]; exact z))
    · exact .inl (.inr ⟨o, by rw [upd_ne (ne_of z hx (by intro w; cases w))]; exact z⟩)
    · exact .inr z
  refine ⟨by rw [upd_ne (ne_of h.1 hx (by intro w; cases w))]; exact h.1, h.2.1, fun j r e => ?_⟩
  obtain ⟨cs, qs, e1, e2, e3⟩ := h.2.2 j r e
  exact ⟨cs, qs, e1, by rw [upd_ne (ne_of e2 hx (by intro w; cases w))]; exact e2, e3.keep st⟩
/-- len(o), o an instance with its own __len__ -/
def rLenO (C : Addr) (sp : Sp) : List V → Hp → VK → Prop := fun xs H Q => ∃ (x dx : Addr) (fs : List (Str × V)), xs = [.ref x] ∧ H x = some (.ins C dx fs) ∧ sp [.ref x] H (fun v H' => ∃ n : Nat, v = .int (n : Int) ∧ n < 1000 ∧ Q (.int (n : Int)) H') (fun _ _ _ => False)
theorem call_lenO {X : Cx} {C f : Addr} {fd : FuncData} {k : Nat} {sp : Sp} (hs : PySem.W.findIn X.K (.ref C) "__len__" = some (some (.ref f))) (hf : PySem.W.isFn X.K (.ref f) = true) (F : FnOk X.prog X.w X.K X.mg X.base CX0 k f fd ["self"] sp) (hr : Room (k + 1) X.A) (hb : Binds X.K fd ["self"] []) : CallR X (.builtin "len") (rLenO C sp) := by
  intro pins s σ H xs us Q I r h
  obtain ⟨x, dx, fs, rfl, hx, hq⟩ := h
  cases r with
  | @cons _ u _ _ ru rn =>
    cases rn
    cases (show u = Value.ref x from ru)
    obtain ⟨mA, J, _⟩ := ins_get I.hok hx
    obtain ⟨od, J, _⟩ := J.look
    obtain ⟨m, hF⟩ := I.fr
    refine PySem.W.len_K hF I.ok.mod.kin J hs hf ?_
    have e0 : Env0 X.prog X.w X.K X.mg X.base X.A.in1 X.stack s H := by
      have e := I.env0
      exact ⟨e.frames, e.mod, e.bs, e.bsz, e.funs, e.frf, e.hok, e.bare⟩
    have r2 : Vals [V.ref x] [Value.ref x] := .cons rfl .nil
    refine wpAny_call (codeAny_mono (F.run X.A.in1 X.stack s H ⟨[.ref x], []⟩ [.ref x] [.ref x] _ (fun _ _ _ => False) hr.in1 e0 (by
      have := hb s [.ref x] I.kIn rfl
      simpa using this) r2 hq) fun r s' hq' => ?_)
    cases r with
    | error e => exact False.elim hq'
    | ok fl =>
      cases fl with
      | ret u =>
        obtain ⟨z, H', I', rz, n, ez, hn, q⟩ := I.after hq'
        subst ez
        obtain ⟨t, rfl⟩ := (show ∃ t, u = Value.int (n : Int) t from rz)
        exact ⟨⟨by omega, by omega⟩, .int (n : Int), H', I'.tok _, ⟨_, rfl⟩, q⟩
      | next => exact False.elim hq'
      | brk => exact False.elim hq'
      | cont => exact False.elim hq'
theorem sum_snoc' {qs : List Rat} {i : Nat} {q : Rat} (h : qs[i]? = some q) : (qs.take (i + 1)).sum = (qs.take i).sum + q := Co.sum_snoc h
def spTotal (K : PySem.W.Frag) : Sp := fun vs H Q _ => ∃ (l : Addr) (cs : List V) (qs : List Rat) (n : Nat), vs = [.ref l, .non] ∧ SqL K H l cs ∧ FrN K H n cs qs ∧ (n + 1) * qs.length + 1 ≤ 8700 ∧ ∀ r H', Same H H' → SqT K H' r (rp qs.sum) → Q (.ref r) H'
def spCopied (K : PySem.W.Frag) : Sp := fun vs H Q _ => ∃ (a : Addr) (rs : List Addr) (rss : List (List Rat)) (n : Nat), vs = [.ref a] ∧ RwL K H a rs rss n ∧ rss.length ≤ 100 ∧ ∀ D rs' H', Fresh K H H' D rs' rss n → Q (.ref D) H'
theorem eqv_dR (a b : Rat) : PyData.eqv (dR a) (dR b) = decide (a = b) := by
  show PyData.eqv (.tuple [.int a.num, .int (a.den : Int)]) (.tuple [.int b.num, .int (b.den : Int)]) = _
  simp only [PyData.eqv, PyData.eqvAll, Bool.and_true]
  by_cases h : a = b
  · subst h
    simp
  · rw [decide_eq_false h, Bool.and_eq_false_iff]
    by_cases h1 : a.num = b.num
    · refine .inr ?_
      have h2 : a.den ≠ b.den := fun e => h (Rat.ext h1 e)
      simp only [beq_eq_false_iff_ne, ne_eq]
      omega
    · refine .inl ?_
      simp only [beq_eq_false_iff_ne, ne_eq]
      exact h1
def rLenS (K : PySem.W.Frag) : List V → Hp → VK → Prop := fun xs H Q => ∃ p ys, xs = [V.ref p] ∧ (SqL K H p ys ∨ SqT K H p ys) ∧ Q (.int ys.length) H
def rStrI : List V → Hp → VK → Prop := fun xs H Q => ∃ i : Int, xs = [V.int i] ∧ i.natAbs.log2 < 1920 ∧ Q (.str (toString i)) H
def rInt1 : List V → Hp → VK → Prop := fun xs H Q => (∃ i, xs = [V.int i] ∧ Q (.int i) H) ∨ ∃ k, xs = [V.bl k] ∧ Q (.int (if k then 1 else 0)) H
def rTupOf (K : PySem.W.Frag) : List V → Hp → VK → Prop := fun xs H Q => ∃ p ys, xs = [V.ref p] ∧ ((SqL K H p ys ∧ ∀ l, H l = none → Q (.ref l) (upd H l (.tup ys))) ∨ (SqT K H p ys ∧ Q (.ref p) H))
/-- a def that may raise, where it does not -/
theorem quiet {P : Program} {w : World} {K : PySem.W.Frag} {mg : Str → Option Value} {base : Heap} {k : Nat} {f : Addr} {fd : FuncData} {ps : List Str} {sp : Sp} (F : FnOk P w K mg base (L2.CX P w) k f fd ps sp) : FnOk P w K mg base CX0 k f fd ps (fun vs H Q _ => sp vs H Q E0) := by
  refine ⟨fun vs H Q E h => F.len vs H Q E0 h, fun A outer s H args us vs Q E hr e b r h => codeAny_mono (F.run A outer s H args us vs Q E0 hr e b r h) fun r s' hq => ?_⟩
  cases r with
  | error e =>
    obtain ⟨_, _, _, _, _, _, _, _, _, _, _, _, z⟩ := hq
    exact z.elim
  | ok fl =>
    cases fl <;> exact hq
end Rs

set_option Elab.async false
set_option linter.all false
set_option maxRecDepth 100000
set_option maxHeartbeats 4000000
namespace Dz
open PySem PySem.Spec PyProof.Rows L2 BX EXB Co Ru
open Fr (Bd)
/-! ### things of any kind, none of whose lists stands where ex says -/
mutual
inductive Dz (K : PySem.W.Frag) (H : Hp) (ex : Addr → Prop) : V → PyData → Prop
  | non : Dz K H ex .non .none
  | bl (b : Bool) : Dz K H ex (.bl b) (.bool b)
  | int (i : Int) : Dz K H ex (.int i) (.int i)
  | str (x : Str) : Dz K H ex (.str x) (.str x)
  | lst {a : Addr} {xs : List V} {ds : List PyData} (h : H a = some (.lst xs)) (hn : ¬ ex a) (t : DzA K H ex xs ds) : Dz K H ex (.ref a) (.list ds)
  | tup {a : Addr} {xs : List V} {ds : List PyData} (h : SqT K H a xs) (t : DzA K H ex xs ds) : Dz K H ex (.ref a) (.tuple ds)
  | dct {a : Addr} (h : H a = some (.dK [])) (hn : ¬ ex a) : Dz K H ex (.ref a) (.dict [])
inductive DzA (K : PySem.W.Frag) (H : Hp) (ex : Addr → Prop) : List V → List PyData → Prop
  | nil : DzA K H ex [] []
  | cons {v : V} {vs : List V} {d : PyData} {ds : List PyData} (h : Dz K H ex v d) (t : DzA K H ex vs ds) : DzA K H ex (v :: vs) (d :: ds)
end
/-- what changes leaves such things -/
structure Ch (K : PySem.W.Frag) (ex : Addr → Prop) (H H' : Hp) : Prop where
  tp : ∀ a xs, SqT K H a xs → SqT K H' a xs
  ob : ∀ b o, ¬ ex b → H b = some o → H' b = some o
section
variable {K : PySem.W.Frag} {ex ex' : Addr → Prop} {H H' H2 : Hp}
theorem Ch.of (s : Same H H') : Ch K ex H H' := ⟨fun _ _ => seqT s, fun b o _ e => s b o e⟩
theorem Ch.trans (a : Ch K ex H H') (b : Ch K ex H' H2) : Ch K ex H H2 := ⟨fun x y h => b.tp x y (a.tp x y h), fun x y n h => b.ob x y n (a.ob x y n h)⟩
theorem Ch.put {p : Addr} {ys zs : List V} (hp : H p = some (.lst ys)) (h : ex p) : Ch K ex H (upd H p (.lst zs)) := ⟨SameB.tup SameB.upd hp, fun b o n e => by rw [upd_ne (fun z => n (by rw [z]; exact h))]; exact e⟩
theorem Ch.but {l : Addr} {ys : List V} (hl : H l = some (.lst ys)) (s : SameB l H H') (h : ex l) : Ch K ex H H' := ⟨s.tup hl, fun b o n e => s b o (fun z => n (by rw [z]; exact h)) e⟩
mutual
theorem Dz.ch (c : Ch K ex H H') : ∀ (d : PyData) (v : V), Dz K H ex v d → Dz K H' ex v d
  | .none, _, h => by cases h; exact .non
  | .bool b, _, h => by cases h; exact .bl _
  | .int i, _, h => by cases h; exact .int _
  | .str x, _, h => by cases h; exact .str _
  | .list ds, _, h => by
    cases h with
    | lst h hn t => exact .lst (c.ob _ _ hn h) hn (DzA.ch c ds _ t)
  | .tuple ds, _, h => by
    cases h with
    | tup h t => exact .tup (c.tp _ _ h) (DzA.ch c ds _ t)
  | .dict ds, _, h => by
    cases h with
    | dct h hn => exact .dct (c.ob _ _ hn h) hn
theorem DzA.ch (c : Ch K ex H H') : ∀ (ds : List PyData) (vs : List V), DzA K H ex vs ds → DzA K H' ex vs ds
  | [], _, h => by cases h; exact .nil
  | d :: ds, _, h => by
    cases h with
    | cons h t => exact .cons (Dz.ch c d _ h) (DzA.ch c ds _ t)
end
mutual
theorem Dz.sub (s : ∀ a, ex' a → ex a) : ∀ (d : PyData) (v : V), Dz K H ex v d → Dz K H ex' v d
  | .none, _, h => by cases h; exact .non
  | .bool b, _, h => by cases h; exact .bl _
  | .int i, _, h => by cases h; exact .int _
  | .str x, _, h => by cases h; exact .str _
  | .list ds, _, h => by
    cases h with
    | lst h hn t => exact .lst h (fun z => hn (s _ z)) (DzA.sub s ds _ t)
  | .tuple ds, _, h => by
    cases h with
    | tup h t => exact .tup h (DzA.sub s ds _ t)
  | .dict ds, _, h => by
    cases h with
    | dct h hn => exact .dct h fun z => hn (s _ z)
theorem DzA.sub (s : ∀ a, ex' a → ex a) : ∀ (ds : List PyData) (vs : List V), DzA K H ex vs ds → DzA K H ex' vs ds
  | [], _, h => by cases h; exact .nil
  | d :: ds, _, h => by
    cases h with
    | cons h t => exact .cons (Dz.sub s d _ h) (DzA.sub s ds _ t)
end
mutual
theorem Dz.dp : ∀ (d : PyData) (v : V), Dz K H ex v d → d.hasDict = false → Dp K H v d
  | .none, _, h, _ => by cases h; exact .non
  | .bool b, _, h, _ => by cases h; exact .bl _
  | .int i, _, h, _ => by cases h; exact .int _
  | .str x, _, h, _ => by cases h; exact .str _
  | .list ds, _, h, e => by
    cases h with
    | lst h hn t => exact .lst (SqL.of h) (DzA.dp ds _ t (by simpa only [PyData.hasDict] using e))
  | .tuple ds, _, h, e => by
    cases h with
    | tup h t => exact .tup h (DzA.dp ds _ t (by simpa only [PyData.hasDict] using e))
  | .dict ds, _, h, e => by simp only [PyData.hasDict] at e; cases e
theorem DzA.dp : ∀ (ds : List PyData) (vs : List V), DzA K H ex vs ds → PyData.hasDictAll ds = false → DpAll K H vs ds
  | [], _, h, _ => by cases h; exact .nil
  | d :: ds, _, h, e => by
    cases h with
    | cons h t =>
      simp only [PyData.hasDictAll, Bool.or_eq_false_iff] at e
      exact .cons (Dz.dp d _ h e.1) (DzA.dp ds _ t e.2)
end
theorem Dz.same {d : PyData} {v : V} (h : Dz K H ex v d) (s : Same H H') : Dz K H' ex v d := Dz.ch (.of s) d v h
theorem DzA.same {d : List PyData} {v : List V} (h : DzA K H ex v d) (s : Same H H') : DzA K H' ex v d := DzA.ch (.of s) d v h
theorem Dz.cc {d : PyData} {v : V} (h : Dz K H ex v d) (c : Ch K ex H H') : Dz K H' ex v d := Dz.ch c d v h
theorem DzA.cc {d : List PyData} {v : List V} (h : DzA K H ex v d) (c : Ch K ex H H') : DzA K H' ex v d := DzA.ch c d v h
variable {vs us : List V} {ds es : List PyData}
theorem DzA.len (h : DzA K H ex vs ds) : vs.length = ds.length := by
  induction ds generalizing vs with
  | nil => cases h; rfl
  | cons d ds ih => cases h with | cons h t => rw [List.length_cons, List.length_cons, ih t]
theorem DzA.at_ (h : DzA K H ex vs ds) : ∀ {i : Nat} {v : V}, vs[i]? = some v → ∃ d, ds[i]? = some d ∧ Dz K H ex v d := by
  induction ds generalizing vs with
  | nil => cases h; intro i v e; simp at e
  | cons d ds ih =>
    cases h with
    | cons h t =>
      intro i v e
      cases i with
      | zero => cases (Option.some.inj e); exact ⟨_, rfl, h⟩
      | succ i => exact ih t e
theorem DzA.app (h : DzA K H ex vs ds) (g : DzA K H ex us es) : DzA K H ex (vs ++ us) (ds ++ es) := by
  induction ds generalizing vs with
  | nil => cases h; exact g
  | cons d ds ih => cases h with | cons h t => exact .cons h (ih t)
theorem DzA.drop (h : DzA K H ex vs ds) (n : Nat) : DzA K H ex (vs.drop n) (ds.drop n) := by
  induction ds generalizing vs n with
  | nil => cases h; rw [List.drop_nil, List.drop_nil]; exact .nil
  | cons d ds ih =>
    cases h with
    | cons h t =>
      cases n with
      | zero => exact .cons h t
      | succ n => exact ih t n
theorem DzA.take (h : DzA K H ex vs ds) (n : Nat) : DzA K H ex (vs.take n) (ds.take n) := by
  induction ds generalizing vs n with
  | nil => cases h; rw [List.take_nil, List.take_nil]; exact .nil
  | cons d ds ih =>
    cases h with
    | cons h t =>
      cases n with
      | zero => exact .nil
      | succ n => exact .cons h (ih t n)
theorem DzA.set {v : V} {d : PyData} (h : DzA K H ex vs ds) (j : Nat) (g : Dz K H ex v d) : DzA K H ex (vs.set j v) (ds.set j d) := by
  induction ds generalizing vs j with
  | nil => cases h; exact .nil
  | cons d ds ih =>
    cases h with
    | cons h t =>
      cases j with
      | zero => exact .cons g t
      | succ j => exact .cons h (ih t j)
theorem DzA.rep (h : DzA K H ex vs ds) : ∀ k : Nat, DzA K H ex (List.replicate k vs).flatten (List.replicate k ds).flatten
  | 0 => .nil
  | k + 1 => by
    rw [List.replicate_succ, List.replicate_succ, List.flatten_cons, List.flatten_cons]
    exact h.app (DzA.rep h k)
theorem DzA.of_mem : ∀ {vs : List V}, (∀ v ∈ vs, ∃ d, Dz K H ex v d) → ∃ ds, DzA K H ex vs ds
  | [], _ => ⟨[], .nil⟩
  | v :: vs, h => by
    obtain ⟨d, c⟩ := h v (List.mem_cons_self ..)
    obtain ⟨ds, t⟩ := DzA.of_mem fun x hx => h x (List.mem_cons_of_mem _ hx)
    exact ⟨d :: ds, .cons c t⟩
/-! ### kinds -/
def tyD : PyData → String
  | .none => "NoneType"
  | .bool _ => "bool"
  | .int _ => "int"
  | .str _ => "str"
  | .list _ => "list"
  | .tuple _ => "tuple"
  | .dict _ => "dict"
theorem Dz.ty {v : V} {d : PyData} (h : Dz K H ex v d) : TyX K H v (.type (tyD d)) := by
  cases h with
  | non => exact .base .non
  | bl b => exact .base (.bl _)
  | int i => exact .base (.int _)
  | str x => exact .base (.str _)
  | lst h hn t => exact .base (.lst h)
  | tup h t => exact tyT h
  | dct h hn => exact .base (.dK h)
def isL : PyData → Bool
  | .list _ => true
  | _ => false
def isT : PyData → Bool
  | .tuple _ => true
  | _ => false
def isI : PyData → Bool
  | .int _ => true
  | _ => false
def isIB : PyData → Bool
  | .int _ => true
  | .bool _ => true
  | _ => false
def isB : PyData → Bool
  | .bool _ => true
  | _ => false
def isS : PyData → Bool
  | .str _ => true
  | _ => false
theorem kit_isL (d : PyData) : kitB (tyD d) "list" = some (isL d) := by
  cases d with
  | none => show kitB "NoneType" "list" = some false; decide +kernel
  | bool x => show kitB "bool" "list" = some false; decide +kernel
  | int x => show kitB "int" "list" = some false; decide +kernel
  | str x => show kitB "str" "list" = some false; decide +kernel
  | list x => show kitB "list" "list" = some true; decide +kernel
  | tuple x => show kitB "tuple" "list" = some false; decide +kernel
  | dict x => show kitB "dict" "list" = some false; decide +kernel
theorem kit_isT (d : PyData) : kitB (tyD d) "tuple" = some (isT d) := by
  cases d with
  | none => show kitB "NoneType" "tuple" = some false; decide +kernel
  | bool x => show kitB "bool" "tuple" = some false; decide +kernel
  | int x => show kitB "int" "tuple" = some false; decide +kernel
  | str x => show kitB "str" "tuple" = some false; decide +kernel
  | list x => show kitB "list" "tuple" = some false; decide +kernel
  | tuple x => show kitB "tuple" "tuple" = some true; decide +kernel
  | dict x => show kitB "dict" "tuple" = some false; decide +kernel
theorem kit_isIB (d : PyData) : kitB (tyD d) "int" = some (isIB d) := by
  cases d with
  | none => show kitB "NoneType" "int" = some false; decide +kernel
  | bool x => show kitB "bool" "int" = some true; decide +kernel
  | int x => show kitB "int" "int" = some true; decide +kernel
  | str x => show kitB "str" "int" = some false; decide +kernel
  | list x => show kitB "list" "int" = some false; decide +kernel
  | tuple x => show kitB "tuple" "int" = some false; decide +kernel
  | dict x => show kitB "dict" "int" = some false; decide +kernel
theorem kit_isB (d : PyData) : kitB (tyD d) "bool" = some (isB d) := by
  cases d with
  | none => show kitB "NoneType" "bool" = some false; decide +kernel
  | bool x => show kitB "bool" "bool" = some true; decide +kernel
  | int x => show kitB "int" "bool" = some false; decide +kernel
  | str x => show kitB "str" "bool" = some false; decide +kernel
  | list x => show kitB "list" "bool" = some false; decide +kernel
  | tuple x => show kitB "tuple" "bool" = some false; decide +kernel
  | dict x => show kitB "dict" "bool" = some false; decide +kernel
theorem kit_isS (d : PyData) : kitB (tyD d) "str" = some (isS d) := by
  cases d with
  | none => show kitB "NoneType" "str" = some false; decide +kernel
  | bool x => show kitB "bool" "str" = some false; decide +kernel
  | int x => show kitB "int" "str" = some false; decide +kernel
  | str x => show kitB "str" "str" = some true; decide +kernel
  | list x => show kitB "list" "str" = some false; decide +kernel
  | tuple x => show kitB "tuple" "str" = some false; decide +kernel
  | dict x => show kitB "dict" "str" = some false; decide +kernel
/-- how many things a list has -/
def lenD : PyData → Option Nat
  | .list ds => some ds.length
  | _ => none
def lenOk : Option Nat → Int → Int → Bool
  | some n, lo, hi => decide (lo ≤ (n : Int)) && decide ((n : Int) ≤ hi)
  | none, _, _ => false
/-- the fraction that a thing is -/
def ratD : PyData → Option Rat
  | .tuple [.int t, .int b] => if 1 ≤ b ∧ Int.gcd t b = 1 then some (Rat.divInt t b) else none
  | _ => none
theorem ratD_num {t b : Int} (h1 : 1 ≤ b) (hg : Int.gcd t b = 1) : (Rat.divInt t b).num = t ∧ ((Rat.divInt t b).den : Int) = b := by
  have e1 := Fr.low_num (t := t) (b := b) (by omega)
  have e2 := Fr.low_den (t := t) (b := b) (by omega)
  rw [hg] at e1 e2
  rw [← e1, ← e2]
  exact ⟨Int.fdiv_one _, Int.fdiv_one _⟩
theorem Dz.rat {v : V} {d : PyData} {q : Rat} (h : Dz K H ex v d) (e : ratD d = some q) : ∃ a, v = .ref a ∧ SqT K H a (rp q) ∧ d = dR q := by
  unfold ratD at e
  split at e
  · rename_i t b
    split at e
    · rename_i c
      obtain ⟨e1, e2⟩ := ratD_num c.1 c.2
      cases e
      cases h with
      | @tup a xs _ h ts =>
        cases ts with
        | cons h1 ts =>
          cases ts with
          | cons h2 ts =>
            cases ts
            cases h1
            cases h2
            refine ⟨a, rfl, ?_, ?_⟩
            · unfold rp
              rw [e1, e2]
              exact h
            · unfold dR
              rw [e1, e2]
    · cases e
  · cases e
theorem ratD_dR (q : Rat) : ratD (dR q) = some q := by
  show (if 1 ≤ (q.den : Int) ∧ Int.gcd q.num q.den = 1 then some (Rat.divInt q.num q.den) else none) = some q
  have := Fr.den_pos q
  rw [if_pos ⟨by omega, Fr.ratio_gcd q⟩, Rat.num_divInt_den]
theorem dz_dR {a : Addr} {q : Rat} (h : SqT K H a (rp q)) : Dz K H ex (.ref a) (dR q) := .tup h (.cons (.int _) (.cons (.int _) .nil))
def shD (d : PyData) : Bool := match ratD d with
  | some q => decide (0 ≤ q.num)
  | none => false
def sumD (ds : List PyData) : Rat := (ds.map fun d => (ratD d).getD 0).sum
/-- things that are all fractions -/
theorem DzA.rats {n : Nat} (h : DzA K H ex vs ds) (hb : ∀ d ∈ ds, ∀ q, ratD d = some q → Bd n q) (g : ds.all (fun d => (ratD d).isSome) = true) : ∃ qs, ds = qs.map dR ∧ FrN K H n vs qs := by
  induction ds generalizing vs with
  | nil => cases h; exact ⟨[], rfl, FrN.nil⟩
  | cons d ds ih =>
    cases h with
    | @cons v vs _ _ h t =>
      rw [List.all_cons, Bool.and_eq_true] at g
      obtain ⟨qs, e1, e2⟩ := ih t (fun x hx => hb x (List.mem_cons_of_mem _ hx)) g.2
      obtain ⟨q, eq⟩ := Option.isSome_iff_exists.mp g.1
      obtain ⟨a, rfl, e3, e4⟩ := h.rat eq
      refine ⟨q :: qs, by rw [e4, e1]; rfl, ⟨by rw [List.length_cons, List.length_cons, e2.len], fun i x e => ?_⟩⟩
      cases i with
      | zero => cases (Option.some.inj e); exact ⟨a, q, rfl, rfl, e3, hb d (List.mem_cons_self ..) q eq⟩
      | succ i => exact e2.at_ i x e
theorem frn_dz : ∀ {vs : List V} {qs : List Rat} {n : Nat}, FrN K H n vs qs → DzA K H ex vs (qs.map dR)
  | [], [], _, _ => .nil
  | [], _ :: _, _, h => by have := h.len; simp at this
  | _ :: _, [], _, h => by have := h.len; simp at this
  | v :: vs, q :: qs, n, h => by
    obtain ⟨a, q', e1, rfl, e3, e4⟩ := h.at_ 0 v rfl
    cases (Option.some.inj e1)
    exact .cons (dz_dR e3) (frn_dz (n := n) ⟨by have := h.len; simpa using this, fun i v e => h.at_ (i + 1) v e⟩)
theorem rows_dz : ∀ {rs : List Addr} {rss : List (List Rat)} {n : Nat}, RowsAt K H n rs rss → (∀ r ∈ rs, ¬ ex r) → DzA K H ex (rs.map V.ref) (rss.map fun qs => .list (qs.map dR))
  | [], [], _, _, _ => .nil
  | [], _ :: _, _, h, _ => by have := h.1; simp at this
  | _ :: _, [], _, h, _ => by have := h.1; simp at this
  | r :: rs, q :: rss, n, h, hn => by
    obtain ⟨cs, qs, e1, e2, e3⟩ := h.2 0 r rfl
    have e : q = qs := Option.some.inj e1
    subst e
    exact .cons (.lst e2 (hn r (List.mem_cons_self ..)) (frn_dz e3)) (rows_dz (n := n) ⟨by have := h.1; simpa using this, fun j x e => h.2 (j + 1) x e⟩ fun r hr => hn r (List.mem_cons_of_mem _ hr))
end
/-! ### shown -/
section
variable {X : Cx} {pins : List (Addr × Obj)} {σ : L2.St} {H : Hp} {s : Shared} {ex : Addr → Prop}
mutual
theorem Dz.repk (I : Inv X pins σ H s) : ∀ (d : PyData) (v : V) (u : Value), Dz X.K H ex v d → RelV v u → d.showable = true → d.shown.length ≤ sizeLine → ∃ as bs, Reads s.heap u d as ∧ ReadAtMost s.heap d.depth bs ∧ ReprK X.prog X.w bs s.heap d.depth u d.shown
  | .none, _, _, h, r, _, _ => by
    cases h
    cases r
    exact ⟨[], [], .none, fun _ z => (nomatch z), ReprK.of_is ReprIs.none [] _ _⟩
  | .bool b, _, _, h, r, _, _ => by
    cases h
    cases r
    exact ⟨[], [], .bool b, fun _ z => (nomatch z), ReprK.of_is (ReprIs.bool b) [] _ _⟩
  | .int i, _, _, h, r, hs, _ => by
    cases h
    obtain ⟨t, rfl⟩ := r
    exact ⟨[], [], .int i t, fun _ z => (nomatch z), ReprK.of_is (ReprIs.int t (of_decide_eq_true hs)) [] _ _⟩
  | .str x, _, _, h, r, _, hz => by
    cases h
    obtain ⟨t, rfl⟩ := r
    exact ⟨[], [], .str x t, fun _ z => (nomatch z), ReprK.of_is (ReprIs.str x t hz) [] _ _⟩
  | .list ds, _, _, h, r, hs, hz => by
    cases h with
    | @lst a xs _ h hn t =>
      cases r
      obtain ⟨_, its, n, rv, e⟩ := (show ObjOk X.prog X.w H s.heap a (.lst xs) from I.hok a _ h)
      have hz1 : (listText (PyData.shownAll ds)).length ≤ sizeLine := hz
      obtain ⟨as, bs, h1, h2, h3⟩ := DzA.repk I ds xs its t rv hs fun y hy => Nat.le_trans (listText_mem_le hy) hz1
      have rd : Reads s.heap (.ref a) (.list ds) (a :: as) := .list e rfl rfl h1
      have na : a ∉ bs := not_mem_of_deeper rd (Nat.lt_succ_self _) h2
      refine ⟨_, a :: bs, rd, ReadAtMost.cons rd (Nat.le_succ _) h2, ?_⟩
      cases its with
      | nil =>
        cases h1
        exact ReprK.listEmpty e rfl rfl
      | cons x l => exact ReprK.list e rfl rfl na (by simpa using h3.length_eq) fun i y z => h3.item i y (by simpa using z)
  | .tuple ds, _, _, h, r, hs, hz => by
    cases h with
    | @tup a xs _ h t =>
      cases r
      obtain ⟨its, rv, ⟨o, ho, hc, n, hd⟩, _⟩ := I.tuple h
      have hz1 : (tupleText (PyData.shownAll ds)).length ≤ sizeLine := hz
      obtain ⟨as, bs, h1, h2, h3⟩ := DzA.repk I ds xs its t rv hs fun y hy => Nat.le_trans (tupleText_mem_le hy) hz1
      have rd : Reads s.heap (.ref a) (.tuple ds) as := .tuple ho hc hd h1
      exact ⟨_, a :: bs, rd, ReadAtMost.cons rd (Nat.le_succ _) h2, ReprK.tuple ho hc hd (not_mem_of_deeper rd (Nat.lt_succ_self _) h2) h3⟩
  | .dict ds, _, _, h, r, _, _ => by
    cases h with
    | @dct a h hn =>
      cases r
      obtain ⟨_, hns, vs, hkv, o, es, ep, h1, h2, h3, h4, h5, _⟩ := (show ObjOk X.prog X.w H s.heap a (.dK []) from I.hok a _ h)
      cases hkv
      have he : es.toList = [] := List.eq_nil_of_length_eq_zero h5.length
      have rd : Reads s.heap (.ref a) (.dict []) (a :: [] ++ []) := .dict h1 h2.1 h3 (by rw [he]; exact .nil) (by rw [he]; exact .nil)
      refine ⟨_, [a], rd, ReadAtMost.cons (n := 0) (bs := []) rd (Nat.zero_le _) (fun _ z => (nomatch z)), ReprK.dict (d := 0) (ps := []) h1 h2.1 h3 hns (by simp) (by rw [he]; exact .nil)⟩
theorem DzA.repk (I : Inv X pins σ H s) : ∀ (ds : List PyData) (vs : List V) (us : List Value), DzA X.K H ex vs ds → Vals vs us → PyData.showableAll ds = true → (∀ t ∈ PyData.shownAll ds, t.length ≤ sizeLine) → ∃ as bs, ReadsAll s.heap us ds as ∧ ReadAtMost s.heap (PyData.depthAll ds) bs ∧ ReprAllK X.prog X.w bs s.heap (PyData.depthAll ds) us (PyData.shownAll ds)
  | [], _, _, h, r, _, _ => by
    cases h
    cases r
    exact ⟨[], [], .nil, fun _ z => (nomatch z), .nil⟩
  | d :: ds, _, _, h, r, hs, hz => by
    cases h with
    | cons h t =>
      cases r with
      | cons r1 r2 =>
        have hs' : d.showable = true ∧ PyData.showableAll ds = true := Bool.and_eq_true _ _ ▸ (show (d.showable && PyData.showableAll ds) = true from hs)
        obtain ⟨as, bs, a1, a2, a3⟩ := Dz.repk I d _ _ h r1 hs'.1 (hz _ (List.mem_cons_self ..))
        obtain ⟨cs, es, b1, b2, b3⟩ := DzA.repk I ds _ _ t r2 hs'.2 fun y hy => hz y (List.mem_cons_of_mem _ hy)
        refine ⟨as ++ cs, bs ++ es, .cons a1 b1, fun b hb => ?_, .cons ((a3.more fun b hb => List.mem_append_left _ hb).level_le (Nat.le_max_left _ _)) (b3.more_le (fun b hb => List.mem_append_right _ hb) (Nat.le_max_right _ _))⟩
        rcases List.mem_append.mp hb with hb | hb
        · obtain ⟨x, y, z1, z2⟩ := a2 b hb
          exact ⟨x, y, z1, Nat.le_trans z2 (Nat.le_max_left _ _)⟩
        · obtain ⟨x, y, z1, z2⟩ := b2 b hb
          exact ⟨x, y, z1, Nat.le_trans z2 (Nat.le_max_right _ _)⟩
end
/-- repr of a list that is not empty -/
def rReprZ (K : PySem.W.Frag) : List V → Hp → VK → Prop := fun xs H Q => ∃ (ex : Addr → Prop) (x : V) (d : PyData) (ds : List PyData), xs = [x] ∧ Dz K H ex x (.list (d :: ds)) ∧ (PyData.list (d :: ds)).showable = true ∧ (PyData.list (d :: ds)).depth ≤ 64 ∧ (PyData.list (d :: ds)).shown.length ≤ sizeLine ∧ Q (.str (PyData.list (d :: ds)).shown) H
theorem call_reprZ {X : Cx} (hgd : X.A.guards = some []) (hu : X.A.units + 80 < cLine) : CallR X (.builtin "repr") (rReprZ X.K) := by
  intro pins s σ H xs us Q I r h
  obtain ⟨ex, x, d, ds, rfl, hd, hs, hdp, hsz, q⟩ := h
  cases r with
  | @cons _ u _ _ ru rn =>
    cases rn
    cases hd with
    | @lst a xs _ h hn t =>
      cases ru
      obtain ⟨_, its, n, rv, e⟩ := (show ObjOk X.prog X.w H s.heap a (.lst xs) from I.hok a _ h)
      have hz1 : (listText (PyData.shownAll (d :: ds))).length ≤ sizeLine := hsz
      obtain ⟨as, bs, h1, h2, h3⟩ := DzA.repk I (d :: ds) xs its t rv hs fun y hy => Nat.le_trans (listText_mem_le hy) hz1
      have rd : Reads s.heap (.ref a) (.list (d :: ds)) (a :: as) := .list e rfl rfl h1
      have na : a ∉ bs := not_mem_of_deeper rd (Nat.lt_succ_self _) h2
      have hdp' : PyData.depthAll (d :: ds) + 1 ≤ 64 := hdp
      cases its with
      | nil => cases h1
      | cons x l =>
        refine call_repr_slot (by omega) ⟨_, e, rfl⟩ F.slot_list_repr.toG (call_list_reprK e rfl rfl na (by simpa using h3.length_eq) (fun i y z => h3.item i y (by simpa using z)) hgd (fun b _ => Clear.nil b) (by show X.A.units + 1 + (_ + 1) < cLine; omega) (fun _ _ z => z) (fun h' u tk hk => ⟨_, _, rfl, ?_⟩) hz1)
        exact ⟨.str (PyData.list (d :: ds)).shown, H, I.kept (t' := tk) hk, ⟨_, rfl⟩, q⟩
end
/-! ### how long what is shown is -/
theorem textFrom_le : ∀ (ts : List Str) (k : Nat) (acc : Str), (textFrom k acc ts).length ≤ acc.length + piled ts
  | [], k, acc => Nat.le_add_right _ _
  | t :: ts, k, acc => by
    have h := textFrom_le ts (k + 1) (acc ++ (if k > 0 then ", " else "" : String) ++ t)
    rw [strLen_append, strLen_append] at h
    rw [piled_cons]
    have e : textFrom k acc (t :: ts) = textFrom (k + 1) (acc ++ (if k > 0 then ", " else "" : String) ++ t) ts := rfl
    rw [e]
    have hc : (((if k > 0 then ", " else "" : String) : Str)).length ≤ 2 := by split <;> decide
    omega
theorem listText_le (ts : List Str) : (listText ts).length ≤ 2 + piled ts := by
  have h := textFrom_le ts 0 "["
  unfold listText
  rw [strLen_append]
  have h1 : (("[" : String) : Str).length = 1 := by decide
  have h2 : (("]" : String) : Str).length = 1 := by decide
  omega
theorem tupleText_le (ts : List Str) : (tupleText ts).length ≤ 3 + piled ts := by
  unfold tupleText
  rw [strLen_append, strLen_append]
  have h1 : (("(" : String) : Str).length = 1 := by decide
  have h2 : (((if ts.length == 1 then ",)" else ")" : String) : Str)).length ≤ 2 := by split <;> decide
  cases ts with
  | nil =>
    have h3 : (Str.join ", " []).length = 0 := by decide
    omega
  | cons t ts =>
    have h3 := join_length_add (t :: ts) (by simp)
    omega
theorem piled_le {ts : List Str} {b : Nat} (h : ∀ t ∈ ts, t.length ≤ b) : piled ts ≤ ts.length * (b + 2) := by
  induction ts with
  | nil => exact Nat.zero_le _
  | cons t ts ih =>
    rw [piled_cons, List.length_cons, Nat.succ_mul]
    have h1 := h t (List.mem_cons_self ..)
    have h2 := ih fun x hx => h x (List.mem_cons_of_mem _ hx)
    omega
/-- data that can be shown, of so many levels, no longer than b -/
structure Sm (d : PyData) (k b : Nat) : Prop where
  sh : d.showable = true
  dp : d.depth ≤ k
  sz : d.shown.length ≤ b
  ly : d.canLay0 = true
theorem Sm.mono {d : PyData} {k b k' b' : Nat} (h : Sm d k b) (hk : k ≤ k') (hb : b ≤ b') : Sm d k' b' := ⟨h.sh, Nat.le_trans h.dp hk, Nat.le_trans h.sz hb, h.ly⟩
theorem shownAll_len : ∀ ds : List PyData, (PyData.shownAll ds).length = ds.length
  | [] => by simp only [PyData.shownAll, List.length_nil]
  | d :: ds => by simp only [PyData.shownAll, List.length_cons, shownAll_len ds]
theorem shownAll_mem : ∀ {ds : List PyData} {t : Str}, t ∈ PyData.shownAll ds → ∃ d ∈ ds, t = d.shown
  | [], t, h => by simp only [PyData.shownAll] at h; exact nomatch h
  | d :: ds, t, h => by
    simp only [PyData.shownAll, List.mem_cons] at h
    rcases h with rfl | h
    · exact ⟨d, List.mem_cons_self .., rfl⟩
    · obtain ⟨x, hx, e⟩ := shownAll_mem h
      exact ⟨x, List.mem_cons_of_mem _ hx, e⟩
theorem sm_piled {ds : List PyData} {k b n : Nat} (h : ∀ d ∈ ds, Sm d k b) (hn : ds.length ≤ n) : piled (PyData.shownAll ds) ≤ n * (b + 2) := by
  have h1 := piled_le (ts := PyData.shownAll ds) (b := b) fun t ht => by
    obtain ⟨d, hd, rfl⟩ := shownAll_mem ht
    exact (h d hd).sz
  rw [shownAll_len] at h1
  exact Nat.le_trans h1 (Nat.mul_le_mul_right _ hn)
theorem sm_shs : ∀ {ds : List PyData} {k b : Nat}, (∀ d ∈ ds, Sm d k b) → PyData.showableAll ds = true
  | [], _, _, _ => by simp only [PyData.showableAll]
  | d :: ds, k, b, h => by simp only [PyData.showableAll, (h d (List.mem_cons_self ..)).sh, sm_shs fun x hx => h x (List.mem_cons_of_mem _ hx), Bool.and_self]
theorem sm_lys : ∀ {ds : List PyData} {k b : Nat}, (∀ d ∈ ds, Sm d k b) → PyData.canLayAll0 ds = true
  | [], _, _, _ => rfl
  | d :: ds, k, b, h => by
    show (PyData.canLay0 d && PyData.canLayAll0 ds) = true
    rw [(h d (List.mem_cons_self ..)).ly, sm_lys fun x hx => h x (List.mem_cons_of_mem _ hx)]
    rfl
theorem sm_dps : ∀ {ds : List PyData} {k b : Nat}, (∀ d ∈ ds, Sm d k b) → PyData.depthAll ds ≤ k
  | [], _, _, _ => Nat.zero_le _
  | d :: ds, k, b, h => by
    show max (PyData.depth d) (PyData.depthAll ds) ≤ k
    have h1 := (h d (List.mem_cons_self ..)).dp
    have h2 := sm_dps fun x hx => h x (List.mem_cons_of_mem _ hx)
    omega
theorem sm_list {ds : List PyData} {k b n c : Nat} (h : ∀ d ∈ ds, Sm d k b) (hn : ds.length ≤ n) (hc : 3 + n * (b + 2) ≤ c) : Sm (.list ds) (k + 1) c := by
  refine ⟨by simp only [PyData.showable]; exact sm_shs h, ?_, ?_, sm_lys h⟩
  · have := sm_dps h
    show PyData.depthAll ds + 1 ≤ k + 1
    omega
  · have h1 := listText_le (PyData.shownAll ds)
    have h2 := sm_piled h hn
    simp only [PyData.shown]
    omega
theorem sm_tup {ds : List PyData} {k b n c : Nat} (h : ∀ d ∈ ds, Sm d k b) (hn : ds.length ≤ n) (hc : 3 + n * (b + 2) ≤ c) : Sm (.tuple ds) (k + 1) c := by
  refine ⟨by simp only [PyData.showable]; exact sm_shs h, ?_, ?_, sm_lys h⟩
  · have := sm_dps h
    show PyData.depthAll ds + 1 ≤ k + 1
    omega
  · have h1 := tupleText_le (PyData.shownAll ds)
    have h2 := sm_piled h hn
    simp only [PyData.shown]
    omega
end Dz

set_option Elab.async false
set_option linter.all false
set_option maxRecDepth 100000
set_option maxHeartbeats 4000000
namespace Cs
open PySem PySem.Spec PyProof.Rows L2 BX EXB Co Ru
open Dz
open Fr (Bd)
def itemsD : PyData → List PyData
  | .list ds => ds
  | _ => []
def spWholeZ (K : PySem.W.Frag) : Sp := fun vs H Q _ => ∃ (ex : Addr → Prop) (v : V) (d : PyData), vs = [v] ∧ Dz.Dz K H ex v d ∧ Q (.bl (isI d)) H
def spIsRZ (K : PySem.W.Frag) : Sp := fun vs H Q _ => ∃ (ex : Addr → Prop) (v : V) (d : PyData), vs = [v] ∧ Dz.Dz K H ex v d ∧ Q (.bl (ratD d).isSome) H
def spShareZ (K : PySem.W.Frag) : Sp := fun vs H Q _ => ∃ (ex : Addr → Prop) (v : V) (d : PyData), vs = [v] ∧ Dz.Dz K H ex v d ∧ Q (.bl (shD d)) H
def spListOfZ (K : PySem.W.Frag) : Sp := fun vs H Q _ => ∃ (ex : Addr → Prop) (v : V) (d : PyData) (lo hi : Int), vs = [v, .int lo, .int hi] ∧ Dz.Dz K H ex v d ∧ Q (.bl (lenOk (lenD d) lo hi)) H
def rowOkZ (d : PyData) (lo hi : Int) : Bool := lenOk (lenD d) lo hi && (itemsD d).all fun e => (ratD e).isSome
def firstWrongZ : List PyData → Nat → Int → Int → Option Nat
  | [], _, _, _ => none
  | d :: ds, j, lo, hi => if rowOkZ d lo hi = true then firstWrongZ ds (j + 1) ((itemsD d).length : Int) ((itemsD d).length : Int) else some j
theorem firstWrongZ_drop {ds : List PyData} {i : Nat} {d : PyData} {lo hi : Int} (h : ds[i]? = some d) : firstWrongZ (ds.drop i) i lo hi = if rowOkZ d lo hi = true then firstWrongZ (ds.drop (i + 1)) (i + 1) ((itemsD d).length : Int) ((itemsD d).length : Int) else some i := by
  have hi' : i < ds.length := (List.getElem?_eq_some_iff.mp h).1
  have e : ds[i] = d := (List.getElem?_eq_some_iff.mp h).2
  rw [List.drop_eq_getElem_cons hi', e, firstWrongZ]
def spRowZ (K : PySem.W.Frag) : Sp := fun vs H Q _ => ∃ (ex : Addr → Prop) (v : V) (d : PyData) (lo hi : Int), vs = [v, .int lo, .int hi] ∧ Dz.Dz K H ex v d ∧ hi ≤ 6 ∧ ∀ H', Same H H' → Q (.bl (rowOkZ d lo hi)) H'
def optI : Option Nat → V
  | none => .non
  | some j => .int (j : Nat)
def spWrongZ (K : PySem.W.Frag) (fR : Addr) : Sp := fun vs H Q _ => ∃ (ex : Addr → Prop) (a : Addr) (rs : List V) (ds : List PyData) (lo hi : Int), vs = [.ref a, .ref fR, .int lo, .int hi] ∧ H a = some (.lst rs) ∧ DzA K H ex rs ds ∧ hi ≤ 6 ∧ ∀ H', Same H H' → Q (optI (firstWrongZ ds 0 lo hi)) H'
def firstNot (p : PyData → Bool) : List PyData → Nat → Option Nat
  | [], _ => none
  | d :: ds, j => if p d = true then firstNot p ds (j + 1) else some j
theorem firstNot_drop {p : PyData → Bool} {ds : List PyData} {i : Nat} {d : PyData} (h : ds[i]? = some d) : firstNot p (ds.drop i) i = if p d = true then firstNot p (ds.drop (i + 1)) (i + 1) else some i := by
  have hi' : i < ds.length := (List.getElem?_eq_some_iff.mp h).1
  have e : ds[i] = d := (List.getElem?_eq_some_iff.mp h).2
  rw [List.drop_eq_getElem_cons hi', e, firstNot]
theorem firstNot_all {p : PyData → Bool} : ∀ {ds : List PyData} {j : Nat}, firstNot p ds j = none → ds.all p = true
  | [], _, _ => rfl
  | d :: ds, j, h => by
    rw [firstNot] at h
    split at h
    · rename_i c
      rw [List.all_cons, c, firstNot_all h]
      rfl
    · cases h
def numS : Option Nat → Rat → Option V
  | some j, _ => some (.int (j : Nat))
  | none, s => if s = 1 then none else some .non
/-- what is wrong with shares: its number -/
def badS (d : PyData) : Option V := if lenOk (lenD d) 1 5 = true then numS (firstNot shD (itemsD d) 0) (sumD (itemsD d)) else some .non
def badG (d : PyData) (ww lo hi : Int) : Option V := if lenOk (lenD d) ww ww = true then (firstWrongZ (itemsD d) 0 lo hi).map fun j => V.int (j : Nat) else some .non
def deedsD (d : PyData) : Nat := (itemsD ((itemsD d).headD .none)).length
def orP (p : Str) (o : Option V) (r : Option (Str × V)) : Option (Str × V) :=
  match o with
  | some n => some (p, n)
  | none => r
def badC (ds dh dt : PyData) : Option (Str × V) := orP "shares" (badS ds) (orP "hearer" (badG dh ((itemsD ds).length : Int) 1 6) (orP "teller" (badG dt ((itemsD ds).length : Int) (deedsD dh : Int) (deedsD dh : Int)) none))
/-- fractions of few figures -/
def Few (n : Nat) (ds : List PyData) : Prop := ∀ d ∈ ds, ∀ q, ratD d = some q → Bd n q
def spChkS (K : PySem.W.Frag) (CN : Addr) : Sp := fun vs H Q E => ∃ (ex : Addr → Prop) (v : V) (d : PyData), vs = [v] ∧ Dz.Dz K H ex v d ∧ Few 1000 (itemsD d) ∧
  (∀ r, badS d = some r → ∀ H' dd, Same H H' → H' dd = some (.xd [("number", r), ("part", .str "shares")]) → E (.ref CN) (some dd) H') ∧ (badS d = none → ∀ H', Same H H' → Q .non H')
def spChkG (K : PySem.W.Frag) (CN : Addr) : Sp := fun vs H Q E => ∃ (ex : Addr → Prop) (pt : Str) (v : V) (d : PyData) (ww lo hi : Int), vs = [.str pt, v, .int ww, .int lo, .int hi] ∧ Dz.Dz K H ex v d ∧ hi ≤ 6 ∧
  (∀ r, badG d ww lo hi = some r → ∀ H' dd, Same H H' → H' dd = some (.xd [("number", r), ("part", .str pt)]) → E (.ref CN) (some dd) H') ∧ (badG d ww lo hi = none → ∀ H', Same H H' → Q .non H')
/-- a case that stands -/
def IsCase (K : PySem.W.Frag) (H : Hp) (C x : Addr) (qs : List Rat) (hss tss : List (List Rat)) (n : Nat) : Prop := ∃ (dx sa ha ta : Addr) (cs : List V) (rh rt : List Addr), H x = some (.ins C dx [("own_shares", .ref sa), ("own_hearer", .ref ha), ("own_teller", .ref ta)]) ∧ H sa = some (.lst cs) ∧ FrN K H n cs qs ∧ RwL K H ha rh hss n ∧ RwL K H ta rt tss n
theorem IsCase.same {K : PySem.W.Frag} {H H' : Hp} {C x : Addr} {qs : List Rat} {hss tss : List (List Rat)} {n : Nat} (h : IsCase K H C x qs hss tss n) (s : Same H H') : IsCase K H' C x qs hss tss n :=
  let ⟨dx, sa, ha, ta, cs, rh, rt, e1, e2, e3, e4, e5⟩ := h; ⟨dx, sa, ha, ta, cs, rh, rt, s _ _ e1, s _ _ e2, e3.same s, e4.same s, e5.same s⟩
abbrev dS (qs : List Rat) : PyData := .list (qs.map dR)
/-- good parts of a case -/
structure GoodC (qs : List Rat) (hss tss : List (List Rat)) (ww dd : Nat) : Prop where
  w1 : 1 ≤ ww
  w5 : ww ≤ 5
  d1 : 1 ≤ dd
  d6 : dd ≤ 6
  sh : RowOk ww qs
  hl : hss.length = ww
  tl : tss.length = ww
  hr : ∀ r ∈ hss, r.length = dd
  tr : ∀ r ∈ tss, r.length = dd
theorem lenOk_iff {n : Nat} {lo hi : Int} : lenOk (some n) lo hi = true ↔ lo ≤ (n : Int) ∧ (n : Int) ≤ hi := by
  show (decide _ && decide _) = true ↔ _
  rw [Bool.and_eq_true, decide_eq_true_eq, decide_eq_true_eq]
theorem lenOk_list {d : PyData} {lo hi : Int} (h : lenOk (lenD d) lo hi = true) : ∃ ds, d = .list ds ∧ lo ≤ (ds.length : Int) ∧ (ds.length : Int) ≤ hi := by
  cases d with
  | list ds => exact ⟨ds, rfl, lenOk_iff.mp h⟩
  | _ => cases h
theorem all_dR (qs : List Rat) : (qs.map dR).all (fun e => (ratD e).isSome) = true := by
  rw [List.all_eq_true]
  intro d hd
  obtain ⟨q, _, rfl⟩ := List.mem_map.mp hd
  rw [ratD_dR]
  rfl
theorem shD_dR (q : Rat) : shD (dR q) = decide (0 ≤ q.num) := by
  unfold shD
  rw [ratD_dR]
theorem sumD_dR (qs : List Rat) : sumD (qs.map dR) = qs.sum := by
  unfold sumD
  rw [List.map_map]
  congr 1
  have : ((fun d => (ratD d).getD 0) ∘ dR) = id := by
    funext q
    show (ratD (dR q)).getD 0 = q
    rw [ratD_dR]
    rfl
  rw [this, List.map_id]
theorem firstNot_good {qs : List Rat} (h : ∀ q ∈ qs, 0 ≤ q) : ∀ {j : Nat}, firstNot shD (qs.map dR) j = none := by
  induction qs with
  | nil => intro j; rfl
  | cons q qs ih =>
    intro j
    show firstNot shD (dR q :: qs.map dR) j = none
    rw [firstNot, if_pos (by rw [shD_dR]; exact decide_eq_true (Rat.num_nonneg.mpr (h q (List.mem_cons_self ..))))]
    exact ih fun x hx => h x (List.mem_cons_of_mem _ hx)
theorem badS_good {qs : List Rat} {ww : Nat} (h : RowOk ww qs) (h1 : 1 ≤ ww) (h5 : ww ≤ 5) : badS (dS qs) = none := by
  unfold badS
  have e : lenOk (lenD (dS qs)) 1 5 = true := lenOk_iff.mpr (by rw [List.length_map, h.1]; omega)
  rw [if_pos e]
  show numS (firstNot shD (qs.map dR) 0) (sumD (qs.map dR)) = none
  rw [firstNot_good h.2.1, sumD_dR, h.2.2]
  rfl
theorem fwz_good {dd : Nat} : ∀ (rss : List (List Rat)) (j : Nat) (lo hi : Int), (∀ r ∈ rss, r.length = dd) → lo ≤ (dd : Int) → (dd : Int) ≤ hi → firstWrongZ (rss.map fun qs => .list (qs.map dR)) j lo hi = none
  | [], _, _, _, _, _, _ => rfl
  | q :: rss, j, lo, hi, h, h1, h2 => by
    have hq := h q (List.mem_cons_self ..)
    have c : rowOkZ (.list (q.map dR)) lo hi = true := by
      unfold rowOkZ
      have e : lenOk (lenD (.list (q.map dR))) lo hi = true := lenOk_iff.mpr (by rw [List.length_map, hq]; exact ⟨h1, h2⟩)
      rw [e]
      exact all_dR q
    show firstWrongZ (.list (q.map dR) :: rss.map fun qs => .list (qs.map dR)) j lo hi = none
    rw [firstWrongZ, if_pos c]
    have e : ((itemsD (.list (q.map dR))).length : Int) = (dd : Int) := by
      show ((q.map dR).length : Int) = _
      rw [List.length_map, hq]
    rw [e]
    exact fwz_good rss _ _ _ (fun r hr => h r (List.mem_cons_of_mem _ hr)) (Int.le_refl _) (Int.le_refl _)
theorem badG_good {rss : List (List Rat)} {ww dd : Nat} {lo hi : Int} (hl : rss.length = ww) (hr : ∀ r ∈ rss, r.length = dd) (h1 : lo ≤ (dd : Int)) (h2 : (dd : Int) ≤ hi) : badG (dRows rss) (ww : Int) lo hi = none := by
  unfold badG
  have e : lenOk (lenD (dRows rss)) (ww : Int) (ww : Int) = true := lenOk_iff.mpr (by rw [List.length_map, hl]; omega)
  rw [if_pos e]
  show (firstWrongZ (rss.map fun qs => .list (qs.map dR)) 0 lo hi).map _ = none
  rw [fwz_good rss 0 lo hi hr h1 h2]
  rfl
theorem badC_good {qs : List Rat} {hss tss : List (List Rat)} {ww dd : Nat} (g : GoodC qs hss tss ww dd) : badC (dS qs) (dRows hss) (dRows tss) = none := by
  have e0 := badS_good g.sh g.w1 g.w5
  have el : ((itemsD (dS qs)).length : Int) = (ww : Int) := by
    show ((qs.map dR).length : Int) = _
    rw [List.length_map, g.sh.1]
  have ed : deedsD (dRows hss) = dd := by
    have := g.w1
    have := g.hl
    cases hss with
    | nil => simp at this; omega
    | cons r hss =>
      show (r.map dR).length = dd
      rw [List.length_map]
      exact g.hr r (List.mem_cons_self ..)
  have h1 := g.d1
  have h6 := g.d6
  unfold badC
  rw [e0]
  rw [el, badG_good g.hl g.hr (by omega) (by omega), ed, badG_good g.tl g.tr (Int.le_refl _) (Int.le_refl _)]
  rfl
/-- rows that are let by are rows of fractions -/
theorem rows_of {K : PySem.W.Frag} {H : Hp} {ex : Addr → Prop} {n : Nat} : ∀ {ds : List PyData} {vs : List V} {j : Nat} {lo hi : Int}, DzA K H ex vs ds → (∀ d ∈ ds, Few n (itemsD d)) → firstWrongZ ds j lo hi = none → ∃ rs rss, vs = rs.map V.ref ∧ ds = rss.map (fun qs => PyData.list (qs.map dR)) ∧ RowsAt K H n rs rss
  | [], _, _, _, _, h, _, _ => by cases h; exact ⟨[], [], rfl, rfl, RowsAt.nil⟩
  | d :: ds, _, j, lo, hi, h, hf, e => by
    cases h with
    | @cons v vs _ _ h t =>
      rw [firstWrongZ] at e
      split at e
      · rename_i c
        obtain ⟨rs, rss, e1, e2, e3⟩ := rows_of t (fun x hx => hf x (List.mem_cons_of_mem _ hx)) e
        unfold rowOkZ at c
        rw [Bool.and_eq_true] at c
        obtain ⟨es, rfl, _, _⟩ := lenOk_list c.1
        cases h with
        | @lst a cs _ h hn ts =>
          obtain ⟨qs, f1, f2⟩ := ts.rats (n := n) (hf _ (List.mem_cons_self ..)) c.2
          refine ⟨a :: rs, qs :: rss, by rw [e1]; rfl, by rw [e2, f1]; rfl, ⟨by rw [List.length_cons, List.length_cons, e3.1], fun j x e => ?_⟩⟩
          cases j with
          | zero => cases (Option.some.inj e); exact ⟨cs, qs, rfl, h, f2⟩
          | succ j => exact e3.2 j x e
      · cases e
/-- Case(shares, hearer, teller), of any things -/
def spCInit (K : PySem.W.Frag) (C CN : Addr) : Sp := fun vs H Q E => ∃ (ex : Addr → Prop) (n : Nat) (x dx : Addr) (vs0 vh vt : V) (ds dh dt : PyData), vs = [.ref x, vs0, vh, vt] ∧ H x = some (.ins C dx []) ∧ Dz.Dz K H ex vs0 ds ∧ Dz.Dz K H ex vh dh ∧ Dz.Dz K H ex vt dt ∧
  n ≤ 1000 ∧ Few n (itemsD ds) ∧ (∀ d ∈ itemsD dh, Few n (itemsD d)) ∧ (∀ d ∈ itemsD dt, Few n (itemsD d)) ∧
  (∀ p r, badC ds dh dt = some (p, r) → ∀ H' dd, Same H H' → H' dd = some (.xd [("number", r), ("part", .str p)]) → E (.ref CN) (some dd) H') ∧
  (badC ds dh dt = none → ∀ sa ha ta cs rh rt qs hss tss H', (∀ b ob, b ≠ x → H b = some ob → H' b = some ob) → H' x = some (.ins C dx [("own_shares", .ref sa), ("own_hearer", .ref ha), ("own_teller", .ref ta)]) → H' sa = some (.lst cs) → FrN K H' n cs qs → RwL K H' ha rh hss n → RwL K H' ta rt tss n →
    ds = dS qs → dh = dRows hss → dt = dRows tss → Q .non H')
end Cs

set_option Elab.async false
set_option linter.all false
set_option maxRecDepth 100000
set_option maxHeartbeats 4000000
namespace Lw
open PySem PySem.Spec PyProof.Rows L2 BX EXB Co Ru
open Dz Cs
open Fr (Bd)
def spGain (K : PySem.W.Frag) : Sp := fun vs H Q _ => ∃ (l : Addr) (z : Int), vs = [.ref l] ∧ H l = some (.lst [.int z]) ∧ ∀ p q z' H', SameB l H H' → H' l = some (.lst [.int z']) → SqT K H' p (rp q) → Bd 8 q → Q (.ref p) H'
def spGains (K : PySem.W.Frag) : Sp := fun vs H Q _ => ∃ (l : Addr) (z : Int) (ww dd : Nat), vs = [.ref l, .int (ww : Int), .int (dd : Int)] ∧ H l = some (.lst [.int z]) ∧ ww ≤ 5 ∧ dd ≤ 6 ∧
  ∀ D rs rss z' H', New K H H' l D rs rss 8 → D ≠ l → H' l = some (.lst [.int z']) → rss.length = ww → (∀ r ∈ rss, r.length = dd) → Q (.ref D) H'
/-- the law's parts of a case -/
def PartsAt (K : PySem.W.Frag) (H : Hp) (P : Addr) (qs : List Rat) (hss tss : List (List Rat)) : Prop := ∃ (A B C : Addr) (cs : List V) (rh rt : List Addr), H P = some (.lst [.ref A, .ref B, .ref C]) ∧ H A = some (.lst cs) ∧ FrN K H 8 cs qs ∧ RwL K H B rh hss 8 ∧ RwL K H C rt tss 8
theorem PartsAt.same {K : PySem.W.Frag} {H H' : Hp} {P : Addr} {qs : List Rat} {hss tss : List (List Rat)} (h : PartsAt K H P qs hss tss) (s : Same H H') : PartsAt K H' P qs hss tss :=
  let ⟨A, B, C, cs, rh, rt, e1, e2, e3, e4, e5⟩ := h; ⟨A, B, C, cs, rh, rt, s _ _ e1, s _ _ e2, e3.same s, e4.same s, e5.same s⟩
theorem frn_num {K : PySem.W.Frag} {H : Hp} {n : Nat} {z : Int} {qs : List Rat} (h : FrN K H n [.int z] qs) : False := by
  obtain ⟨a, q, _, e, _⟩ := h.at_ 0 _ rfl
  cases e
theorem PartsAt.but {K : PySem.W.Frag} {H H' : Hp} {P l : Addr} {z : Int} {qs : List Rat} {hss tss : List (List Rat)} (h : PartsAt K H P qs hss tss) (hl : H l = some (.lst [.int z])) (s : SameB l H H') : PartsAt K H' P qs hss tss := by
  obtain ⟨A, B, C, cs, rh, rt, e1, e2, e3, e4, e5⟩ := h
  refine ⟨A, B, C, cs, rh, rt, s _ _ (fun e => ?_) e1, s _ _ (fun e => ?_) e2, e3.keep (s.tup hl), Rs.RwL.keepB e4 hl s, Rs.RwL.keepB e5 hl s⟩
  · rw [e, hl] at e1
    cases e1
  · rw [e, hl] at e2
    cases e2
    exact frn_num e3
def spParts (K : PySem.W.Frag) : Sp := fun vs H Q _ => ∃ (l : Addr) (z : Int) (mw md : Nat), vs = [.ref l, .int (mw : Int), .int (md : Int)] ∧ H l = some (.lst [.int z]) ∧ 1 ≤ mw ∧ mw ≤ 5 ∧ 1 ≤ md ∧ md ≤ 6 ∧
  ∀ P qs hss tss ww dd z' H', SameB l H H' → H' l = some (.lst [.int z']) → PartsAt K H' P qs hss tss → GoodC qs hss tss ww dd → ww ≤ mw → dd ≤ md → H P = none → P ≠ l → Q (.ref P) H'
theorem bd_one : Bd 8 (1 : Rat) := ⟨by decide, by decide⟩
theorem bd_nul : Bd 8 (0 : Rat) := ⟨by decide, by decide⟩
theorem tab5 {d : Int} (h0 : 0 ≤ d) (h5 : d < 5) : ∃ v : Int, atI [V.int 1, V.int 1, V.int 1, V.int 2, V.int 3] d = some (V.int v) ∧ 1 ≤ v ∧ v ≤ 3 := by
  have : d = 0 ∨ d = 1 ∨ d = 2 ∨ d = 3 ∨ d = 4 := by omega
  rcases this with rfl | rfl | rfl | rfl | rfl
  · exact ⟨1, atI_nat (j := 0) rfl, by decide, by decide⟩
  · exact ⟨1, atI_nat (j := 1) rfl, by decide, by decide⟩
  · exact ⟨1, atI_nat (j := 2) rfl, by decide, by decide⟩
  · exact ⟨2, atI_nat (j := 3) rfl, by decide, by decide⟩
  · exact ⟨3, atI_nat (j := 4) rfl, by decide, by decide⟩
end Lw

set_option Elab.async false
set_option linter.all false
set_option maxRecDepth 100000
set_option maxHeartbeats 4000000
namespace Hr
open PySem PySem.Spec PyProof.Rows L2 BX EXB Co Ru
open Dz Cs
open Fr (Bd)
/-! ### a def's promise, asked of less -/
theorem less {P : Program} {w : World} {K : PySem.W.Frag} {mg : Str → Option Value} {base : Heap} {CX : CXT} {k : Nat} {f : Addr} {fd : FuncData} {ps : List Str} {sp sp' : Sp} (F : FnOk P w K mg base CX k f fd ps sp) (h : ∀ vs H Q E, sp' vs H Q E → sp vs H Q E) : FnOk P w K mg base CX k f fd ps sp' :=
  ⟨fun vs H Q E z => F.len vs H Q E (h _ _ _ _ z), fun A outer s H args us vs Q E hr e b r z => F.run A outer s H args us vs Q E hr e b r (h _ _ _ _ z)⟩
/-! ### calls by names -/
section
variable {X : Cx} {CX : CXT} {k : Nat} {f : Addr} {fd : FuncData} {ps ks : List Str} {sp : Sp} {E : XK} {x : Str} {p pos : Pos} {kws : List Keyword} {tk : TA} {g : List Value → List Value → List Value} {gV : List V → List V → List V}
/-- f(k = v, ..), by names alone -/
theorem pe_callN0 (F : FnOk X.prog X.w X.K X.mg X.base CX k f fd ps sp) (hr : Room k X.A) (hg : Gl X x) (hm : X.mg x = some (.ref f)) (hk : PySem.W.keepIn X.K (.ref f) = true) (hb : KBn X.K fd ps 0 ks g gV) (hx : Passes CX X E)
    (hkw : PK X kws tk) (hall : (backToKw pos (keywordEach kws X.env)).all (·.1.isSome) = true := by rfl) (hks : (backToKw pos (keywordEach kws X.env)).filterMap (·.1) = ks := by rfl)
    (hdb : (x == ("__debug__" : Str)) = false := by decide) (hpl : ((backTo pos (starEach [] X.env)).any (·.1) || (backToKw pos (keywordEach kws X.env)).any (·.1.isNone)) = false := by rfl) :
    PE X (.Call (.Name x p) [] kws pos) (tCallN 0 ks.length sp gV E tNil tk) := by
  constructor
  intro pins s σ H Q I h
  apply wpAny_Call_Name_kw
  apply ld_glob I hg hm _ hdb
  apply PySem.W.callWith_KW0 (h₀ := X.base) I.ok.mod.kin hk hall _ hpl
  refine thn (hkw.run pos pins s σ H _ I h) ?_
  rintro ws s2 ⟨zs, H2, I2, rz, l1, l2, q2⟩
  rw [hks]
  exact ⟨I2.kIn, run_fnN F hr hb hx I2 .nil rz l1 l2 q2⟩
end
theorem kbn_of {K : PySem.W.Frag} {x qual : Str} {st : Stmt} {f : Addr} {fd : FuncData} {ps ks : List Str} {n : Nat} (g : {α : Type} → List α → List α → List α) (F : Fun K x qual st f fd)
    (hrel : ∀ {vs : List V} {us : List Value} {zs : List V} {ws : List Value}, Vals vs us → Vals zs ws → Vals (g vs zs) (g us ws))
    (h : ∀ (kV doc pm : Value) (an : Option Addr) (cdv ct : Value) (us ws : List Value), us.length = n → ws.length = ks.length → bindArgs (PySem.W.fnOf x qual (defArgs st) (defBody st) (defScope st) .none kV doc pm an cdv ct) ⟨us, ks.zip ws⟩ = pure (ps.zip (g us ws))) : KBn K fd ps n ks g g := by
  obtain ⟨oc, od, kV, doc, pm, an, cdv, ct, osl, rfl, lk, hcd⟩ := F.ex
  exact ⟨fun s us ws _ l1 l2 => .of_eq (h kV doc pm an cdv ct us ws l1 l2), hrel⟩
/-- first the values, then the names' -/
def gA : {α : Type} → List α → List α → List α := fun us ws => us ++ ws
theorem gA_rel {vs : List V} {us : List Value} {zs : List V} {ws : List Value} (a : Vals vs us) (b : Vals zs ws) : Vals (gA vs zs) (gA us ws) := a.append b
/-! ### numbers -/
theorem bd_sum {n : Nat} : ∀ {qs : List Rat}, (∀ q ∈ qs, Bd n q) → Bd ((n + 1) * qs.length + 1) qs.sum
  | [], _ => ⟨by show (0 : Int).natAbs < 2 ^ 1; decide, by show 1 < 2 ^ 1; decide⟩
  | q :: qs, h => by
    rw [List.sum_cons, List.length_cons]
    exact (Fr.bd_add (h q (List.mem_cons_self ..)) (bd_sum fun x hx => h x (List.mem_cons_of_mem _ hx))).mono (by rw [Nat.mul_succ]; omega)
theorem frn_get {K : PySem.W.Frag} {H : Hp} {n : Nat} {cs : List V} {qs : List Rat} (h : FrN K H n cs qs) {i : Nat} {q : Rat} (e : qs[i]? = some q) : ∃ a, cs[i]? = some (.ref a) ∧ SqT K H a (rp q) ∧ Bd n q := by
  have hi : i < cs.length := by
    rw [h.len]
    exact (List.getElem?_eq_some_iff.mp e).1
  obtain ⟨a, q', e1, e2, e3, e4⟩ := h.at_ i _ (List.getElem?_eq_getElem hi)
  rw [e] at e1
  cases e1
  exact ⟨a, by rw [List.getElem?_eq_getElem hi, e2], e3, e4⟩
theorem frn_bd {K : PySem.W.Frag} {H : Hp} {n : Nat} {cs : List V} {qs : List Rat} (h : FrN K H n cs qs) : ∀ q ∈ qs, Bd n q := fun q hq => by
  obtain ⟨i, hi, e⟩ := List.getElem_of_mem hq
  obtain ⟨_, _, _, b⟩ := frn_get h (show qs[i]? = some q by rw [List.getElem?_eq_getElem hi, e])
  exact b
theorem lt_iff' (a b : Rat) : decide (a.num * b.den < b.num * a.den) = decide (a < b) := by
  have := Rat.lt_iff a b
  simp only [this]
/-! ### what deeds are worth -/
def prods (rss : List (List Rat)) (ws : List Rat) (d : Nat) : List Rat := List.zipWith (fun w r => w * r.getD d 0) ws rss
def wq (rss : List (List Rat)) (ws : List Rat) (d : Nat) : Rat := (prods rss ws d).sum
theorem prods_at {rss : List (List Rat)} {ws : List Rat} {d i : Nat} {q : Rat} {r : List Rat} (h1 : ws[i]? = some q) (h2 : rss[i]? = some r) : (prods rss ws d)[i]? = some (q * r.getD d 0) := by
  unfold prods
  rw [List.getElem?_zipWith, h1, h2]
theorem prods_len {rss : List (List Rat)} {ws : List Rat} {d : Nat} (h : ws.length = rss.length) : (prods rss ws d).length = ws.length := by
  unfold prods
  rw [List.length_zipWith]
  omega
/-- a table of gains by weights -/
def spWorth (K : PySem.W.Frag) : Sp := fun vs H Q _ => ∃ (a b : Addr) (d : Nat) (rs : List Addr) (rss : List (List Rat)) (cs : List V) (ws : List Rat) (n m dd : Nat), vs = [.ref a, .ref b, .int (d : Int)] ∧ RwL K H a rs rss n ∧ SqL K H b cs ∧ FrN K H m cs ws ∧ ws.length = rss.length ∧ rss.length ≤ 5 ∧ (∀ r ∈ rss, r.length = dd) ∧ d < dd ∧ n ≤ 280 ∧ m ≤ 280 ∧
  ∀ p H', Same H H' → SqT K H' p (rp (wq rss ws d)) → Bd ((n + m + 1) * 5 + 1) (wq rss ws d) → Q (.ref p) H'
theorem bd_wq {K : PySem.W.Frag} {H : Hp} {a : Addr} {rs : List Addr} {rss : List (List Rat)} {cs : List V} {ws : List Rat} {n m d : Nat} (h1 : RwL K H a rs rss n) (h2 : FrN K H m cs ws) (hd : ∀ r ∈ rss, d < r.length) (hl : ws.length = rss.length) (h5 : rss.length ≤ 5) : (∀ q ∈ prods rss ws d, Bd (n + m) q) ∧ Bd ((n + m + 1) * 5 + 1) (wq rss ws d) := by
  have hb : ∀ q ∈ prods rss ws d, Bd (n + m) q := fun q hq => by
    unfold prods at hq
    obtain ⟨i, hi, e⟩ := List.getElem_of_mem hq
    rw [List.length_zipWith] at hi
    have hw : i < ws.length := by omega
    have hr : i < rss.length := by omega
    have e2 : (List.zipWith (fun w r => w * r.getD d 0) ws rss)[i]? = some (ws[i] * rss[i].getD d 0) := prods_at (List.getElem?_eq_getElem hw) (List.getElem?_eq_getElem hr)
    have eq : q = ws[i] * rss[i].getD d 0 := by
      rw [← e]
      have := List.getElem?_eq_some_iff.mp e2
      exact this.2
    rw [eq]
    have b1 := frn_bd h2 ws[i] (List.getElem_mem hw)
    have hrs : i < rs.length := by rw [h1.2.1]; exact hr
    obtain ⟨cs', qs, f1, f2, f3⟩ := h1.2.2 i rs[i] (List.getElem?_eq_getElem hrs)
    rw [List.getElem?_eq_getElem hr] at f1
    cases f1
    have hdl := hd rss[i] (List.getElem_mem hr)
    have b2 : Bd n (rss[i].getD d 0) := by
      rw [List.getD_eq_getElem?_getD, List.getElem?_eq_getElem hdl]
      exact frn_bd f3 _ (List.getElem_mem hdl)
    exact (Fr.bd_mul b1 b2).mono (by omega)
  refine ⟨hb, (bd_sum hb).mono ?_⟩
  have : (prods rss ws d).length ≤ 5 := by rw [prods_len hl]; omega
  have := Nat.mul_le_mul_left (n + m + 1) this
  omega
/-! ### the greatest -/
def spGreatest (K : PySem.W.Frag) : Sp := fun vs H Q _ => ∃ (a : Addr) (cs : List V) (qs : List Rat) (n : Nat), vs = [.ref a] ∧ SqL K H a cs ∧ FrN K H n cs qs ∧ qs ≠ [] ∧ n ≤ 4400 ∧
  ∀ (i : Nat) (p : Addr) (q : Rat), cs[i]? = some (.ref p) → qs[i]? = some q → SqT K H p (rp q) → (∀ x ∈ qs, x ≤ q) → Q (.ref p) H
/-! ### good things alone -/
def spWithin : Sp := fun vs H Q _ => ∃ i lo hi : Int, vs = [.int i, .int lo, .int hi] ∧ Q (.bl (decide (lo ≤ i) && decide (i ≤ hi))) H
def spWholeI : Sp := fun vs H Q _ => ∃ i : Int, vs = [.int i] ∧ Q (.bl true) H
def spShare (K : PySem.W.Frag) : Sp := fun vs H Q _ => ∃ (a : Addr) (q : Rat), vs = [.ref a] ∧ SqT K H a (rp q) ∧ 0 ≤ q ∧ Q (.bl true) H
def spListOf (K : PySem.W.Frag) : Sp := fun vs H Q _ => ∃ (a : Addr) (xs : List V) (lo hi : Int), vs = [.ref a, .int lo, .int hi] ∧ H a = some (.lst xs) ∧ Q (.bl (decide (lo ≤ (xs.length : Int)) && decide ((xs.length : Int) ≤ hi))) H
def spShRow (K : PySem.W.Frag) : Sp := fun vs H Q _ => ∃ (r : Addr) (cs : List V) (qs : List Rat) (n m : Nat) (lo hi : Int), vs = [.ref r, .int lo, .int hi] ∧ H r = some (.lst cs) ∧ FrN K H n cs qs ∧ RowOk m qs ∧ m ≤ 30 ∧ n ≤ 280 ∧ lo ≤ (m : Int) ∧ (m : Int) ≤ hi ∧ ∀ H', Same H H' → Q (.bl true) H'
def spWrong (K : PySem.W.Frag) (fR : Addr) : Sp := fun vs H Q _ => ∃ (a : Addr) (rs : List Addr) (rss : List (List Rat)) (n m : Nat), vs = [.ref a, .ref fR, .int 1, .int 30] ∧ RwL K H a rs rss n ∧ Good rss m ∧ n ≤ 280 ∧ ∀ H', Same H H' → Q .non H'
section
variable {P : Program} {w : World} {K : PySem.W.Frag} {mg : Str → Option Value} {base : Heap} {k : Nat} {f : Addr} {fd : FuncData} {ps : List Str}
theorem wholeI (F : FnOk P w K mg base CX0 k f fd ps (spWholeZ K)) : FnOk P w K mg base CX0 k f fd ps spWholeI := less F fun vs H Q E ⟨i, e, q⟩ => ⟨fun _ => False, .int i, .int i, e, .int i, q⟩
theorem shareG (F : FnOk P w K mg base CX0 k f fd ps (spShareZ K)) : FnOk P w K mg base CX0 k f fd ps (spShare K) := less F fun vs H Q E ⟨a, r, e, ha, h0, q⟩ => ⟨fun _ => False, .ref a, dR r, e, dz_dR ha, by
  rw [shD_dR, decide_eq_true (Rat.num_nonneg.mpr h0)]
  exact q⟩
end
/-! ### what a case tells -/
def spCWorlds (K : PySem.W.Frag) (C : Addr) : Sp := fun vs H Q _ => ∃ (x : Addr) (qs : List Rat) (hss tss : List (List Rat)) (n : Nat), vs = [.ref x] ∧ IsCase K H C x qs hss tss n ∧ Q (.int (qs.length : Int)) H
def spCDeeds (K : PySem.W.Frag) (C : Addr) : Sp := fun vs H Q _ => ∃ (x : Addr) (qs : List Rat) (hss tss : List (List Rat)) (n ww dd : Nat), vs = [.ref x] ∧ IsCase K H C x qs hss tss n ∧ GoodC qs hss tss ww dd ∧ Q (.int (dd : Int)) H
def spCShares (K : PySem.W.Frag) (C : Addr) : Sp := fun vs H Q _ => ∃ (x : Addr) (qs : List Rat) (hss tss : List (List Rat)) (n : Nat), vs = [.ref x] ∧ IsCase K H C x qs hss tss n ∧ ∀ p cs, H p = none → FrN K H n cs qs → Q (.ref p) (upd H p (.lst cs))
def spCHearer (K : PySem.W.Frag) (C : Addr) : Sp := fun vs H Q _ => ∃ (x : Addr) (qs : List Rat) (hss tss : List (List Rat)) (n : Nat), vs = [.ref x] ∧ IsCase K H C x qs hss tss n ∧ hss.length ≤ 100 ∧ ∀ D rs H', Fresh K H H' D rs hss n → Q (.ref D) H'
def spCTeller (K : PySem.W.Frag) (C : Addr) : Sp := fun vs H Q _ => ∃ (x : Addr) (qs : List Rat) (hss tss : List (List Rat)) (n : Nat), vs = [.ref x] ∧ IsCase K H C x qs hss tss n ∧ tss.length ≤ 100 ∧ ∀ D rs H', Fresh K H H' D rs tss n → Q (.ref D) H'
structure CaM (K : PySem.W.Frag) (C fW fD fS fH fT : Addr) : Prop where
  mW : Meth K C "worlds" fW
  mD : Meth K C "deeds" fD
  mS : Meth K C "shares" fS
  mH : Meth K C "hearer" fH
  mT : Meth K C "teller" fT
/-! ### deeds -/
/-- the best deeds -/
def bestL (hss : List (List Rat)) (ws : List Rat) (dd : Nat) : List Nat := (List.range dd).filter fun d => decide (∀ e, e < dd → wq hss ws e ≤ wq hss ws d)
/-- a case and weights for it -/
structure Wts (K : PySem.W.Frag) (H : Hp) (C x b : Addr) (qs : List Rat) (hss tss : List (List Rat)) (ws : List Rat) (n m ww dd : Nat) : Prop where
  c : IsCase K H C x qs hss tss n
  g : GoodC qs hss tss ww dd
  b : ∃ cs, H b = some (.lst cs) ∧ FrN K H m cs ws
  l : ws.length = ww
  hn : n ≤ 280
  hm : m ≤ 280
theorem Wts.same {K : PySem.W.Frag} {H H' : Hp} {C x b : Addr} {qs : List Rat} {hss tss : List (List Rat)} {ws : List Rat} {n m ww dd : Nat} (h : Wts K H C x b qs hss tss ws n m ww dd) (s : Same H H') : Wts K H' C x b qs hss tss ws n m ww dd :=
  let ⟨cs, e1, e2⟩ := h.b
  ⟨h.c.same s, h.g, ⟨cs, s _ _ e1, e2.same s⟩, h.l, h.hn, h.hm⟩
def spChkB (K : PySem.W.Frag) (C : Addr) : Sp := fun vs H Q _ => ∃ (x b : Addr) (qs : List Rat) (hss tss : List (List Rat)) (ws : List Rat) (n m ww dd : Nat), vs = [.ref x, .ref b] ∧ Wts K H C x b qs hss tss ws n m ww dd ∧ RowOk ww ws ∧ ∀ H', Same H H' → Q .non H'
/-- a list of deeds, as values -/
def dsV (l : List Nat) : List V := l.map fun (d : Nat) => V.int (d : Int)
def spBestBy (K : PySem.W.Frag) (C : Addr) : Sp := fun vs H Q _ => ∃ (x b : Addr) (qs : List Rat) (hss tss : List (List Rat)) (ws : List Rat) (n m ww dd : Nat), vs = [.ref x, .ref b] ∧ Wts K H C x b qs hss tss ws n m ww dd ∧ ∀ p H', Same H H' → SqT K H' p (dsV (bestL hss ws dd)) → Q (.ref p) H'
def spBest (K : PySem.W.Frag) (C : Addr) : Sp := fun vs H Q _ => ∃ (x b : Addr) (qs : List Rat) (hss tss : List (List Rat)) (ws : List Rat) (n m ww dd : Nat), vs = [.ref x, .ref b] ∧ Wts K H C x b qs hss tss ws n m ww dd ∧ RowOk ww ws ∧ ∀ p H', Same H H' → SqT K H' p (dsV (bestL hss ws dd)) → Q (.ref p) H'
def spWorths (K : PySem.W.Frag) (C : Addr) : Sp := fun vs H Q _ => ∃ (x b : Addr) (d : Nat) (qs : List Rat) (hss tss : List (List Rat)) (ws : List Rat) (n m ww dd : Nat), vs = [.ref x, .ref b, .int (d : Int)] ∧ Wts K H C x b qs hss tss ws n m ww dd ∧ RowOk ww ws ∧ d < dd ∧
  ∀ p p1 p2 H', Same H H' → SqT K H' p [.ref p1, .ref p2] → SqT K H' p1 (rp (wq hss ws d)) → SqT K H' p2 (rp (wq tss ws d)) → Q (.ref p) H'
/-! ### the greatest of the worths -/
def worthL (hss : List (List Rat)) (ws : List Rat) (dd : Nat) : List Rat := (List.range dd).map (wq hss ws)
theorem worthL_at {hss : List (List Rat)} {ws : List Rat} {dd d : Nat} (h : d < dd) : (worthL hss ws dd)[d]? = some (wq hss ws d) := by
  unfold worthL
  rw [List.getElem?_map, List.getElem?_range h]
  rfl
theorem worthL_len {hss : List (List Rat)} {ws : List Rat} {dd : Nat} : (worthL hss ws dd).length = dd := by
  unfold worthL
  rw [List.length_map, List.length_range]
theorem take_succ_at {α : Type} {l : List α} {i : Nat} {x : α} (h : l[i]? = some x) : l.take (i + 1) = l.take i ++ [x] := by
  rw [List.take_add_one, h]
  rfl
theorem range_take {dd i : Nat} (h : i ≤ dd) : (List.range dd).take i = List.range i := by
  rw [List.take_range, Nat.min_eq_left h]
theorem best_iff {hss : List (List Rat)} {ws : List Rat} {dd d : Nat} {top : Rat} (h1 : top ∈ worthL hss ws dd) (h2 : ∀ x ∈ worthL hss ws dd, x ≤ top) (hd : d < dd) : decide (wq hss ws d = top) = decide (∀ e, e < dd → wq hss ws e ≤ wq hss ws d) := by
  apply decide_eq_decide.mpr
  constructor
  · intro e e' he
    rw [e]
    exact h2 _ (List.mem_of_getElem? (worthL_at he))
  · intro h
    have hle := h2 _ (List.mem_of_getElem? (worthL_at hd))
    obtain ⟨j, hj, e⟩ := List.mem_map.mp h1
    have := h j (List.mem_range.mp hj)
    rw [e] at this
    exact Rat.le_antisymm hle this
theorem best_ne {hss : List (List Rat)} {ws : List Rat} {dd : Nat} {top : Rat} (h1 : top ∈ worthL hss ws dd) (h2 : ∀ x ∈ worthL hss ws dd, x ≤ top) : bestL hss ws dd ≠ [] := by
  intro e
  obtain ⟨j, hj, ej⟩ := List.mem_map.mp h1
  have hj' := List.mem_range.mp hj
  have : j ∈ bestL hss ws dd := by
    unfold bestL
    refine List.mem_filter.mpr ⟨hj, ?_⟩
    rw [← best_iff h1 h2 hj']
    exact decide_eq_true ej
  rw [e] at this
  cases this
end Hr

set_option Elab.async false
set_option linter.all false
set_option maxRecDepth 100000
set_option maxHeartbeats 4000000
namespace Hr
open PySem PySem.Spec PyProof.Rows L2 BX EXB Co Ru
/-- xs + ys, each a list of any standing -/
def rCatS (K : PySem.W.Frag) : R2 := fun x y H Q => ∃ (l b : Addr) (xs zs : List V), x = .ref l ∧ y = .ref b ∧ SqL K H l xs ∧ SqL K H b zs ∧ xs.length + zs.length ≤ sizeLine ∧ ∀ p, H p = none → Q (.ref p) (upd H p (.lst (xs ++ zs)))
theorem op_catS {X : Cx} : OpR X (binaryOp .Add) (rCatS X.K) := by
  rintro pins s σ H x y v u Q I rx ry ⟨l, b, xs, zs, rfl, rfl, hA, hB, hz, q⟩
  cases rx
  cases ry
  obtain ⟨is1, r1, ⟨⟨c1, m1, t1, o1⟩, n1, g1, h1, h1', h1''⟩, _⟩ := I.list hA
  obtain ⟨is2, r2, ⟨⟨c2, m2, t2, o2⟩, n2, g2, h2, h2', h2''⟩, _⟩ := I.list hB
  cases h1
  cases h2
  cases h1''
  cases h2''
  have size : is1.toArray.size + is2.toArray.size ≤ sizeLine := by
    have a1 := r1.length
    have a2 := r2.length
    simp only [List.size_toArray]
    omega
  have go := list_addW l b is1.toArray is2.toArray n1 n2 m1 m2 o1 o2 size
  have k1 : s.TypeIs (.ref l) "list" := ⟨_, g1, rfl⟩
  have k2 : s.TypeIs (.ref b) "list" := ⟨_, g2, rfl⟩
  apply concat_meets k1 k2 noFill_list_add seq_list_add PySem.F.slot_list_add PySem.F.entry_list_add (PySem.F.args_list_add_2 _ _) go
  refine ⟨g1, g2, ?_⟩
  have glue : is1.toArray ++ is2.toArray = (is1 ++ is2).toArray := by simp
  rw [glue]
  have made := I.lnew (t' := s.toks) (r1.append r2) (by rw [List.length_append]; exact hz)
  exact ⟨.ref _, _, made, rfl, q _ I.fresh⟩
end Hr

set_option Elab.async false
set_option linter.all false
set_option maxRecDepth 100000
set_option maxHeartbeats 4000000
namespace Hr
open PySem PySem.Spec PyProof.Rows L2 BX EXB Co Ru
open Dz Cs
open Fr (Bd)
theorem few_dR {n : Nat} {K : PySem.W.Frag} {H : Hp} {cs : List V} {qs : List Rat} (h : FrN K H n cs qs) : Few n (qs.map dR) := fun d hd q e => by
  obtain ⟨r, hr, rfl⟩ := List.mem_map.mp hd
  rw [ratD_dR] at e
  cases e
  obtain ⟨i, hi, e⟩ := List.getElem_of_mem hr
  obtain ⟨a, q', e1, _, _, e4⟩ := h.at_ i (cs[i]'(by rw [h.len]; exact hi)) (List.getElem?_eq_getElem _)
  rw [List.getElem?_eq_getElem hi] at e1
  rw [← e, Option.some.inj e1]
  exact e4
theorem few_rows {n : Nat} {K : PySem.W.Frag} {H : Hp} {rs : List Addr} {rss : List (List Rat)} (h : RowsAt K H n rs rss) : ∀ d ∈ rss.map (fun qs => PyData.list (qs.map dR)), Few n (itemsD d) := fun d hd => by
  obtain ⟨qs, hq, rfl⟩ := List.mem_map.mp hd
  obtain ⟨i, hi, e⟩ := List.getElem_of_mem hq
  have hir : i < rs.length := by rw [h.1]; exact hi
  obtain ⟨cs, qs', e1, _, e3⟩ := h.2 i _ (List.getElem?_eq_getElem hir)
  rw [List.getElem?_eq_getElem hi, e] at e1
  cases (Option.some.inj e1)
  exact few_dR e3
theorem few_mono {n m : Nat} {ds : List PyData} (h : Few n ds) (l : n ≤ m) : Few m ds := fun d hd q e => (h d hd q e).mono l
theorem dRows_inj : ∀ {r1 r2 : List (List Rat)}, dRows r1 = dRows r2 → r1 = r2 := by
  have dRi : ∀ {a b : Rat}, dR a = dR b → a = b := fun {a b} e => by
    have h1 := ratD_dR a
    rw [e, ratD_dR] at h1
    exact (Option.some.inj h1).symm
  intro r1 r2 e
  have e' : (r1.map fun qs => PyData.list (qs.map dR)) = r2.map fun qs => PyData.list (qs.map dR) := by injection e
  refine (List.map_inj_right (fun x y h => ?_)).mp e'
  have h' : x.map dR = y.map dR := by injection h
  exact (List.map_inj_right (fun a b h => dRi h)).mp h'
theorem dS_inj {a b : List Rat} (e : dS a = dS b) : a = b := by
  have h' : a.map dR = b.map dR := by injection e
  refine (List.map_inj_right (fun x y h => ?_)).mp h'
  have h1 := ratD_dR x
  rw [h, ratD_dR] at h1
  exact (Option.some.inj h1).symm
/-- Case(..) of good parts -/
theorem mk_caseN {K : PySem.W.Frag} {n : Nat} (hn : n ≤ 1000) {C CN A B' C' : Addr} {H : Hp} {cs : List V} {rh rt : List Addr} {qs : List Rat} {hss tss : List (List Rat)} {ww dd : Nat} {Q : Addr → Hp → Prop} (e2 : H A = some (.lst cs)) (e3 : FrN K H n cs qs) (e4 : RwL K H B' rh hss n) (e5 : RwL K H C' rt tss n) (g : GoodC qs hss tss ww dd) (q : ∀ x H', Same H H' → H x = none → IsCase K H' C x qs hss tss n → Q x H') :
    ∀ x dx, H x = none → H dx = none → dx ≠ x → spCInit K C CN [.ref x, .ref A, .ref B', .ref C'] (upd (upd H dx (.own x)) x (.ins C dx [])) (fun v H2 => v = .non ∧ Q x H2) E0 := by
  intro x dx hx hdx hne
  have s1 := same_new hdx (.own x)
  have hx1 : (upd H dx (.own x)) x = none := by rw [upd_ne (Ne.symm hne)]; exact hx
  have s2 := s1.trans (same_new hx1 (.ins C dx []))
  refine ⟨fun _ => False, n, x, dx, .ref A, .ref B', .ref C', dS qs, dRows hss, dRows tss, rfl, upd_same, .lst (s2 _ _ e2) (fun z => z) ((frn_dz e3).same s2), .lst (s2 _ _ e4.1) (fun z => z) ((rows_dz e4.2 fun _ _ z => z).same s2), .lst (s2 _ _ e5.1) (fun z => z) ((rows_dz e5.2 fun _ _ z => z).same s2), hn, few_dR e3, few_rows e4.2, few_rows e5.2, fun p r er => ?_, fun _ sa ha ta cs' rh' rt' qs' hss' tss' H' kp hx' g1 g2 g3 g4 i1 i2 i3 => ⟨rfl, ?_⟩⟩
  · rw [badC_good g] at er
    cases er
  · have j1 := dS_inj i1
    have j2 := dRows_inj i2
    have j3 := dRows_inj i3
    subst j1 j2 j3
    exact q x H' (fun b ob e => kp b ob (ne_of_none e hx) (s2 _ _ e)) hx ⟨dx, sa, ha, ta, cs', rh', rt', hx', g1, g2, g3, g4⟩
/-! ### the laws' own helpers -/
def spLSum (K : PySem.W.Frag) : Sp := fun vs H Q _ => ∃ (l : Addr) (cs : List V) (qs : List Rat) (n : Nat), vs = [.ref l] ∧ SqL K H l cs ∧ FrN K H n cs qs ∧ (n + 1) * qs.length + 1 ≤ 8700 ∧ ∀ r H', Same H H' → SqT K H' r (rp qs.sum) → Q (.ref r) H'
/-- new shares, of the digits at l -/
def Shd (K : PySem.W.Frag) (H : Hp) (l : Addr) (m : Nat) (Q : VK) : Prop := ∀ D cs qs z' H', SameB l H H' → H' l = some (.lst [.int z']) → H D = none → D ≠ l → H' D = some (.lst cs) → FrN K H' 8 cs qs → RowOk m qs → Q (.ref D) H'
def spParted (K : PySem.W.Frag) : Sp := fun vs H Q _ => ∃ (l : Addr) (z : Int) (m : Nat) (top : Int), vs = [.ref l, .int (m : Int), .int top] ∧ H l = some (.lst [.int z]) ∧ 1 ≤ m ∧ m ≤ 30 ∧ 1 ≤ top ∧ top ≤ 4 ∧ Shd K H l m Q
def spAllIn (K : PySem.W.Frag) : Sp := fun vs H Q _ => ∃ (l : Addr) (z : Int) (m : Nat), vs = [.ref l, .int (m : Int)] ∧ H l = some (.lst [.int z]) ∧ 1 ≤ m ∧ m ≤ 30 ∧ Shd K H l m Q
def spGain (K : PySem.W.Frag) : Sp := fun vs H Q _ => ∃ (l : Addr) (z : Int), vs = [.ref l] ∧ H l = some (.lst [.int z]) ∧ ∀ p q z' H', SameB l H H' → H' l = some (.lst [.int z']) → SqT K H' p (rp q) → Bd 43 q → Q (.ref p) H'
def spGains (K : PySem.W.Frag) : Sp := fun vs H Q _ => ∃ (l : Addr) (z : Int) (ww dd : Nat), vs = [.ref l, .int (ww : Int), .int (dd : Int)] ∧ H l = some (.lst [.int z]) ∧ ww ≤ 5 ∧ 1 ≤ dd ∧ dd ≤ 6 ∧
  ∀ D rs rss z' H', New K H H' l D rs rss 43 → D ≠ l → H' l = some (.lst [.int z']) → rss.length = ww → (∀ r ∈ rss, r.length = dd) → Q (.ref D) H'
/-- a case's parts, in a tuple -/
def PartsT (K : PySem.W.Frag) (H : Hp) (P : Addr) (qs : List Rat) (hss tss : List (List Rat)) (n : Nat) : Prop := ∃ (A B C : Addr) (cs : List V) (rh rt : List Addr), SqT K H P [.ref A, .ref B, .ref C] ∧ H A = some (.lst cs) ∧ FrN K H n cs qs ∧ RwL K H B rh hss n ∧ RwL K H C rt tss n
theorem PartsT.same {K : PySem.W.Frag} {H H' : Hp} {P : Addr} {qs : List Rat} {hss tss : List (List Rat)} {n : Nat} (h : PartsT K H P qs hss tss n) (s : Same H H') : PartsT K H' P qs hss tss n :=
  let ⟨A, B, C, cs, rh, rt, e1, e2, e3, e4, e5⟩ := h; ⟨A, B, C, cs, rh, rt, seqT s e1, s _ _ e2, e3.same s, e4.same s, e5.same s⟩
theorem frn_ne {K : PySem.W.Frag} {H : Hp} {n : Nat} {a l : Addr} {z : Int} {cs : List V} {qs : List Rat} (h : FrN K H n cs qs) (ha : H a = some (.lst cs)) (hl : H l = some (.lst [.int z])) : a ≠ l := fun e => by
  rw [e, hl] at ha
  cases ha
  exact Lw.frn_num h
theorem PartsT.but {K : PySem.W.Frag} {H H' : Hp} {P l : Addr} {z : Int} {qs : List Rat} {hss tss : List (List Rat)} {n : Nat} (h : PartsT K H P qs hss tss n) (hl : H l = some (.lst [.int z])) (s : SameB l H H') : PartsT K H' P qs hss tss n :=
  let ⟨A, B, C, cs, rh, rt, e1, e2, e3, e4, e5⟩ := h; ⟨A, B, C, cs, rh, rt, s.tup hl _ _ e1, s _ _ (frn_ne e3 e2 hl) e2, e3.keep (s.tup hl), Rs.RwL.keepB e4 hl s, Rs.RwL.keepB e5 hl s⟩
theorem IsCase.but {K : PySem.W.Frag} {H H' : Hp} {C x l : Addr} {z : Int} {qs : List Rat} {hss tss : List (List Rat)} {n : Nat} (h : IsCase K H C x qs hss tss n) (hl : H l = some (.lst [.int z])) (s : SameB l H H') : IsCase K H' C x qs hss tss n :=
  let ⟨dx, sa, ha, ta, cs, rh, rt, e1, e2, e3, e4, e5⟩ := h; ⟨dx, sa, ha, ta, cs, rh, rt, s _ _ (ne_of e1 hl (by intro w; cases w)) e1, s _ _ (frn_ne e3 e2 hl) e2, e3.keep (s.tup hl), Rs.RwL.keepB e4 hl s, Rs.RwL.keepB e5 hl s⟩
def spParts (K : PySem.W.Frag) : Sp := fun vs H Q _ => ∃ (l : Addr) (z : Int) (ww dd : Nat), vs = [.ref l, .int (ww : Int), .int (dd : Int)] ∧ H l = some (.lst [.int z]) ∧ 1 ≤ ww ∧ ww ≤ 5 ∧ 1 ≤ dd ∧ dd ≤ 6 ∧
  ∀ P qs hss tss z' H', SameB l H H' → H' l = some (.lst [.int z']) → PartsT K H' P qs hss tss 43 → GoodC qs hss tss ww dd → Q (.ref P) H'
theorem New.setRow {K : PySem.W.Frag} {H0 H : Hp} {ex D r : Addr} {rs : List Addr} {rss : List (List Rat)} {n i : Nat} {ys cs : List V} {qs : List Rat} (h : New K H0 H ex D rs rss n) (hr : rs[i]? = some r) (hr0 : H r = some (.lst ys)) (hf : FrN K H n cs qs) : New K H0 (upd H r (.lst cs)) ex D rs (rss.set i qs) n := by
  have hm := List.mem_of_getElem? hr
  have sr : SameB r H (upd H r (.lst cs)) := SameB.upd
  refine ⟨by rw [upd_ne (fun e => h.ne (by rw [e]; exact hm))]; exact h.at_, h.nd, h.ne, h.fresh, h.fD, h.nx, fun b o hb e => ?_, by rw [List.length_set]; exact h.rows.1, fun j x ex => ?_⟩
  · rw [upd_ne (ne_of_none e (h.fresh r hm))]
    exact h.keep b o hb e
  · by_cases hij : i = j
    · subst hij
      rw [hr] at ex
      cases ex
      refine ⟨cs, qs, ?_, upd_same, hf.keep (sr.tup hr0)⟩
      have hi : i < rss.length := by
        rw [← h.rows.1]
        exact (List.getElem?_eq_some_iff.mp hr).1
      rw [List.getElem?_set_self hi]
    · obtain ⟨cs', qs', f1, f2, f3⟩ := h.rows.2 j x ex
      have hne : x ≠ r := fun e => by
        subst e
        obtain ⟨a1, a2⟩ := List.getElem?_eq_some_iff.mp hr
        obtain ⟨b1, b2⟩ := List.getElem?_eq_some_iff.mp ex
        have pw := List.pairwise_iff_getElem.mp h.nd
        rcases Nat.lt_or_gt_of_ne hij with z | z
        · exact pw i j a1 b1 z (a2.trans b2.symm)
        · exact pw j i b1 a1 z (b2.trans a2.symm)
      exact ⟨cs', qs', by rw [List.getElem?_set_ne hij]; exact f1, by rw [upd_ne hne]; exact f2, f3.keep (sr.tup hr0)⟩
theorem tabA {w d : Int} (h0 : 0 ≤ d) (h5 : d < 5) : ∃ v : Int, atI [V.int 1, V.int 1, V.int 1, V.int 1, V.int w] d = some (V.int v) ∧ (v = 1 ∨ v = w) := by
  have : d = 0 ∨ d = 1 ∨ d = 2 ∨ d = 3 ∨ d = 4 := by omega
  rcases this with rfl | rfl | rfl | rfl | rfl
  · exact ⟨1, atI_nat (j := 0) rfl, .inl rfl⟩
  · exact ⟨1, atI_nat (j := 1) rfl, .inl rfl⟩
  · exact ⟨1, atI_nat (j := 2) rfl, .inl rfl⟩
  · exact ⟨1, atI_nat (j := 3) rfl, .inl rfl⟩
  · exact ⟨w, atI_nat (j := 4) rfl, .inr rfl⟩
theorem tabB {w d : Int} (h0 : 0 ≤ d) (h5 : d < 6) : ∃ v : Int, atI [V.int 1, V.int 1, V.int 1, V.int 2, V.int 3, V.int w] d = some (V.int v) ∧ (v = 1 ∨ v = 2 ∨ v = 3 ∨ v = w) := by
  have : d = 0 ∨ d = 1 ∨ d = 2 ∨ d = 3 ∨ d = 4 ∨ d = 5 := by omega
  rcases this with rfl | rfl | rfl | rfl | rfl | rfl
  · exact ⟨1, atI_nat (j := 0) rfl, .inl rfl⟩
  · exact ⟨1, atI_nat (j := 1) rfl, .inl rfl⟩
  · exact ⟨1, atI_nat (j := 2) rfl, .inl rfl⟩
  · exact ⟨2, atI_nat (j := 3) rfl, .inr (.inl rfl)⟩
  · exact ⟨3, atI_nat (j := 4) rfl, .inr (.inr (.inl rfl))⟩
  · exact ⟨w, atI_nat (j := 5) rfl, .inr (.inr (.inr rfl))⟩
/-- the law's own best deeds -/
def spLBest (K : PySem.W.Frag) : Sp := fun vs H Q _ => ∃ (a b : Addr) (rs : List Addr) (rss : List (List Rat)) (cs : List V) (ws : List Rat) (n m dd : Nat), vs = [.ref a, .ref b] ∧ RwL K H a rs rss n ∧ SqL K H b cs ∧ FrN K H m cs ws ∧ ws.length = rss.length ∧ 1 ≤ rss.length ∧ rss.length ≤ 5 ∧ (∀ r ∈ rss, r.length = dd) ∧ 1 ≤ dd ∧ dd ≤ 6 ∧ n ≤ 280 ∧ m ≤ 280 ∧
  ∀ p H', Same H H' → H' p = some (.lst (dsV (bestL rss ws dd))) → H p = none → Q (.ref p) H'
theorem any_map {α : Type} (p : α → Bool) (l : List α) : (l.map p).any id = l.any p := by
  induction l with
  | nil => rfl
  | cons x l ih => rw [List.map_cons, List.any_cons, List.any_cons, ih]; rfl
theorem best_any {hss : List (List Rat)} {ws : List Rat} {dd d : Nat} : (!(worthL hss ws dd).any fun x => decide (wq hss ws d < x)) = decide (∀ e, e < dd → wq hss ws e ≤ wq hss ws d) := by
  by_cases h : ∀ e, e < dd → wq hss ws e ≤ wq hss ws d
  · rw [decide_eq_true h, Bool.not_eq_true']
    rw [List.any_eq_false]
    intro x hx
    obtain ⟨e, he, rfl⟩ := List.mem_map.mp hx
    rw [decide_eq_true_eq]
    exact Rat.not_lt.mpr (h e (List.mem_range.mp he))
  · rw [decide_eq_false h]
    have : ∃ e, e < dd ∧ ¬ wq hss ws e ≤ wq hss ws d := by
      apply Classical.byContradiction
      intro z
      exact h fun e he => Classical.byContradiction fun y => z ⟨e, he, y⟩
    obtain ⟨e, he, hn⟩ := this
    have ha : (worthL hss ws dd).any (fun x => decide (wq hss ws d < x)) = true := List.any_eq_true.mpr ⟨wq hss ws e, List.mem_of_getElem? (worthL_at he), decide_eq_true (Rat.not_le.mp hn)⟩
    rw [ha]
    rfl
def spLBel (K : PySem.W.Frag) : Sp := fun vs H Q _ => ∃ (l P : Addr) (z : Int) (qs : List Rat) (hss tss : List (List Rat)) (n m : Nat), vs = [.ref l, .ref P] ∧ H l = some (.lst [.int z]) ∧ PartsT K H P qs hss tss n ∧ qs.length = m ∧ 1 ≤ m ∧ m ≤ 5 ∧ Shd K H l m Q
def spRight (K : PySem.W.Frag) (C : Addr) : Sp := fun vs H Q _ => ∃ (P x b : Addr) (qs : List Rat) (hss tss : List (List Rat)) (ws : List Rat) (cs : List V) (n m ww dd : Nat), vs = [.ref P, .ref x, .ref b] ∧ PartsT K H P qs hss tss n ∧ IsCase K H C x qs hss tss n ∧ GoodC qs hss tss ww dd ∧ H b = some (.lst cs) ∧ FrN K H m cs ws ∧ RowOk ww ws ∧ n ≤ 280 ∧ m ≤ 280 ∧ ∀ H', Same H H' → Q (.bl true) H'
/-! ### data -/
theorem ds_dp {K : PySem.W.Frag} {H : Hp} : ∀ l : List Nat, DpAll K H (dsV l) (l.map fun (d : Nat) => PyData.int (d : Int))
  | [] => .nil
  | d :: l => .cons (.int _) (ds_dp l)
theorem ds_lay : ∀ l : List Nat, PyData.canLayAll0 (l.map fun (d : Nat) => PyData.int (d : Int)) = true
  | [] => rfl
  | d :: l => ds_lay l
theorem ds_dep : ∀ l : List Nat, PyData.depthAll (l.map fun (d : Nat) => PyData.int (d : Int)) = 0
  | [] => rfl
  | d :: l => by
    show max 0 (PyData.depthAll (l.map fun (d : Nat) => PyData.int (d : Int))) = 0
    rw [ds_dep l]
    rfl
abbrev dDs (l : List Nat) : PyData := .tuple (l.map fun (d : Nat) => PyData.int (d : Int))
theorem dDs_lay (l : List Nat) : (dDs l).canLay0 = true := ds_lay l
theorem dDs_sh (l : List Nat) : SeqAt.shaped (dDs l) = true := by
  unfold SeqAt.shaped
  rw [dDs_lay, Bool.true_and]
  refine decide_eq_true ?_
  show PyData.depthAll (l.map fun (d : Nat) => PyData.int (d : Int)) + 1 ≤ 64
  rw [ds_dep]
  decide
abbrev d2R (a b : Rat) : PyData := .tuple [dR a, dR b]
theorem d2_lay (a b : Rat) : (d2R a b).canLay0 = true := rfl
theorem d2_sh (a b : Rat) : SeqAt.shaped (d2R a b) = true := rfl
theorem d2_dp {K : PySem.W.Frag} {H : Hp} {p p1 p2 : Addr} {a b : Rat} (h : SqT K H p [.ref p1, .ref p2]) (h1 : SqT K H p1 (rp a)) (h2 : SqT K H p2 (rp b)) : Dp K H (.ref p) (d2R a b) := .tup h (.cons (dp_r h1) (.cons (dp_r h2) .nil))
theorem not_bool {K : PySem.W.Frag} {H : Hp} {i : Int} : TyX K H (.int i) (.type "int") := .base (.int _)
theorem cut_int {ns : List Int} {c : Int} {lo hi : Option Int} {i : Nat} {x : V} (h : (cutV (ns.map V.int ++ [V.int c]) lo hi)[i]? = some x) : ∃ c, x = .int c := by
  have := cut_mem (List.mem_of_getElem? h)
  rcases List.mem_append.mp this with h | h
  · obtain ⟨y, _, rfl⟩ := List.mem_map.mp h
    exact ⟨y, rfl⟩
  · exact ⟨c, List.mem_singleton.mp h⟩
end Hr

set_option Elab.async false
set_option linter.all false
set_option maxRecDepth 100000
set_option maxHeartbeats 4000000
namespace Gs
open PySem PySem.Spec PyProof.Rows L2 BX EXB Co Ru
open Dz Cs Hr
open Fr (Bd)
/-- what stands for good (G) among all that stands (H): no list that changes, all tuples -/
structure Frz (K : PySem.W.Frag) (G H : Hp) : Prop where
  s : Same G H
  t : ∀ a xs, SqT K H a xs → SqT K G a xs
/-- G and all that came between H and H' -/
def ext (G H H' : Hp) : Hp := fun a => match H a with | none => H' a | some _ => G a
section
variable {K : PySem.W.Frag} {G H H' H1 H2 : Hp} {a T : Addr} {xs : List V}
theorem ext_new (h : H a = none) : ext G H H' a = H' a := by unfold ext; rw [h]
theorem ext_old {u : HO} (h : H a = some u) : ext G H H' a = G a := by unfold ext; rw [h]
theorem Same.ext (s : Same G H) : Same G (ext G H H') := fun b u e => by rw [ext_old (s _ _ e)]; exact e
theorem ext_same (s : Same G H) (s' : Same G H') : Same (Gs.ext G H H') H' := fun b u e => by
  cases h : H b with
  | none => rw [ext_new h] at e; exact e
  | some w => rw [ext_old h] at e; exact s' _ _ e
/-- what was there and did not stand for good doesn't now -/
theorem ext_off {u : HO} (h : H a = some u) (g : G a = none) : Gs.ext G H H' a = none := by rw [ext_old h]; exact g
/-- the frame grows -/
theorem Frz.grow (f : Frz K G H) (s' : Same G H') (k : ∀ a xs, H a ≠ none → SqT K H' a xs → SqT K H a xs) : Frz K (Gs.ext G H H') H' := ⟨ext_same f.s s', fun a xs z => by
  cases h : H a with
  | none =>
    rcases z with (z | ⟨o, z⟩) | z
    · exact .inl (.inl (by rw [ext_new h]; exact z))
    · exact .inl (.inr ⟨o, by rw [ext_new h]; exact z⟩)
    · exact .inr z
  | some u =>
    have := f.t a xs (k a xs (by rw [h]; exact fun e => by cases e) z)
    rcases this with (z | ⟨o, z⟩) | z
    · exact .inl (.inl (by rw [ext_old h]; exact z))
    · exact .inl (.inr ⟨o, by rw [ext_old h]; exact z⟩)
    · exact .inr z⟩
theorem tup_back (s : Same H H') (n : H a ≠ none) (z : SqT K H' a xs) : SqT K H a xs := by
  cases h : H a with
  | none => exact absurd h n
  | some u =>
    have e := s _ _ h
    rcases z with (z | ⟨o, z⟩) | z
    · exact .inl (.inl (by rw [h, ← e]; exact z))
    · exact .inl (.inr ⟨o, by rw [h, ← e]; exact z⟩)
    · exact .inr z
theorem Frz.more (f : Frz K G H) (s : Same H H') : Frz K (Gs.ext G H H') H' := f.grow (f.s.trans s) fun _ _ n z => tup_back s n z
/-- at T stands a list or a mind now: no tuple -/
theorem Frz.but (f : Frz K G H) (g : G T = none) (s : SameB T H H') (nt : ∀ xs, SqT K H' T xs → SqT K H T xs) : Frz K (Gs.ext G H H') H' := f.grow (fun b u e => s _ _ (ne_of_none e g) (f.s _ _ e)) fun b xs n z => by
  by_cases c : b = T
  · rw [c] at z ⊢; exact nt xs z
  · cases h : H b with
    | none => exact absurd h n
    | some u =>
      have e := s _ _ c h
      rcases z with (z | ⟨o, z⟩) | z
      · exact .inl (.inl (by rw [h, ← e]; exact z))
      · exact .inl (.inr ⟨o, by rw [h, ← e]; exact z⟩)
      · exact .inr z
theorem ext_ext (s : Same H H1) (s2 : Same H1 H2) : Gs.ext (Gs.ext G H H1) H1 H2 = Gs.ext G H H2 := by
  funext a
  cases h1 : H1 a with
  | none => rw [ext_new h1, ext_new (s.free h1)]
  | some u =>
    rw [ext_old h1]
    cases h : H a with
    | none => rw [ext_new h, ext_new h, h1, s2 _ _ h1]
    | some w => rw [ext_old h, ext_old h]
theorem frn_ext {n : Nat} {cs : List V} {qs : List Rat} (f : Frz K (Gs.ext G H H') H') (h : FrN K H' n cs qs) : FrN K (Gs.ext G H H') n cs qs := h.keep f.t
theorem rwl_ext {n : Nat} {l : Addr} {rs : List Addr} {rss : List (List Rat)} (f : Frz K (Gs.ext G H H') H') (h : RwL K H' l rs rss n) (nl : H l = none) (nr : ∀ r ∈ rs, H r = none) : RwL K (Gs.ext G H H') l rs rss n :=
  ⟨by rw [ext_new nl]; exact h.1, h.2.1, fun j r e => let ⟨c, q, a, b, d⟩ := h.2.2 j r e; ⟨c, q, a, by rw [ext_new (nr r (List.mem_of_getElem? e))]; exact b, frn_ext f d⟩⟩
/-- G and all that came between H and H', but lists -/
def extT (G H H' : Hp) : Hp := fun a => match H a with | none => (match H' a with | some (.lst _) => none | o => o) | some _ => G a
theorem extT_old {u : HO} (h : H a = some u) : extT G H H' a = G a := by unfold extT; rw [h]
theorem extT_list (g : G a = none) (h' : H' a = some (.lst xs)) : extT G H H' a = none := by
  unfold extT
  cases h : H a with
  | none => simp only [h']
  | some u => exact g
theorem extT_off {u : HO} (h : H a = some u) (g : G a = none) : extT G H H' a = none := by rw [extT_old h]; exact g
theorem Same.extT (s : Same G H) : Same G (Gs.extT G H H') := fun b u e => by rw [extT_old (s _ _ e)]; exact e
theorem extT_same (s : Same G H) (s' : Same H H') : Same (Gs.extT G H H') H' := fun b u e => by
  cases h : H b with
  | none =>
    unfold Gs.extT at e
    rw [h] at e
    dsimp only at e
    split at e
    · cases e
    · exact e
  | some w => rw [extT_old h] at e; exact s' _ _ (s _ _ e)
theorem Frz.skip (f : Frz K G H) (s : Same H H') : Frz K (Gs.extT G H H') H' := ⟨extT_same f.s s, fun a xs z => by
  cases h : H a with
  | none =>
    have e : ∀ o, H' a = some o → (∀ ys, o ≠ .lst ys) → Gs.extT G H H' a = some o := fun o eo n => by
      unfold Gs.extT
      rw [h]
      dsimp only
      rw [eo]
      split
      · rename_i w; exact absurd (Option.some.inj w) (n _)
      · rfl
    rcases z with (z | ⟨o, z⟩) | z
    · exact .inl (.inl (e _ z (by intro ys w; cases w)))
    · exact .inl (.inr ⟨o, e _ z (by intro ys w; cases w)⟩)
    · exact .inr z
  | some u =>
    have := f.t a xs (tup_back s (by rw [h]; exact fun e => by cases e) z)
    rcases this with (z | ⟨o, z⟩) | z
    · exact .inl (.inl (by rw [extT_old h]; exact z))
    · exact .inl (.inr ⟨o, by rw [extT_old h]; exact z⟩)
    · exact .inr z⟩
/-- all stands for good -/
theorem Frz.all : Frz K H H := ⟨Same.refl _, fun _ _ z => z⟩
/-- all stands for good but the list at T -/
def less (T : Addr) (H : Hp) : Hp := fun a => if a = T then none else H a
theorem less_at : less T H T = none := if_pos rfl
theorem less_ne (n : a ≠ T) : less T H a = H a := if_neg n
theorem less_same : Same (less T H) H := fun b u e => by
  by_cases c : b = T
  · rw [c, less_at] at e; cases e
  · rw [less_ne c] at e; exact e
theorem same_less : SameB T H (less T H) := fun b u n e => by rw [less_ne n]; exact e
theorem Frz.cut {ys : List V} (h : H T = some (.lst ys)) : Frz K (less T H) H := ⟨less_same, fun a xs z => by
  by_cases c : a = T
  · rw [c] at z
    rcases z with (z | ⟨o, z⟩) | z
    · rw [h] at z; cases z
    · rw [h] at z; cases z
    · exact .inr (by rw [c]; exact z)
  · rcases z with (z | ⟨o, z⟩) | z
    · exact .inl (.inl (by rw [less_ne c]; exact z))
    · exact .inl (.inr ⟨o, by rw [less_ne c]; exact z⟩)
    · exact .inr z⟩
/-- a list that stands not for good changes; what stands for good stays -/
theorem Frz.set {ys zs : List V} (f : Frz K G H) (g : G T = none) (h : H T = some (.lst ys)) : Frz K G (upd H T (.lst zs)) := ⟨fun b u e => by rw [upd_ne (ne_of_none e g)]; exact f.s _ _ e, fun a xs z => by
  by_cases c : a = T
  · rw [c] at z
    rcases z with (z | ⟨o, z⟩) | z
    · rw [upd_same] at z; cases z
    · rw [upd_same] at z; cases z
    · exact .inr (by rw [c]; exact z)
  · rcases z with (z | ⟨o, z⟩) | z
    · rw [upd_ne c] at z; exact f.t a xs (.inl (.inl z))
    · rw [upd_ne c] at z; exact f.t a xs (.inl (.inr ⟨o, z⟩))
    · exact .inr z⟩
/-- a new list that stands not for good -/
theorem Frz.newl {zs : List V} (f : Frz K G H) (h : H T = none) : Frz K G (upd H T (.lst zs)) := ⟨f.s.trans (same_new h _), fun a xs z => by
  by_cases c : a = T
  · rw [c] at z
    rcases z with (z | ⟨o, z⟩) | z
    · rw [upd_same] at z; cases z
    · rw [upd_same] at z; cases z
    · exact .inr (by rw [c]; exact z)
  · rcases z with (z | ⟨o, z⟩) | z
    · rw [upd_ne c] at z; exact f.t a xs (.inl (.inl z))
    · rw [upd_ne c] at z; exact f.t a xs (.inl (.inr ⟨o, z⟩))
    · exact .inr z⟩
theorem Frz.off (f : Frz K G H) (h : H a = none) : G a = none := f.s.free h
theorem off_ne (g : G a = none) {b : Addr} {u : HO} (e : G b = some u) : a ≠ b := fun z => by rw [z, e] at g; cases g
end
end Gs

set_option Elab.async false
set_option linter.all false
set_option maxRecDepth 100000
set_option maxHeartbeats 4000000
namespace Hr
open PySem PySem.Spec PyProof.Rows L2 BX EXB Co Ru
open Dz Cs
open Fr (Bd)
/-- the first of l whose key is the greatest -/
def IsDone (key : Nat → Rat) (l : List Nat) (d : Nat) : Prop := ∃ j : Nat, l[j]? = some d ∧ (∀ e ∈ l, key e ≤ key d) ∧ ∀ (i e : Nat), i < j → l[i]? = some e → key e < key d
theorem IsDone.mem {key : Nat → Rat} {l : List Nat} {d : Nat} (h : IsDone key l d) : d ∈ l := let ⟨_, e, _⟩ := h; List.mem_of_getElem? e
theorem IsDone.uniq {key : Nat → Rat} {l : List Nat} {d e : Nat} (h1 : IsDone key l d) (h2 : IsDone key l e) : d = e := by
  obtain ⟨i, a1, a2, a3⟩ := h1
  obtain ⟨j, b1, b2, b3⟩ := h2
  rcases Nat.lt_trichotomy i j with h | h | h
  · exact absurd (b3 i d h a1) (Rat.not_lt.mpr (a2 e (List.mem_of_getElem? b1)))
  · subst h
    rw [a1] at b1
    exact Option.some.inj b1
  · exact absurd (a3 j e h b1) (Rat.not_lt.mpr (b2 d (List.mem_of_getElem? a1)))
theorem IsDone.one (key : Nat → Rat) (d : Nat) : IsDone key [d] d := ⟨0, rfl, fun e he => by rw [List.mem_singleton.mp he]; exact Rat.le_refl, fun i e hi => absurd hi (Nat.not_lt_zero _)⟩
theorem IsDone.more {key : Nat → Rat} {l : List Nat} {d e : Nat} (h : IsDone key l d) (hlt : key d < key e) : IsDone key (l ++ [e]) e := by
  obtain ⟨j, a1, a2, a3⟩ := h
  refine ⟨l.length, by rw [List.getElem?_append_right (Nat.le_refl _), Nat.sub_self]; rfl, fun x hx => ?_, fun i x hi hx => ?_⟩
  · rcases List.mem_append.mp hx with hx | hx
    · exact Rat.le_trans (a2 x hx) (Rat.le_of_lt hlt)
    · rw [List.mem_singleton.mp hx]
      exact Rat.le_refl
  · rw [List.getElem?_append_left hi] at hx
    exact Std.lt_of_le_of_lt (a2 x (List.mem_of_getElem? hx)) hlt
theorem IsDone.stay {key : Nat → Rat} {l : List Nat} {d e : Nat} (h : IsDone key l d) (hn : ¬ key d < key e) : IsDone key (l ++ [e]) d := by
  obtain ⟨j, a1, a2, a3⟩ := h
  have hj : j < l.length := (List.getElem?_eq_some_iff.mp a1).1
  refine ⟨j, by rw [List.getElem?_append_left hj]; exact a1, fun x hx => ?_, fun i x hi hx => ?_⟩
  · rcases List.mem_append.mp hx with hx | hx
    · exact a2 x hx
    · rw [List.mem_singleton.mp hx]
      exact Rat.not_lt.mp hn
  · rw [List.getElem?_append_left (by omega)] at hx
    exact a3 i x hi hx
theorem first_at {α : Type} [DecidableEq α] : ∀ {l : List α} {x : α}, x ∈ l → ∃ j : Nat, l[j]? = some x ∧ ∀ (m : Nat) (y : α), m < j → l[m]? = some y → y ≠ x
  | [], x, h => by cases h
  | y :: l, x, h => by
    by_cases e : y = x
    · exact ⟨0, by rw [e]; rfl, fun m z hm => absurd hm (Nat.not_lt_zero _)⟩
    · have : x ∈ l := by
        rcases List.mem_cons.mp h with h | h
        · exact absurd h.symm e
        · exact h
      obtain ⟨j, a, b⟩ := first_at this
      refine ⟨j + 1, a, fun m z hm hz => ?_⟩
      cases m with
      | zero => cases (Option.some.inj hz); exact e
      | succ m => exact b m z (by omega) hz
def keyT (tss : List (List Rat)) (ws : List Rat) (hard : Bool) (d : Nat) : Rat := if hard = true then 0 - wq tss ws d else wq tss ws d
theorem keyT_f {tss : List (List Rat)} {ws : List Rat} : keyT tss ws false = wq tss ws := rfl
theorem neg_lt' {a b : Rat} : (0 - a < 0 - b) ↔ b < a := by
  constructor
  · intro h
    have := (Rat.add_lt_add_left (c := a + b)).mpr h
    have e1 : a + b + (0 - a) = b := by rw [Rat.sub_eq_add_neg, Rat.zero_add, Rat.add_comm a b, Rat.add_assoc, Rat.add_neg_cancel, Rat.add_zero]
    have e2 : a + b + (0 - b) = a := by rw [Rat.sub_eq_add_neg, Rat.zero_add, Rat.add_assoc, Rat.add_neg_cancel, Rat.add_zero]
    rw [e1, e2] at this
    exact this
  · intro h
    have := (Rat.add_lt_add_left (c := (0 - a) + (0 - b))).mpr h
    have e1 : (0 - a) + (0 - b) + b = 0 - a := by rw [Rat.add_assoc, Rat.sub_eq_add_neg 0 b, Rat.zero_add, Rat.neg_add_cancel, Rat.add_zero]
    have e2 : (0 - a) + (0 - b) + a = 0 - b := by rw [Rat.add_comm (0 - a), Rat.add_assoc, Rat.sub_eq_add_neg 0 a, Rat.zero_add, Rat.neg_add_cancel, Rat.add_zero]
    rw [e1, e2] at this
    exact this
/-- the deed done, by weights -/
def spDoneBy (K : PySem.W.Frag) (C : Addr) : Sp := fun vs H Q _ => ∃ (x b : Addr) (hard : Bool) (qs : List Rat) (hss tss : List (List Rat)) (ws : List Rat) (n m ww dd : Nat), vs = [.ref x, .ref b, .bl hard] ∧ Wts K H C x b qs hss tss ws n m ww dd ∧ ∀ (d : Nat) H', Same H H' → IsDone (keyT tss ws hard) (bestL hss ws dd) d → Q (.int (d : Int)) H'
def spDeedBy (K : PySem.W.Frag) (C : Addr) : Sp := fun vs H Q _ => ∃ (x b : Addr) (hard : Bool) (qs : List Rat) (hss tss : List (List Rat)) (ws : List Rat) (n m ww dd : Nat), vs = [.ref x, .ref b, .bl hard] ∧ Wts K H C x b qs hss tss ws n m ww dd ∧ RowOk ww ws ∧ ∀ (d : Nat) H', Same H H' → IsDone (keyT tss ws hard) (bestL hss ws dd) d → Q (.int (d : Int)) H'
theorem done_lt {key : Nat → Rat} {hss : List (List Rat)} {ws : List Rat} {dd d : Nat} (h : IsDone key (bestL hss ws dd) d) : d < dd := by
  have := h.mem
  unfold bestL at this
  exact List.mem_range.mp (List.mem_filter.mp this).1
theorem best_ne' {hss : List (List Rat)} {ws : List Rat} {dd : Nat} (h : 1 ≤ dd) : bestL hss ws dd ≠ [] := by
  have hne : worthL hss ws dd ≠ [] := fun e => by
    have := congrArg List.length e
    rw [worthL_len] at this
    simp at this
    omega
  have : ∀ l : List Rat, l ≠ [] → ∃ x ∈ l, ∀ y ∈ l, y ≤ x := by
    intro l
    induction l with
    | nil => intro h; exact absurd rfl h
    | cons x l ih =>
      intro _
      by_cases hl : l = []
      · subst hl
        exact ⟨x, List.mem_cons_self .., fun y hy => by rw [List.mem_singleton.mp hy]; exact Rat.le_refl⟩
      · obtain ⟨z, hz, hm⟩ := ih hl
        by_cases hxz : x ≤ z
        · refine ⟨z, List.mem_cons_of_mem _ hz, fun y hy => ?_⟩
          rcases List.mem_cons.mp hy with rfl | hy
          · exact hxz
          · exact hm y hy
        · refine ⟨x, List.mem_cons_self .., fun y hy => ?_⟩
          rcases List.mem_cons.mp hy with rfl | hy
          · exact Rat.le_refl
          · exact Rat.le_trans (hm y hy) (Rat.le_of_lt (Rat.not_le.mp hxz))
  obtain ⟨top, h1, h2⟩ := this _ hne
  exact best_ne h1 h2
/-- the index of the greatest key is the deed done -/
theorem done_of {key : Nat → Rat} {l : List Nat} {j : Nat} {top : Rat} (h1 : (l.map key)[j]? = some top) (h2 : ∀ x ∈ l.map key, x ≤ top) (h3 : ∀ m y, m < j → (l.map key)[m]? = some y → y ≠ top) : ∃ d, l[j]? = some d ∧ IsDone key l d := by
  rw [List.getElem?_map] at h1
  cases e : l[j]? with
  | none => rw [e] at h1; cases h1
  | some d =>
    rw [e] at h1
    have ed : key d = top := Option.some.inj h1
    refine ⟨d, rfl, j, e, fun x hx => ?_, fun i x hi hx => ?_⟩
    · rw [ed]
      exact h2 _ (List.mem_map_of_mem hx)
    · have hm := h2 _ (List.mem_map_of_mem (f := key) (List.mem_of_getElem? hx))
      have hn := h3 i (key x) hi (by rw [List.getElem?_map, hx]; rfl)
      rw [ed]
      exact Rat.not_le.mp fun z => hn (Rat.le_antisymm hm z)
/-- the law's own -/
def spLDone (K : PySem.W.Frag) : Sp := fun vs H Q _ => ∃ (P b : Addr) (hard : Bool) (qs : List Rat) (hss tss : List (List Rat)) (cs : List V) (ws : List Rat) (n m ww dd : Nat), vs = [.ref P, .ref b, .bl hard] ∧ PartsT K H P qs hss tss n ∧ GoodC qs hss tss ww dd ∧ SqL K H b cs ∧ FrN K H m cs ws ∧ ws.length = ww ∧ n ≤ 280 ∧ m ≤ 280 ∧ ∀ (d : Nat) H', Same H H' → IsDone (keyT tss ws hard) (bestL hss ws dd) d → Q (.int (d : Int)) H'
end Hr

set_option Elab.async false
set_option linter.all false
set_option maxRecDepth 100000
set_option maxHeartbeats 4000000
namespace Hr
open PySem PySem.Spec PyProof.Rows L2 BX EXB Co Ru
open Dz Cs
open Fr (Bd)
/-! ### rules -/
structure RuT (K : PySem.W.Frag) (mg : Str → Option Value) (C fI fR fW fL fE : Addr) : Prop where
  cl : Cls K C
  gC : mg "Rule" = some (.ref C)
  nO : NoAttr K C "own_rows"
  mkC : Mk K C fI
  mR : Meth K C "rows" fR
  mW : Meth K C "worlds" fW
  lL : PySem.W.findIn K (.ref C) "__len__" = some (some (.ref fL))
  fnL : PySem.W.isFn K (.ref fL) = true
  g5 : ∃ t, mg "MOST_WORLDS" = some (.int 5 t)
  g30 : ∃ t, mg "MOST_WORDS" = some (.int 30 t)
def spInit (K : PySem.W.Frag) (C : Addr) : Sp := fun vs H Q _ => ∃ (x a dx : Addr) (rs : List Addr) (rss : List (List Rat)) (n m : Nat), vs = [.ref x, .ref a] ∧ H x = some (.ins C dx []) ∧ RwL K H a rs rss n ∧ Good rss m ∧ n ≤ 280 ∧
  ∀ ra rs' H', (∀ b o, b ≠ x → H b = some o → H' b = some o) → H' x = some (.ins C dx [("own_rows", .ref ra)]) → RwL K H' ra rs' rss n → Q .non H'
def spRRows (K : PySem.W.Frag) (C : Addr) : Sp := fun vs H Q _ => ∃ (x : Addr) (rss : List (List Rat)) (n : Nat), vs = [.ref x] ∧ IsRule K H C x rss n ∧ rss.length ≤ 100 ∧ ∀ D rs' H', Fresh K H H' D rs' rss n → Q (.ref D) H'
def spRWorlds (K : PySem.W.Frag) (C : Addr) : Sp := fun vs H Q _ => ∃ (x : Addr) (rss : List (List Rat)) (n : Nat), vs = [.ref x] ∧ IsRule K H C x rss n ∧ Q (.int (rss.length : Int)) H
def spRLen (K : PySem.W.Frag) (C : Addr) : Sp := fun vs H Q _ => ∃ (x : Addr) (rss : List (List Rat)) (n m : Nat), vs = [.ref x] ∧ IsRule K H C x rss n ∧ Good rss m ∧ Q (.int (m : Int)) H
/-- a case and a rule for it -/
structure Ga (K : PySem.W.Frag) (H : Hp) (C CR x y : Addr) (qs : List Rat) (hss tss rss : List (List Rat)) (n m ww dd mm : Nat) : Prop where
  c : IsCase K H C x qs hss tss n
  g : GoodC qs hss tss ww dd
  r : IsRule K H CR y rss m
  go : Good rss mm
  wl : rss.length = ww
  hn : n ≤ 140
  hm : m ≤ 140
theorem Ga.same {K : PySem.W.Frag} {H H' : Hp} {C CR x y : Addr} {qs : List Rat} {hss tss rss : List (List Rat)} {n m ww dd mm : Nat} (h : Ga K H C CR x y qs hss tss rss n m ww dd mm) (s : Same H H') : Ga K H' C CR x y qs hss tss rss n m ww dd mm := ⟨h.c.same s, h.g, h.r.same s, h.go, h.wl, h.hn, h.hm⟩
def spChkA (K : PySem.W.Frag) (C CR : Addr) : Sp := fun vs H Q _ => ∃ (x y : Addr) (qs : List Rat) (hss tss rss : List (List Rat)) (n m ww dd mm : Nat), vs = [.ref x, .ref y] ∧ Ga K H C CR x y qs hss tss rss n m ww dd mm ∧ Q .non H
def spMasses (K : PySem.W.Frag) (C CR : Addr) : Sp := fun vs H Q _ => ∃ (x y : Addr) (i : Nat) (qs : List Rat) (hss tss rss : List (List Rat)) (n m ww dd mm : Nat), vs = [.ref x, .ref y, .int (i : Int)] ∧ Ga K H C CR x y qs hss tss rss n m ww dd mm ∧ i < mm ∧
  ∀ p cs H', Same H H' → H p = none → H' p = some (.lst cs) → FrN K H' (n + m) cs (prods rss qs i) → Q (.ref p) H'
theorem prods_bd {K : PySem.W.Frag} {H : Hp} {C CR x y : Addr} {qs : List Rat} {hss tss rss : List (List Rat)} {n m ww dd mm i : Nat} (h : Ga K H C CR x y qs hss tss rss n m ww dd mm) : (prods rss qs i).length = ww := by rw [prods_len (by rw [h.g.sh.1, h.wl]), h.g.sh.1]
/-! ### the deed done, as a function -/
def dstep (key : Nat → Rat) : Option Nat → Nat → Option Nat
  | none, e => some e
  | some d, e => if key d < key e then some e else some d
def doneF (key : Nat → Rat) (l : List Nat) : Option Nat := l.foldl (dstep key) none
theorem doneF_snoc (key : Nat → Rat) (l : List Nat) (e : Nat) : doneF key (l ++ [e]) = dstep key (doneF key l) e := by
  unfold doneF
  rw [List.foldl_append]
  rfl
theorem doneF_ok {key : Nat → Rat} : ∀ (k : Nat) (l : List Nat), l.length = k → l ≠ [] → ∃ d, doneF key l = some d ∧ IsDone key l d
  | 0, l, h, hne => absurd (List.eq_nil_of_length_eq_zero h) hne
  | k + 1, l, h, hne => by
    obtain ⟨l', e, rfl⟩ : ∃ l' e, l = l' ++ [e] := ⟨l.dropLast, l.getLast hne, (List.dropLast_concat_getLast hne).symm⟩
    rw [List.length_append, List.length_singleton] at h
    by_cases hl : l' = []
    · subst hl
      exact ⟨e, rfl, IsDone.one key e⟩
    · obtain ⟨d, h1, h2⟩ := doneF_ok k l' (by omega) hl
      rw [doneF_snoc, h1]
      by_cases hlt : key d < key e
      · exact ⟨e, if_pos hlt, h2.more hlt⟩
      · exact ⟨d, if_neg hlt, h2.stay hlt⟩
theorem IsDone.F {key : Nat → Rat} {l : List Nat} {d : Nat} (h : IsDone key l d) : doneF key l = some d := by
  have hne : l ≠ [] := fun e => by
    have := h.mem
    rw [e] at this
    cases this
  obtain ⟨e, h1, h2⟩ := doneF_ok (key := key) l.length l rfl hne
  rw [h1, h2.uniq h]
theorem doneF_congr {k1 k2 : Nat → Rat} (h : ∀ a b, k1 a < k1 b ↔ k2 a < k2 b) (l : List Nat) : doneF k1 l = doneF k2 l := by
  have hs : dstep k1 = dstep k2 := by
    funext o e
    cases o with
    | none => rfl
    | some d =>
      show (if k1 d < k1 e then some e else some d) = if k2 d < k2 e then some e else some d
      by_cases c : k1 d < k1 e
      · rw [if_pos c, if_pos ((h d e).mp c)]
      · rw [if_neg c, if_neg (fun z => c ((h d e).mpr z))]
  unfold doneF
  rw [hs]
/-! ### weights times a number -/
theorem prods_scale (rss : List (List Rat)) (c : Rat) (d : Nat) : ∀ ws : List Rat, prods rss (ws.map fun w => w / c) d = (prods rss ws d).map fun o => c⁻¹ * o := by
  unfold prods
  induction rss with
  | nil => intro ws; rw [List.zipWith_nil_right, List.zipWith_nil_right, List.map_nil]
  | cons r rss ih =>
    intro ws
    cases ws with
    | nil => rfl
    | cons w ws =>
      rw [List.map_cons, List.zipWith_cons_cons, List.zipWith_cons_cons, List.map_cons, ih ws]
      congr 1
      rw [Rat.div_def, Rat.mul_comm w, Rat.mul_assoc]
theorem wq_scale (rss : List (List Rat)) (c : Rat) (d : Nat) (ws : List Rat) : wq rss (ws.map fun w => w / c) d = c⁻¹ * wq rss ws d := by
  unfold wq
  rw [prods_scale, sum_map_mul]
theorem scale_lt {c a b : Rat} (hc : 0 < c) : c⁻¹ * a < c⁻¹ * b ↔ a < b := Rat.mul_lt_mul_left (Rat.inv_pos.mpr hc)
theorem scale_le {c a b : Rat} (hc : 0 < c) : c⁻¹ * a ≤ c⁻¹ * b ↔ a ≤ b := by
  rw [← Rat.not_lt, ← Rat.not_lt, scale_lt hc]
theorem best_scale {hss : List (List Rat)} {c : Rat} {ws : List Rat} {dd : Nat} (hc : 0 < c) : bestL hss (ws.map fun w => w / c) dd = bestL hss ws dd := by
  unfold bestL
  congr 1
  funext d
  apply decide_eq_decide.mpr
  constructor
  · intro h e he
    have := h e he
    rw [wq_scale, wq_scale, scale_le hc] at this
    exact this
  · intro h e he
    rw [wq_scale, wq_scale, scale_le hc]
    exact h e he
theorem key_scale {tss : List (List Rat)} {c : Rat} {ws : List Rat} {hard : Bool} (hc : 0 < c) (a b : Nat) : keyT tss (ws.map fun w => w / c) hard a < keyT tss (ws.map fun w => w / c) hard b ↔ keyT tss ws hard a < keyT tss ws hard b := by
  unfold keyT
  cases hard with
  | true =>
    show 0 - _ < 0 - _ ↔ 0 - _ < 0 - _
    rw [neg_lt', neg_lt', wq_scale, wq_scale, scale_lt hc]
  | false =>
    show wq _ _ _ < wq _ _ _ ↔ _
    rw [wq_scale, wq_scale, scale_lt hc]
    exact Iff.rfl
theorem done_scale {hss tss : List (List Rat)} {c : Rat} {ws : List Rat} {dd : Nat} {hard : Bool} (hc : 0 < c) : doneF (keyT tss (ws.map fun w => w / c) hard) (bestL hss (ws.map fun w => w / c) dd) = doneF (keyT tss ws hard) (bestL hss ws dd) := by
  rw [best_scale hc]
  exact doneF_congr (key_scale hc) _
/-- the deed done behind a word -/
def wordD (qs : List Rat) (hss tss rss : List (List Rat)) (dd : Nat) (hard : Bool) (i : Nat) : Option Nat := if wq rss qs i = 0 then none else doneF (keyT tss (prods rss qs i) hard) (bestL hss (prods rss qs i) dd)
def optN : Option Nat → V
  | none => .non
  | some d => .int (d : Int)
def optD : Option Nat → PyData
  | none => .none
  | some d => .int (d : Int)
theorem opt_dp {K : PySem.W.Frag} {H : Hp} : ∀ o : Option Nat, Dp K H (optN o) (optD o)
  | none => .non
  | some _ => .int _
theorem opts_dp {K : PySem.W.Frag} {H : Hp} : ∀ l : List (Option Nat), DpAll K H (l.map optN) (l.map optD)
  | [] => .nil
  | o :: l => .cons (opt_dp o) (opts_dp l)
theorem opts_lay : ∀ l : List (Option Nat), PyData.canLayAll0 (l.map optD) = true
  | [] => rfl
  | none :: l => opts_lay l
  | some _ :: l => opts_lay l
theorem opts_dep : ∀ l : List (Option Nat), PyData.depthAll (l.map optD) = 0
  | [] => rfl
  | o :: l => by
    have h : PyData.depth (optD o) = 0 := by cases o <;> rfl
    show max (PyData.depth (optD o)) (PyData.depthAll (l.map optD)) = 0
    rw [h, opts_dep l]
    rfl
theorem optl_lay (l : List (Option Nat)) : (PyData.list (l.map optD)).canLay0 = true := opts_lay l
theorem optl_sh (l : List (Option Nat)) : SeqAt.shaped (.list (l.map optD)) = true := by
  unfold SeqAt.shaped
  rw [optl_lay, Bool.true_and]
  refine decide_eq_true ?_
  show PyData.depthAll (l.map optD) + 1 ≤ 64
  rw [opts_dep]
  decide
/-- the deeds done, word by word -/
def deedsL (qs : List Rat) (hss tss rss : List (List Rat)) (dd mm : Nat) (hard : Bool) : List (Option Nat) := (List.range mm).map (wordD qs hss tss rss dd hard)
theorem deedsL_at {qs : List Rat} {hss tss rss : List (List Rat)} {dd mm i : Nat} {hard : Bool} (h : i < mm) : (deedsL qs hss tss rss dd mm hard)[i]? = some (wordD qs hss tss rss dd hard i) := by
  unfold deedsL
  rw [List.getElem?_map, List.getElem?_range h]
  rfl
theorem deedsL_len {qs : List Rat} {hss tss rss : List (List Rat)} {dd mm : Nat} {hard : Bool} : (deedsL qs hss tss rss dd mm hard).length = mm := by
  unfold deedsL
  rw [List.length_map, List.length_range]
/-- (weights, deed) of each word -/
def WordsAt (K : PySem.W.Frag) (H : Hp) (cs : List V) (qs : List Rat) (hss tss rss : List (List Rat)) (dd N : Nat) (hard : Bool) (k : Nat) : Prop := cs.length = k ∧ ∀ (i : Nat) (v : V), cs[i]? = some v → ∃ (t wa : Addr) (ws : List V), v = .ref t ∧ SqT K H t [.ref wa, optN (wordD qs hss tss rss dd hard i)] ∧ H wa = some (.lst ws) ∧ FrN K H N ws (prods rss qs i)
theorem WordsAt.same {K : PySem.W.Frag} {H H' : Hp} {cs : List V} {qs : List Rat} {hss tss rss : List (List Rat)} {dd N : Nat} {hard : Bool} {k : Nat} (h : WordsAt K H cs qs hss tss rss dd N hard k) (s : Same H H') : WordsAt K H' cs qs hss tss rss dd N hard k :=
  ⟨h.1, fun i v e => let ⟨t, wa, ws, a, b, c, d⟩ := h.2 i v e; ⟨t, wa, ws, a, seqT s b, s _ _ c, d.same s⟩⟩
def spWordsDone (K : PySem.W.Frag) (C CR : Addr) : Sp := fun vs H Q _ => ∃ (x y : Addr) (hard : Bool) (qs : List Rat) (hss tss rss : List (List Rat)) (n m ww dd mm : Nat), vs = [.ref x, .ref y, .bl hard] ∧ Ga K H C CR x y qs hss tss rss n m ww dd mm ∧
  ∀ p cs H', Same H H' → H' p = some (.lst cs) → WordsAt K H' cs qs hss tss rss dd (n + m) hard mm → Q (.ref p) H'
def spDeedsDone (K : PySem.W.Frag) (C CR : Addr) : Sp := fun vs H Q _ => ∃ (x y : Addr) (hard : Bool) (qs : List Rat) (hss tss rss : List (List Rat)) (n m ww dd mm : Nat), vs = [.ref x, .ref y, .bl hard] ∧ Ga K H C CR x y qs hss tss rss n m ww dd mm ∧
  ∀ p H', Same H H' → H p = none → H' p = some (.lst ((deedsL qs hss tss rss dd mm hard).map optN)) → Q (.ref p) H'
/-- what is gained by a table of gains -/
def gainW (xss : List (List Rat)) (qs : List Rat) (hss tss rss : List (List Rat)) (dd : Nat) (hard : Bool) (i : Nat) : Rat := match wordD qs hss tss rss dd hard i with
  | none => 0
  | some d => wq xss (prods rss qs i) d
def gainT (xss : List (List Rat)) (qs : List Rat) (hss tss rss : List (List Rat)) (dd mm : Nat) (hard : Bool) : Rat := ((List.range mm).map (gainW xss qs hss tss rss dd hard)).sum
def spGainsP (K : PySem.W.Frag) (C CR : Addr) : Sp := fun vs H Q _ => ∃ (x y : Addr) (hard : Bool) (qs : List Rat) (hss tss rss : List (List Rat)) (n m ww dd mm : Nat), vs = [.ref x, .ref y, .bl hard] ∧ Ga K H C CR x y qs hss tss rss n m ww dd mm ∧ ((n + (n + m) + 1) * 5 + 2) * mm + 1 ≤ 8700 ∧
  ∀ p p1 p2 H', Same H H' → SqT K H' p [.ref p1, .ref p2] → SqT K H' p1 (rp (gainT tss qs hss tss rss dd mm hard)) → SqT K H' p2 (rp (gainT hss qs hss tss rss dd mm hard)) → Q (.ref p) H'
end Hr

set_option Elab.async false
set_option linter.all false
set_option maxRecDepth 100000
set_option maxHeartbeats 4000000
namespace Ru
open PySem PySem.Spec PyProof.Rows L2 BX EXB Co
theorem ns_some {K : PySem.W.Frag} {h : Heap} {N : Addr} {mm : Str → Option Value} {n : Str} {v : Value} (X : K.In h) (G : h.Ns N mm) (e : PySem.W.nsIn K N n = some (some v)) : mm n = some v := by
  obtain ⟨o, es, ep, ho, hd, _, hf⟩ := G
  unfold PySem.W.nsIn at e
  split at e
  · rename_i c d es' n' sl q
    have := X _ _ q
    rw [ho] at this
    cases this
    cases hd
    split at e
    · rename_i en he
      cases e
      rw [← hf]
      unfold nsFind findBy
      rw [← Array.find?_toList, he]
      rfl
    · split at e <;> cases e
  · cases e
/-- x != y, both instances of the class at C with its own __eq__ alone -/
def rNeO (C : Addr) (sp : Sp) : R2 := fun x y H Q => ∃ (a b dx dy : Addr) (fs gs : List (Str × V)), x = .ref a ∧ y = .ref b ∧ H a = some (.ins C dx fs) ∧ H b = some (.ins C dy gs) ∧ sp [.ref a, .ref b] H (fun v H' => ∃ c : Bool, v = .bl c ∧ Q (.bl (!c)) H') (fun _ _ _ => False)
/-- what the written part says of such a class -/
structure NeC (K : PySem.W.Frag) (C f : Addr) : Prop where
  cls : ∃ nm q N bs hdct sn sub ab col dd k0 k1 k2 k3 k5 newId, K.lookup C = some (excClassObj nm q C N bs [.type "object"] hdct sn sub ab col dd k0 k1 k2 k3 k5 newId) ∧ PySem.W.nsOkIn K N = true ∧ PySem.W.nsIn K N "__eq__" = some (some (.ref f)) ∧ PySem.W.nsIn K N "__ne__" = some none
  fn : ∃ oF, K.lookup f = some oF ∧ oF.cls = .type "function"
theorem op_neO {X : Cx} {C f : Addr} {fd : FuncData} {k : Nat} {sp : Sp} {ps : List Str} (T : NeC X.K C f) (F : FnOk X.prog X.w X.K X.mg X.base CX0 k f fd ps sp) (hr : Room (k + 1) X.A) (hb : Binds X.K fd ps []) : OpR X (compareOp .NotEq) (rNeO C sp) := by
  intro pins s σ H x y v u Q I rx ry h
  obtain ⟨a, b, dx, dy, fs, gs, rfl, rfl, ha, hb', hq⟩ := h
  cases (show v = Value.ref a from rx)
  cases (show u = Value.ref b from ry)
  obtain ⟨nm, q, N, bs, hdct, sn, sub, ab, col, dd, k0, k1, k2, k3, k5, newId, hC, ok, heq, hne⟩ := T.cls
  obtain ⟨oF, hF, hFc⟩ := T.fn
  obtain ⟨mA, JA, _⟩ := ins_get I.hok ha
  obtain ⟨mB, JB, _⟩ := ins_get I.hok hb'
  obtain ⟨oda, JA, _⟩ := JA.look
  obtain ⟨odb, JB, _⟩ := JB.look
  have hns : s.heap.Ns N (s.heap.nsMap N) := .of_isNs (PySem.W.isNs_of_in I.kIn ok)
  have Y : s.heap.OwnEqNoNe a C f "object" [.type "object"] := ⟨_, _, nm, q, N, bs, hdct, sn, sub, ab, col, dd, k0, k1, k2, k3, k5, newId, _, _, JA.at_, JA.cls, I.kIn _ _ hC, hns, ns_some I.kIn hns heq, I.kIn _ _ hF, hFc, PySem.F.cmp_object.mro, PySem.F.cmp_object.eq.lookup, PySem.W.ns_none_of I.kIn hns hne⟩
  obtain ⟨hp, g, d, t, os⟩ := s
  refine compareOp_ne_ownEq PySem.F.cmp_object Y JB.at_ JB.cls (by have := hr.un; omega) ?_
  have e0 : Env0 X.prog X.w X.K X.mg X.base X.A.in1 X.stack ⟨hp, g, d, t, os⟩ H := by
    have e := I.env0
    exact ⟨e.frames, e.mod, e.bs, e.bsz, e.funs, e.frf, e.hok, e.bare⟩
  have hl := F.len _ _ _ _ hq
  have r2 : Vals [V.ref a, V.ref b] [Value.ref a, Value.ref b] := .cons rfl (.cons rfl .nil)
  refine wpAny_call (codeAny_mono (F.run X.A.in1 X.stack _ H ⟨[.ref a, .ref b], []⟩ [.ref a, .ref b] [.ref a, .ref b] _ (fun _ _ _ => False) hr.in1 e0 (by
    have := hb ⟨hp, g, d, t, os⟩ [.ref a, .ref b] I.kIn (by simpa using hl)
    simpa using this) r2 hq) fun r s' hq' => ?_)
  cases r with
  | error e => exact False.elim hq'
  | ok fl =>
    cases fl with
    | ret u =>
      obtain ⟨z, H', I', rz, c, ez, q'⟩ := I.after hq'
      subst ez
      cases (show u = Value.bool c from rz)
      exact ⟨c, rfl, .bl (!c), H', I', rfl, q'⟩
    | next => exact False.elim hq'
    | brk => exact False.elim hq'
    | cont => exact False.elim hq'
end Ru

set_option Elab.async false
set_option linter.all false
set_option maxRecDepth 100000
set_option maxHeartbeats 4000000
namespace Hr
open PySem PySem.Spec PyProof.Rows L2 BX EXB Co Ru
open Dz Cs
open Fr (Bd)
theorem frn_re {K : PySem.W.Frag} {H : Hp} {n m : Nat} {cs : List V} {qs : List Rat} (h : FrN K H n cs qs) (hb : ∀ q ∈ qs, Bd m q) : FrN K H m cs qs :=
  ⟨h.len, fun i v e => let ⟨a, q, e1, e2, e3, _⟩ := h.at_ i v e; ⟨a, q, e1, e2, e3, hb q (List.mem_of_getElem? e1)⟩⟩
def spPartsB (K : PySem.W.Frag) : Sp := fun vs H Q _ => ∃ (l : Addr) (z : Int) (ww dd : Nat), vs = [.ref l, .int (ww : Int), .int (dd : Int)] ∧ H l = some (.lst [.int z]) ∧ 1 ≤ ww ∧ ww ≤ 5 ∧ 1 ≤ dd ∧ dd ≤ 6 ∧
  ∀ P qs hss tss z' H', SameB l H H' → H' l = some (.lst [.int z']) → PartsT K H' P qs hss tss 43 → GoodC qs hss tss ww dd → (∀ q ∈ qs, Bd 8 q) → Q (.ref P) H'
def spRows (K : PySem.W.Frag) : Sp := fun vs H Q _ => ∃ (l : Addr) (z : Int) (ww m : Nat), vs = [.ref l, .int (ww : Int), .int (m : Int)] ∧ H l = some (.lst [.int z]) ∧ 1 ≤ ww ∧ ww ≤ 5 ∧ 1 ≤ m ∧ m ≤ 30 ∧
  ∀ D rs rss z' H', New K H H' l D rs rss 8 → D ≠ l → H' l = some (.lst [.int z']) → Good rss m → rss.length = ww → Q (.ref D) H'
/-- as spWorth, the weights ahead -/
def spChanceL (K : PySem.W.Frag) : Sp := fun vs H Q _ => ∃ (a b : Addr) (d : Nat) (rs : List Addr) (rss : List (List Rat)) (cs : List V) (ws : List Rat) (n m dd : Nat), vs = [.ref b, .ref a, .int (d : Int)] ∧ RwL K H a rs rss n ∧ SqL K H b cs ∧ FrN K H m cs ws ∧ ws.length = rss.length ∧ rss.length ≤ 5 ∧ (∀ r ∈ rss, r.length = dd) ∧ d < dd ∧ n ≤ 280 ∧ m ≤ 280 ∧
  ∀ p H', Same H H' → SqT K H' p (rp (wq rss ws d)) → Bd ((n + m + 1) * 5 + 1) (wq rss ws d) → Q (.ref p) H'
def belq (rss : List (List Rat)) (qs : List Rat) (i : Nat) : List Rat := (prods rss qs i).map fun w => w / wq rss qs i
def spBehind (K : PySem.W.Frag) : Sp := fun vs H Q _ => ∃ (a b : Addr) (d : Nat) (rs : List Addr) (rss : List (List Rat)) (cs : List V) (ws : List Rat) (n m dd : Nat), vs = [.ref b, .ref a, .int (d : Int)] ∧ RwL K H a rs rss n ∧ SqL K H b cs ∧ FrN K H m cs ws ∧ ws.length = rss.length ∧ rss.length ≤ 5 ∧ (∀ r ∈ rss, r.length = dd) ∧ d < dd ∧ n ≤ 280 ∧ m ≤ 280 ∧ wq rss ws d ≠ 0 ∧
  ∀ p cs' H', Same H H' → H p = none → H' p = some (.lst cs') → FrN K H' (n + m + ((n + m + 1) * 5 + 1)) cs' (belq rss ws d) → Q (.ref p) H'
def spOver (K : PySem.W.Frag) : Sp := fun vs H Q _ => ∃ (a b : Addr) (x y : Rat) (n m : Nat), vs = [.ref a, .ref b] ∧ SqT K H a (rp x) ∧ SqT K H b (rp y) ∧ Bd n x ∧ Bd m y ∧ n + m ≤ 8900 ∧ y ≠ 0 ∧ ∀ p, H p = none → Q (.ref p) (upd H p (.tup (rp (x / y))))
theorem bd_div {a b : Rat} {n m : Nat} (ha : Bd n a) (hb : Bd m b) (h : b ≠ 0) : Bd (n + m) (a / b) := by
  rw [← Fr.div_eq]
  refine Fr.bd_low (Fr.mul_bd ha.1 hb.dn) (Fr.mul_bd ha.dn hb.1) (Int.mul_ne_zero (Fr.den_ne a) fun z => h ?_)
  exact Rat.num_eq_zero.mp z
theorem prods_nn {rss : List (List Rat)} {qs : List Rat} {i : Nat} (h1 : ∀ q ∈ qs, 0 ≤ q) (h2 : ∀ r ∈ rss, ∀ q ∈ r, 0 ≤ q) : ∀ p ∈ prods rss qs i, 0 ≤ p := fun p hp => by
  unfold prods at hp
  obtain ⟨j, hj, e⟩ := List.getElem_of_mem hp
  rw [List.length_zipWith] at hj
  have hw : j < qs.length := by omega
  have hr : j < rss.length := by omega
  have e2 : (List.zipWith (fun w r => w * r.getD i 0) qs rss)[j]? = some (qs[j] * rss[j].getD i 0) := prods_at (List.getElem?_eq_getElem hw) (List.getElem?_eq_getElem hr)
  have eq : p = qs[j] * rss[j].getD i 0 := by
    rw [← e]
    exact (List.getElem?_eq_some_iff.mp e2).2
  rw [eq]
  refine Rat.mul_nonneg (h1 _ (List.getElem_mem hw)) ?_
  by_cases hi : i < rss[j].length
  · rw [List.getD_eq_getElem?_getD, List.getElem?_eq_getElem hi]
    exact h2 _ (List.getElem_mem hr) _ (List.getElem_mem hi)
  · rw [List.getD_eq_getElem?_getD, List.getElem?_eq_none (by omega)]
    exact Rat.le_refl
theorem wq_pos {rss : List (List Rat)} {qs : List Rat} {i : Nat} (h1 : ∀ q ∈ qs, 0 ≤ q) (h2 : ∀ r ∈ rss, ∀ q ∈ r, 0 ≤ q) (h : wq rss qs i ≠ 0) : 0 < wq rss qs i := by
  have : 0 ≤ wq rss qs i := sum_nonneg' (prods_nn h1 h2)
  exact Rat.not_le.mp fun z => h (Rat.le_antisymm z this)
theorem bel_done {qs : List Rat} {hss tss rss : List (List Rat)} {dd i d : Nat} {hard : Bool} (hp : 0 < wq rss qs i) (h : IsDone (keyT tss (belq rss qs i) hard) (bestL hss (belq rss qs i) dd) d) : wordD qs hss tss rss dd hard i = some d := by
  have e := h.F
  unfold belq at e
  rw [done_scale hp] at e
  unfold wordD
  rw [if_neg (fun z => by rw [z] at hp; exact absurd hp (Rat.not_lt.mpr Rat.le_refl))]
  exact e
theorem word_some {qs : List Rat} {hss tss rss : List (List Rat)} {dd i d : Nat} {hard : Bool} (hn : wq rss qs i ≠ 0) (h : IsDone (keyT tss (prods rss qs i) hard) (bestL hss (prods rss qs i) dd) d) : wordD qs hss tss rss dd hard i = some d := by
  unfold wordD
  rw [if_neg hn, h.F]
theorem word_none {qs : List Rat} {hss tss rss : List (List Rat)} {dd i : Nat} {hard : Bool} (hn : wq rss qs i = 0) : wordD qs hss tss rss dd hard i = none := if_pos hn
theorem word_lt {qs : List Rat} {hss tss rss : List (List Rat)} {dd i d : Nat} {hard : Bool} (h : wordD qs hss tss rss dd hard i = some d) (h1 : 1 ≤ dd) : d < dd := by
  unfold wordD at h
  split at h
  · cases h
  · obtain ⟨e, a, b⟩ := doneF_ok (key := keyT tss (prods rss qs i) hard) (bestL hss (prods rss qs i) dd).length (bestL hss (prods rss qs i) dd) rfl (best_ne' h1)
    rw [a] at h
    cases h
    exact done_lt b
/-! ### words with their deeds, none of whose lists is ex -/
def WordsX (K : PySem.W.Frag) (H : Hp) (ex : Addr) (cs : List V) (qs : List Rat) (hss tss rss : List (List Rat)) (dd N : Nat) (hard : Bool) (k : Nat) : Prop := cs.length = k ∧ ∀ (i : Nat) (v : V), cs[i]? = some v → ∃ (t wa : Addr) (ws : List V), v = .ref t ∧ SqT K H t [.ref wa, optN (wordD qs hss tss rss dd hard i)] ∧ H wa = some (.lst ws) ∧ wa ≠ ex ∧ FrN K H N ws (prods rss qs i)
theorem WordsX.same {K : PySem.W.Frag} {H H' : Hp} {ex : Addr} {cs : List V} {qs : List Rat} {hss tss rss : List (List Rat)} {dd N : Nat} {hard : Bool} {k : Nat} (h : WordsX K H ex cs qs hss tss rss dd N hard k) (s : Same H H') : WordsX K H' ex cs qs hss tss rss dd N hard k :=
  ⟨h.1, fun i v e => let ⟨t, wa, ws, a, b, c, ne, d⟩ := h.2 i v e; ⟨t, wa, ws, a, seqT s b, s _ _ c, ne, d.same s⟩⟩
theorem WordsX.push {K : PySem.W.Frag} {H : Hp} {ex t wa : Addr} {cs ws : List V} {qs : List Rat} {hss tss rss : List (List Rat)} {dd N : Nat} {hard : Bool} {k : Nat} (h : WordsX K H ex cs qs hss tss rss dd N hard k) (hex : H ex = some (.lst cs)) (ht : SqT K H t [.ref wa, optN (wordD qs hss tss rss dd hard k)]) (hw : H wa = some (.lst ws)) (ne : wa ≠ ex) (hf : FrN K H N ws (prods rss qs k)) :
    WordsX K (upd H ex (.lst (cs ++ [.ref t]))) ex (cs ++ [.ref t]) qs hss tss rss dd N hard (k + 1) := by
  have kp : ∀ a xs, SqT K H a xs → SqT K (upd H ex (.lst (cs ++ [.ref t]))) a xs := keep_lst hex
  refine ⟨by rw [List.length_append, h.1]; rfl, fun i v e => ?_⟩
  by_cases hi : i < cs.length
  · rw [List.getElem?_append_left hi] at e
    obtain ⟨t', wa', ws', a, b, c, ne', d⟩ := h.2 i v e
    exact ⟨t', wa', ws', a, kp _ _ b, by rw [upd_ne ne']; exact c, ne', d.keep kp⟩
  · rw [List.getElem?_append_right (by omega)] at e
    have e0 : i - cs.length = 0 := by
      cases z : i - cs.length with
      | zero => rfl
      | succ j => rw [z] at e; simp at e
    rw [e0] at e
    have ik : i = k := by have := h.1; omega
    subst ik
    exact ⟨t, wa, ws, (Option.some.inj e).symm, kp _ _ ht, by rw [upd_ne ne]; exact hw, ne, hf.keep kp⟩
def spWords (K : PySem.W.Frag) (C CR : Addr) : Sp := fun vs H Q _ => ∃ (x y : Addr) (hard : Bool) (qs : List Rat) (hss tss rss : List (List Rat)) (n m ww dd mm : Nat), vs = [.ref x, .ref y, .bl hard] ∧ Ga K H C CR x y qs hss tss rss n m ww dd mm ∧
  ∀ p cs H', Same H H' → H p = none → H' p = some (.lst cs) → WordsX K H' p cs qs hss tss rss dd (n + m) hard mm → Q (.ref p) H'
/-! ### the words that are said -/
def saidL (f : Nat → Option Nat) (k : Nat) : List (Nat × Nat) := (List.range k).filterMap fun i => (f i).map fun d => (i, d)
theorem saidL_succ (f : Nat → Option Nat) (k : Nat) : saidL f (k + 1) = saidL f k ++ (match f k with | none => [] | some d => [(k, d)]) := by
  unfold saidL
  rw [List.range_succ, List.filterMap_append]
  congr 1
  cases e : f k with
  | none => simp [e]
  | some d => simp [e]
theorem saidL_len (f : Nat → Option Nat) (k : Nat) : (saidL f k).length ≤ k := by
  unfold saidL
  refine Nat.le_trans (List.length_filterMap_le _ _) ?_
  rw [List.length_range]
  exact Nat.le_refl _
theorem said_sum (g : Nat → Nat → Rat) (f : Nat → Option Nat) : ∀ k : Nat, ((saidL f k).map fun p => g p.1 p.2).sum = ((List.range k).map fun i => match f i with | none => 0 | some d => g i d).sum
  | 0 => rfl
  | k + 1 => by
    rw [saidL_succ, List.map_append, List.sum_append, said_sum g f k, List.range_succ, List.map_append, List.sum_append]
    congr 1
    cases e : f k with
    | none => simp [e, Rat.add_zero]
    | some d => simp [e, Rat.add_zero]
def SaidAt (K : PySem.W.Frag) (H : Hp) (cs : List V) (l : List (Nat × Nat)) (qs : List Rat) (rss : List (List Rat)) (N dd : Nat) : Prop := cs.length = l.length ∧ ∀ (j : Nat) (v : V), cs[j]? = some v → ∃ (i d : Nat) (t wa : Addr) (ws : List V), l[j]? = some (i, d) ∧ d < dd ∧ v = .ref t ∧ SqT K H t [.ref wa, .int (d : Int)] ∧ SqL K H wa ws ∧ FrN K H N ws (prods rss qs i)
theorem SaidAt.same {K : PySem.W.Frag} {H H' : Hp} {cs : List V} {l : List (Nat × Nat)} {qs : List Rat} {rss : List (List Rat)} {N dd : Nat} (h : SaidAt K H cs l qs rss N dd) (s : Same H H') : SaidAt K H' cs l qs rss N dd :=
  ⟨h.1, fun j v e => let ⟨i, d, t, wa, ws, a, b, c, f, g, k⟩ := h.2 j v e; ⟨i, d, t, wa, ws, a, b, c, seqT s f, s.seq g, k.same s⟩⟩
theorem SaidAt.nil {K : PySem.W.Frag} {H : Hp} {qs : List Rat} {rss : List (List Rat)} {N dd : Nat} : SaidAt K H [] [] qs rss N dd := ⟨rfl, fun j v e => by simp at e⟩
theorem SaidAt.snoc {K : PySem.W.Frag} {H : Hp} {cs : List V} {l : List (Nat × Nat)} {qs : List Rat} {rss : List (List Rat)} {N dd i d : Nat} {t wa : Addr} {ws : List V} (h : SaidAt K H cs l qs rss N dd) (hd : d < dd) (ht : SqT K H t [.ref wa, .int (d : Int)]) (hw : SqL K H wa ws) (hf : FrN K H N ws (prods rss qs i)) : SaidAt K H (cs ++ [.ref t]) (l ++ [(i, d)]) qs rss N dd := by
  refine ⟨by rw [List.length_append, List.length_append, h.1]; rfl, fun j v e => ?_⟩
  by_cases hj : j < cs.length
  · rw [List.getElem?_append_left hj] at e
    obtain ⟨i', d', t', wa', ws', a, r⟩ := h.2 j v e
    exact ⟨i', d', t', wa', ws', by rw [List.getElem?_append_left (by rw [← h.1]; exact hj)]; exact a, r⟩
  · rw [List.getElem?_append_right (by omega)] at e
    have e0 : j - cs.length = 0 := by
      cases z : j - cs.length with
      | zero => rfl
      | succ k => rw [z] at e; simp at e
    rw [e0] at e
    refine ⟨i, d, t, wa, ws, ?_, hd, (Option.some.inj e).symm, ht, hw, hf⟩
    rw [List.getElem?_append_right (by rw [← h.1]; omega), ← h.1, e0]
    rfl
/-- the same, the lists as they stand in H0 -/
def SaidX (K : PySem.W.Frag) (H0 H : Hp) (cs : List V) (l : List (Nat × Nat)) (qs : List Rat) (rss : List (List Rat)) (N dd : Nat) : Prop := cs.length = l.length ∧ ∀ (j : Nat) (v : V), cs[j]? = some v → ∃ (i d : Nat) (t wa : Addr) (ws : List V), l[j]? = some (i, d) ∧ d < dd ∧ v = .ref t ∧ SqT K H t [.ref wa, .int (d : Int)] ∧ SqL K H0 wa ws ∧ FrN K H0 N ws (prods rss qs i)
theorem SaidX.keep {K : PySem.W.Frag} {H0 H H' : Hp} {cs : List V} {l : List (Nat × Nat)} {qs : List Rat} {rss : List (List Rat)} {N dd : Nat} (h : SaidX K H0 H cs l qs rss N dd) (k : ∀ a xs, SqT K H a xs → SqT K H' a xs) : SaidX K H0 H' cs l qs rss N dd :=
  ⟨h.1, fun j v e => let ⟨i, d, t, wa, ws, a, b, c, f, g, z⟩ := h.2 j v e; ⟨i, d, t, wa, ws, a, b, c, k _ _ f, g, z⟩⟩
theorem SaidX.nil {K : PySem.W.Frag} {H0 H : Hp} {qs : List Rat} {rss : List (List Rat)} {N dd : Nat} : SaidX K H0 H [] [] qs rss N dd := ⟨rfl, fun j v e => by simp at e⟩
theorem SaidX.snoc {K : PySem.W.Frag} {H0 H : Hp} {cs : List V} {l : List (Nat × Nat)} {qs : List Rat} {rss : List (List Rat)} {N dd i d : Nat} {t wa : Addr} {ws : List V} (h : SaidX K H0 H cs l qs rss N dd) (hd : d < dd) (ht : SqT K H t [.ref wa, .int (d : Int)]) (hw : SqL K H0 wa ws) (hf : FrN K H0 N ws (prods rss qs i)) : SaidX K H0 H (cs ++ [.ref t]) (l ++ [(i, d)]) qs rss N dd := by
  refine ⟨by rw [List.length_append, List.length_append, h.1]; rfl, fun j v e => ?_⟩
  by_cases hj : j < cs.length
  · rw [List.getElem?_append_left hj] at e
    obtain ⟨i', d', t', wa', ws', a, r⟩ := h.2 j v e
    exact ⟨i', d', t', wa', ws', by rw [List.getElem?_append_left (by rw [← h.1]; exact hj)]; exact a, r⟩
  · rw [List.getElem?_append_right (by omega)] at e
    have e0 : j - cs.length = 0 := by
      cases z : j - cs.length with
      | zero => rfl
      | succ k => rw [z] at e; simp at e
    rw [e0] at e
    refine ⟨i, d, t, wa, ws, ?_, hd, (Option.some.inj e).symm, ht, hw, hf⟩
    rw [List.getElem?_append_right (by rw [← h.1]; omega), ← h.1, e0]
    rfl
theorem SaidX.at_ {K : PySem.W.Frag} {H0 H : Hp} {cs : List V} {l : List (Nat × Nat)} {qs : List Rat} {rss : List (List Rat)} {N dd : Nat} (h : SaidX K H0 H cs l qs rss N dd) (s : Same H0 H) : SaidAt K H cs l qs rss N dd :=
  ⟨h.1, fun j v e => let ⟨i, d, t, wa, ws, a, b, c, f, g, z⟩ := h.2 j v e; ⟨i, d, t, wa, ws, a, b, c, f, s.seq g, z.same s⟩⟩
theorem gain_said (xss : List (List Rat)) (qs : List Rat) (hss tss rss : List (List Rat)) (dd mm : Nat) (hard : Bool) : ((saidL (wordD qs hss tss rss dd hard) mm).map fun z => wq xss (prods rss qs z.1) z.2).sum = gainT xss qs hss tss rss dd mm hard := said_sum (fun i d => wq xss (prods rss qs i) d) _ mm
/-- what the law made its case and its rule of -/
structure LG (K : PySem.W.Frag) (H : Hp) (P D : Addr) (qs : List Rat) (hss tss rss : List (List Rat)) (rs : List Addr) (ww dd mm : Nat) : Prop where
  p : PartsT K H P qs hss tss 43
  g : GoodC qs hss tss ww dd
  b8 : ∀ q ∈ qs, Bd 8 q
  r : RwL K H D rs rss 8
  go : Good rss mm
  wl : rss.length = ww
theorem LG.same {K : PySem.W.Frag} {H H' : Hp} {P D : Addr} {qs : List Rat} {hss tss rss : List (List Rat)} {rs : List Addr} {ww dd mm : Nat} (h : LG K H P D qs hss tss rss rs ww dd mm) (s : Same H H') : LG K H' P D qs hss tss rss rs ww dd mm := ⟨h.p.same s, h.g, h.b8, h.r.same s, h.go, h.wl⟩
def spDueL (K : PySem.W.Frag) : Sp := fun vs H Q _ => ∃ (P D : Addr) (hard : Bool) (qs : List Rat) (hss tss rss : List (List Rat)) (rs : List Addr) (ww dd mm : Nat), vs = [.ref P, .ref D, .bl hard] ∧ LG K H P D qs hss tss rss rs ww dd mm ∧
  ∀ p H', Same H H' → H p = none → H' p = some (.lst ((deedsL qs hss tss rss dd mm hard).map optN)) → Q (.ref p) H'
def spGained (K : PySem.W.Frag) : Sp := fun vs H Q _ => ∃ (P D : Addr) (hard : Bool) (qs : List Rat) (hss tss rss : List (List Rat)) (rs : List Addr) (ww dd mm : Nat), vs = [.ref P, .ref D, .bl hard] ∧ LG K H P D qs hss tss rss rs ww dd mm ∧ mm ≤ 9 ∧
  ∀ p p1 p2 H', Same H H' → SqT K H' p [.ref p1, .ref p2] → SqT K H' p1 (rp (gainT tss qs hss tss rss dd mm hard)) → SqT K H' p2 (rp (gainT hss qs hss tss rss dd mm hard)) → Q (.ref p) H'
theorem LG.nn {K : PySem.W.Frag} {H : Hp} {P D : Addr} {qs : List Rat} {hss tss rss : List (List Rat)} {rs : List Addr} {ww dd mm : Nat} (h : LG K H P D qs hss tss rss rs ww dd mm) : ∀ r ∈ rss, ∀ q ∈ r, 0 ≤ q := fun r hr q hq => (h.go.row r hr).2.1 q hq
theorem gainW_bel {xss : List (List Rat)} {qs : List Rat} {hss tss rss : List (List Rat)} {dd i d : Nat} {hard : Bool} (hp : 0 < wq rss qs i) (h : IsDone (keyT tss (belq rss qs i) hard) (bestL hss (belq rss qs i) dd) d) : wq rss qs i * wq xss (belq rss qs i) d = gainW xss qs hss tss rss dd hard i := by
  unfold gainW
  rw [bel_done hp h]
  show _ = wq xss (prods rss qs i) d
  unfold belq
  rw [wq_scale, ← Rat.mul_assoc, Rat.mul_inv_cancel _ (fun z => by rw [z] at hp; exact absurd hp (Rat.not_lt.mpr Rat.le_refl)), Rat.one_mul]
theorem gainW_none {xss : List (List Rat)} {qs : List Rat} {hss tss rss : List (List Rat)} {dd i : Nat} {hard : Bool} (hz : wq rss qs i = 0) : gainW xss qs hss tss rss dd hard i = 0 := by
  unfold gainW
  rw [word_none hz]
def gSum (xss : List (List Rat)) (qs : List Rat) (hss tss rss : List (List Rat)) (dd : Nat) (hard : Bool) (k : Nat) : Rat := ((List.range k).map (gainW xss qs hss tss rss dd hard)).sum
theorem gSum_succ (xss : List (List Rat)) (qs : List Rat) (hss tss rss : List (List Rat)) (dd : Nat) (hard : Bool) (k : Nat) : gSum xss qs hss tss rss dd hard (k + 1) = gSum xss qs hss tss rss dd hard k + gainW xss qs hss tss rss dd hard k := by
  unfold gSum
  rw [List.range_succ, List.map_append, List.sum_append, List.map_singleton, List.sum_singleton]
/-- values, then names, whatever the defaults are -/
def g3 : {α : Type} → List α → List α → List α → List α := fun us _ ws => us ++ ws
theorem g3_rel {vs ds zs : List V} {us its ws : List Value} (a : Vals vs us) (_ : Vals ds its) (b : Vals zs ws) : Vals (g3 vs ds zs) (g3 us its ws) := a.append b
theorem mk_ruleN {K : PySem.W.Frag} {C : Addr} {H : Hp} {a : Addr} {rs : List Addr} {rss : List (List Rat)} {n m : Nat} {Q : Addr → Hp → Prop} (hw : RwL K H a rs rss n) (hg : Good rss m) (hn : n ≤ 280) (q : ∀ x H', Same H H' → H x = none → IsRule K H' C x rss n → Q x H') :
    ∀ x dx, H x = none → H dx = none → dx ≠ x → spInit K C [.ref x, .ref a] (upd (upd H dx (.own x)) x (.ins C dx [])) (fun v H2 => v = .non ∧ Q x H2) E0 := by
  intro x dx hx hdx hne
  have s1 := same_new hdx (.own x)
  have hx1 : (upd H dx (.own x)) x = none := by rw [upd_ne (Ne.symm hne)]; exact hx
  have s2 := s1.trans (same_new hx1 (.ins C dx []))
  exact ⟨x, a, dx, rs, rss, n, m, rfl, upd_same, hw.same s2, hg, hn, fun ra rs' H' kp hx' hw' => ⟨rfl, q x H' (fun b o e => kp b o (ne_of_none e hx) (s2 _ _ e)) hx ⟨dx, ra, rs', hx', hw'⟩⟩⟩
/-! ### alike -/
structure IsT (K : PySem.W.Frag) (C : Addr) : Prop where
  ha : PySem.W.findIn K (.ref C) "__class__" = some (some (.builtin "object.__class__"))
  hn : PySem.W.specialIn K (.builtin "object.__class__") "__get__" = some (some (.builtin "getset_descriptor.__get__"))
  ht : PySem.W.takesIn K (.builtin "object.__class__") = some true
  hm : PySem.W.mroIn K C (.type "object") = some true
  kt : PySem.W.kitOne K (.ref C) (.ref C) = some true
def AlikeC (K : PySem.W.Frag) (C : Addr) (a b : Addr) (H : Hp) : Prop := ∃ (qs : List Rat) (hss tss : List (List Rat)) (n m : Nat), IsCase K H C a qs hss tss n ∧ IsCase K H C b qs hss tss m
def AlikeR (K : PySem.W.Frag) (C : Addr) (a b : Addr) (H : Hp) : Prop := ∃ (rss : List (List Rat)) (n m : Nat), IsRule K H C a rss n ∧ IsRule K H C b rss m
end Hr

set_option Elab.async false
set_option linter.all false
set_option maxRecDepth 100000
set_option maxHeartbeats 4000000
namespace Hr
open PySem PySem.Spec PyProof.Rows L2 BX EXB Co Ru
open Dz Cs
open Fr (Bd)
/-! ### words put together -/
abbrev gv (gs : List Nat) : List V := dsV gs
def spChkGr (K : PySem.W.Frag) : Sp := fun vs H Q _ => ∃ (a : Addr) (gs : List Nat) (many : Nat), vs = [.ref a, .int (gs.length : Int), .int (many : Int)] ∧ H a = some (.lst (gv gs)) ∧ (∀ g ∈ gs, g < many) ∧ ∀ H', Same H H' → Q .non H'
def spGrpRow (K : PySem.W.Frag) : Sp := fun vs H Q _ => ∃ (r gl : Addr) (cs : List V) (qs : List Rat) (gs : List Nat) (n many : Nat), vs = [.ref r, .ref gl, .int (many : Int)] ∧ H r = some (.lst cs) ∧ FrN K H n cs qs ∧ H gl = some (.lst (gv gs)) ∧ gs.length = qs.length ∧ qs.length ≤ 30 ∧ (∀ g ∈ gs, g < many) ∧ many ≤ 30 ∧ n ≤ 8 ∧
  ∀ D cs' H', Same H H' → H D = none → H' D = some (.lst cs') → FrN K H' 280 cs' (grp qs gs (List.replicate many 0)) → Q (.ref D) H'
def spGrouped (K : PySem.W.Frag) (C : Addr) : Sp := fun vs H Q _ => ∃ (x gl : Addr) (rss : List (List Rat)) (gs : List Nat) (n m many : Nat), vs = [.ref x, .ref gl, .int (many : Int)] ∧ IsRule K H C x rss n ∧ Good rss m ∧ H gl = some (.lst (gv gs)) ∧ gs.length = m ∧ (∀ g ∈ gs, g < many) ∧ 1 ≤ many ∧ many ≤ 30 ∧ n ≤ 8 ∧
  ∀ x H', Same H H' → H x = none → IsRule K H' C x (rss.map fun qs => grp qs gs (List.replicate many 0)) 280 → Q (.ref x) H'
theorem grp_snoc : ∀ (qs : List Rat) (gs : List Nat) (s : Rat) (g : Nat) (told : List Rat), qs.length = gs.length → grp (qs ++ [s]) (gs ++ [g]) told = (grp qs gs told).set g ((grp qs gs told).getD g 0 + s)
  | [], [], s, g, told, _ => rfl
  | [], _ :: _, _, _, _, h => by simp at h
  | _ :: _, [], _, _, _, h => by simp at h
  | q :: qs, x :: gs, s, g, told, h => by
    show grp (qs ++ [s]) (gs ++ [g]) _ = _
    rw [grp_snoc qs gs s g _ (by simpa using h)]
    rfl
theorem good_grouped {rss : List (List Rat)} {gs : List Nat} {m many : Nat} (hg : Good rss m) (hl : gs.length = m) (hm : ∀ g ∈ gs, g < many) (h1 : 1 ≤ many) (h30 : many ≤ 30) : Good (rss.map fun qs => grp qs gs (List.replicate many 0)) many := by
  refine ⟨by rw [List.length_map]; exact hg.w1, by rw [List.length_map]; exact hg.w5, h1, h30, fun qs hq => ?_⟩
  obtain ⟨r, hr, rfl⟩ := List.mem_map.mp hq
  exact grp_ok (hg.row r hr) hl hm
theorem rep_flat (k : Nat) (v : V) : (List.replicate k [v]).flatten = List.replicate k v := by
  induction k with
  | zero => rfl
  | succ k ih => rw [List.replicate_succ, List.flatten_cons, ih, List.replicate_succ]; rfl
theorem frn_rep {K : PySem.W.Frag} {H : Hp} {t : Addr} {k : Nat} (ht : SqT K H t (rp 0)) : FrN K H 1 (List.replicate k (V.ref t)) (List.replicate k 0) := by
  refine ⟨by rw [List.length_replicate, List.length_replicate], fun i v e => ?_⟩
  have hi : i < k := by
    have := (List.getElem?_eq_some_iff.mp e).1
    rw [List.length_replicate] at this
    exact this
  rw [List.getElem?_replicate, if_pos hi] at e
  exact ⟨t, 0, by rw [List.getElem?_replicate, if_pos hi], (Option.some.inj e).symm, ht, (⟨by decide, by decide⟩ : Bd 1 (0 : Rat))⟩
/-- the groups that make advice -/
def grpsL (qs : List Rat) (hss tss rss : List (List Rat)) (dd mm : Nat) (hard : Bool) : List Nat := (deedsL qs hss tss rss dd mm hard).map fun o => o.getD 0
def advR (qs : List Rat) (hss tss rss : List (List Rat)) (dd mm : Nat) (hard : Bool) : List (List Rat) := rss.map fun r => grp r (grpsL qs hss tss rss dd mm hard) (List.replicate dd 0)
theorem grpsL_len {qs : List Rat} {hss tss rss : List (List Rat)} {dd mm : Nat} {hard : Bool} : (grpsL qs hss tss rss dd mm hard).length = mm := by
  unfold grpsL
  rw [List.length_map, deedsL_len]
theorem grpsL_at {qs : List Rat} {hss tss rss : List (List Rat)} {dd mm i : Nat} {hard : Bool} (h : i < mm) : (grpsL qs hss tss rss dd mm hard)[i]? = some ((wordD qs hss tss rss dd hard i).getD 0) := by
  unfold grpsL
  rw [List.getElem?_map, deedsL_at h]
  rfl
theorem grpsL_lt {qs : List Rat} {hss tss rss : List (List Rat)} {dd mm : Nat} {hard : Bool} (h1 : 1 ≤ dd) : ∀ g ∈ grpsL qs hss tss rss dd mm hard, g < dd := fun g hg => by
  unfold grpsL at hg
  obtain ⟨o, ho, rfl⟩ := List.mem_map.mp hg
  unfold deedsL at ho
  obtain ⟨i, _, rfl⟩ := List.mem_map.mp ho
  cases e : wordD qs hss tss rss dd hard i with
  | none => exact h1
  | some d => exact word_lt e h1
theorem grp_bd : ∀ (row : List Rat) (gs : List Nat) (told : List Rat) (n : Nat), 1 ≤ n → (∀ q ∈ row, Bd 8 q) → (∀ q ∈ told, Bd n q) → ∀ x ∈ grp row gs told, Bd (n + 9 * row.length) x
  | [], _, told, n, _, _, ht, x, hx => by
    rw [grp] at hx
    · exact (ht x hx).mono (Nat.le_add_right _ _)
    · simp
  | _ :: _, [], told, n, _, _, ht, x, hx => by
    rw [grp] at hx
    · exact (ht x hx).mono (Nat.le_add_right _ _)
    · simp
  | s :: row, g :: gs, told, n, hn, hr, ht, x, hx => by
    rw [grp] at hx
    refine (grp_bd row gs _ (n + 9) (by omega) (fun q hq => hr q (List.mem_cons_of_mem _ hq)) (fun q hq => ?_) x hx).mono (by rw [List.length_cons]; omega)
    rcases List.mem_or_eq_of_mem_set hq with hq | rfl
    · exact (ht q hq).mono (by omega)
    · by_cases h : g < told.length
      · rw [List.getD_eq_getElem?_getD, List.getElem?_eq_getElem h]
        exact (Fr.bd_add (ht _ (List.getElem_mem h)) (hr s (List.mem_cons_self ..))).mono (by omega)
      · rw [List.getD_eq_getElem?_getD, List.getElem?_eq_none (by omega)]
        exact (Fr.bd_add (a := 0) (n := 1) ⟨by decide, by decide⟩ (hr s (List.mem_cons_self ..))).mono (by omega)
/-- the first i words put together -/
def grpI (gs : List Nat) (dd i : Nat) (r : List Rat) : List Rat := grp (r.take i) (gs.take i) (List.replicate dd 0)
theorem grpI_succ {gs : List Nat} {dd i g : Nat} {r : List Rat} {s : Rat} (hl : gs.length = r.length) (hg : gs[i]? = some g) (hs : r[i]? = some s) : grpI gs dd (i + 1) r = (grpI gs dd i r).set g ((grpI gs dd i r).getD g 0 + s) := by
  unfold grpI
  rw [take_succ_at hg, take_succ_at hs]
  exact grp_snoc _ _ _ _ _ (by rw [List.length_take, List.length_take, hl])
theorem grpI_len {gs : List Nat} {dd i : Nat} {r : List Rat} : (grpI gs dd i r).length = dd := by
  unfold grpI
  rw [grp_len, List.length_replicate]
theorem grpI_all {gs : List Nat} {dd i : Nat} {r : List Rat} (h1 : r.length ≤ i) (h2 : gs.length ≤ i) : grpI gs dd i r = grp r gs (List.replicate dd 0) := by
  unfold grpI
  rw [List.take_of_length_le h1, List.take_of_length_le h2]
theorem grpI_bd {gs : List Nat} {dd i : Nat} {r : List Rat} (h : ∀ q ∈ r, Bd 8 q) (hi : i ≤ 9) : ∀ x ∈ grpI gs dd i r, Bd 82 x := fun x hx => by
  unfold grpI at hx
  refine (grp_bd _ _ _ 1 (Nat.le_refl _) (fun q hq => h q (List.mem_of_mem_take hq)) (fun q hq => ?_) x hx).mono ?_
  · rw [List.eq_of_mem_replicate hq]
    exact ⟨by decide, by decide⟩
  · have := List.length_take_le i r
    omega
def midR (gs : List Nat) (dd i j : Nat) (rss : List (List Rat)) : List (List Rat) := (rss.take j).map (grpI gs dd (i + 1)) ++ (rss.drop j).map (grpI gs dd i)
theorem midR_at {gs : List Nat} {dd i j : Nat} {rss : List (List Rat)} {r : List Rat} (h : rss[j]? = some r) : (midR gs dd i j rss)[j]? = some (grpI gs dd i r) := by
  have hj : j < rss.length := (List.getElem?_eq_some_iff.mp h).1
  unfold midR
  rw [List.getElem?_append_right (by rw [List.length_map, List.length_take]; omega), List.length_map, List.length_take, Nat.min_eq_left (by omega), Nat.sub_self, List.getElem?_map, List.getElem?_drop, Nat.add_zero, h]
  rfl
theorem midR_succ {gs : List Nat} {dd i j : Nat} {rss : List (List Rat)} {r : List Rat} (h : rss[j]? = some r) : (midR gs dd i j rss).set j (grpI gs dd (i + 1) r) = midR gs dd i (j + 1) rss := by
  have hj : j < rss.length := (List.getElem?_eq_some_iff.mp h).1
  have er : rss[j] = r := (List.getElem?_eq_some_iff.mp h).2
  unfold midR
  rw [List.set_append_right _ _ (by rw [List.length_map, List.length_take]; omega), List.length_map, List.length_take, Nat.min_eq_left (by omega), Nat.sub_self, List.drop_eq_getElem_cons hj, List.map_cons, List.set_cons_zero, take_succ_at h, List.map_append, List.append_assoc]
  rfl
theorem midR_zero {gs : List Nat} {dd i : Nat} {rss : List (List Rat)} : midR gs dd i 0 rss = rss.map (grpI gs dd i) := by
  unfold midR
  rw [List.take_zero, List.drop_zero]
  rfl
theorem midR_full {gs : List Nat} {dd i : Nat} {rss : List (List Rat)} : midR gs dd i rss.length rss = rss.map (grpI gs dd (i + 1)) := by
  unfold midR
  rw [List.take_length, List.drop_length, List.map_nil, List.append_nil]
def spAdvised (K : PySem.W.Frag) (C CR : Addr) : Sp := fun vs H Q _ => ∃ (x y : Addr) (hard : Bool) (qs : List Rat) (hss tss rss : List (List Rat)) (n m ww dd mm : Nat), vs = [.ref x, .ref y, .bl hard] ∧ Ga K H C CR x y qs hss tss rss n m ww dd mm ∧ m ≤ 8 ∧
  ∀ z H', Same H H' → H z = none → IsRule K H' CR z (advR qs hss tss rss dd mm hard) 280 → Q (.ref z) H'
def spDueG (K : PySem.W.Frag) : Sp := fun vs H Q _ => ∃ (P D : Addr) (hard : Bool) (qs : List Rat) (hss tss rss : List (List Rat)) (rs : List Addr) (ww dd mm : Nat), vs = [.ref P, .ref D, .bl hard] ∧ LG K H P D qs hss tss rss rs ww dd mm ∧ mm ≤ 9 ∧
  ∀ p rs' H', Same H H' → RwL K H' p rs' (advR qs hss tss rss dd mm hard) 280 → Q (.ref p) H'
theorem good_adv {K : PySem.W.Frag} {H : Hp} {P D : Addr} {qs : List Rat} {hss tss rss : List (List Rat)} {rs : List Addr} {ww dd mm : Nat} {hard : Bool} (h : LG K H P D qs hss tss rss rs ww dd mm) : Good (advR qs hss tss rss dd mm hard) dd := good_grouped h.go grpsL_len (grpsL_lt h.g.d1) h.g.d1 (by have := h.g.d6; omega)
end Hr

set_option Elab.async false
set_option linter.all false
set_option maxRecDepth 100000
set_option maxHeartbeats 4000000
namespace Hr
open PySem PySem.Spec PyProof.Rows L2 BX EXB Co Ru
open Dz Cs
open Fr (Bd)
/-! ### where advice falls short -/
theorem num_pos' (q : Rat) : 0 < q.num ↔ 0 < q := by
  constructor
  · intro h
    have h1 : 0 ≤ q := Rat.num_nonneg.mp (by omega)
    exact Rat.not_le.mp fun z => by
      have := Rat.le_antisymm z h1
      rw [this] at h
      exact absurd h (by decide)
  · intro h
    have h1 : 0 ≤ q.num := Rat.num_nonneg.mpr (Rat.le_of_lt h)
    rcases Int.lt_or_eq_of_le h1 with h2 | h2
    · exact h2
    · have := Rat.num_eq_zero.mp h2.symm
      rw [this] at h
      exact absurd h (Rat.not_lt.mpr Rat.le_refl)
def leadP (rss : List (List Rat)) (ws : List Rat) (d e : Nat) : List Rat := List.zipWith (fun w r => w * (r.getD d 0 - r.getD e 0)) ws rss
def leadQ (rss : List (List Rat)) (ws : List Rat) (d e : Nat) : Rat := (leadP rss ws d e).sum
theorem leadP_at {rss : List (List Rat)} {ws : List Rat} {d e i : Nat} {q : Rat} {r : List Rat} (h1 : ws[i]? = some q) (h2 : rss[i]? = some r) : (leadP rss ws d e)[i]? = some (q * (r.getD d 0 - r.getD e 0)) := by
  unfold leadP
  rw [List.getElem?_zipWith, h1, h2]
theorem leadP_len {rss : List (List Rat)} {ws : List Rat} {d e : Nat} (h : ws.length = rss.length) : (leadP rss ws d e).length = ws.length := by
  unfold leadP
  rw [List.length_zipWith]
  omega
theorem lead_wq : ∀ (rss : List (List Rat)) (ws : List Rat) (d e : Nat), leadQ rss ws d e = wq rss ws d - wq rss ws e
  | [], ws, d, e => by
    cases ws <;> (unfold leadQ leadP wq prods; simp; try grind)
  | r :: rss, [], d, e => by unfold leadQ leadP wq prods; simp; try grind
  | r :: rss, w :: ws, d, e => by
    have i := lead_wq rss ws d e
    have a : leadQ (r :: rss) (w :: ws) d e = w * (r.getD d 0 - r.getD e 0) + leadQ rss ws d e := rfl
    have b : ∀ x, wq (r :: rss) (w :: ws) x = w * r.getD x 0 + wq rss ws x := fun x => rfl
    rw [a, b, b, i]
    grind
def spLead (K : PySem.W.Frag) : Sp := fun vs H Q _ => ∃ (a b : Addr) (d e : Nat) (rs : List Addr) (rss : List (List Rat)) (cs : List V) (ws : List Rat) (n m dd : Nat), vs = [.ref a, .ref b, .int (d : Int), .int (e : Int)] ∧ RwL K H a rs rss n ∧ SqL K H b cs ∧ FrN K H m cs ws ∧ ws.length = rss.length ∧ rss.length ≤ 5 ∧ (∀ r ∈ rss, r.length = dd) ∧ d < dd ∧ e < dd ∧ n ≤ 280 ∧ m ≤ 560 ∧
  ∀ p H', Same H H' → SqT K H' p (rp (leadQ rss ws d e)) → Q (.ref p) H'
/-- the deeds that would be better, word by word -/
def faultD (hss : List (List Rat)) (ws : List Rat) (d k : Nat) : List (Nat × Nat × Rat) := (List.range k).filterMap fun e => if 0 < leadQ hss ws e d then some (d, e, leadQ hss ws e d) else none
def faultsL (qs : List Rat) (hss rss : List (List Rat)) (dd k : Nat) : List (Nat × Nat × Rat) := (List.range k).flatMap fun d => faultD hss (prods rss qs d) d dd
theorem faultD_succ {hss : List (List Rat)} {ws : List Rat} {d k : Nat} : faultD hss ws d (k + 1) = faultD hss ws d k ++ (if 0 < leadQ hss ws k d then [(d, k, leadQ hss ws k d)] else []) := by
  unfold faultD
  rw [List.range_succ, List.filterMap_append]
  congr 1
  by_cases h : 0 < leadQ hss ws k d
  · simp [h]
  · simp [h]
theorem faultD_len {hss : List (List Rat)} {ws : List Rat} {d k : Nat} : (faultD hss ws d k).length ≤ k := by
  unfold faultD
  refine Nat.le_trans (List.length_filterMap_le _ _) ?_
  rw [List.length_range]
  exact Nat.le_refl _
theorem faultsL_succ {qs : List Rat} {hss rss : List (List Rat)} {dd k : Nat} : faultsL qs hss rss dd (k + 1) = faultsL qs hss rss dd k ++ faultD hss (prods rss qs k) k dd := by
  unfold faultsL
  rw [List.range_succ, List.flatMap_append]
  congr 1
  simp
theorem faultsL_len {qs : List Rat} {hss rss : List (List Rat)} {dd : Nat} : ∀ k : Nat, (faultsL qs hss rss dd k).length ≤ k * dd
  | 0 => Nat.zero_le _
  | k + 1 => by
    rw [faultsL_succ, List.length_append]
    have := faultsL_len (qs := qs) (hss := hss) (rss := rss) (dd := dd) k
    have := faultD_len (hss := hss) (ws := prods rss qs k) (d := k) (k := dd)
    rw [Nat.succ_mul]
    omega
/-- tuples (deed, other, much) -/
def FauAt (K : PySem.W.Frag) (H : Hp) (cs : List V) (l : List (Nat × Nat × Rat)) : Prop := cs.length = l.length ∧ ∀ (j : Nat) (v : V), cs[j]? = some v → ∃ (d e : Nat) (m : Rat) (t p : Addr), l[j]? = some (d, e, m) ∧ v = .ref t ∧ SqT K H t [.int (d : Int), .int (e : Int), .ref p] ∧ SqT K H p (rp m)
theorem FauAt.keep {K : PySem.W.Frag} {H H' : Hp} {cs : List V} {l : List (Nat × Nat × Rat)} (h : FauAt K H cs l) (k : ∀ a xs, SqT K H a xs → SqT K H' a xs) : FauAt K H' cs l :=
  ⟨h.1, fun j v e => let ⟨d, x, m, t, p, a, b, c, f⟩ := h.2 j v e; ⟨d, x, m, t, p, a, b, k _ _ c, k _ _ f⟩⟩
theorem FauAt.same {K : PySem.W.Frag} {H H' : Hp} {cs : List V} {l : List (Nat × Nat × Rat)} (h : FauAt K H cs l) (s : Same H H') : FauAt K H' cs l := h.keep fun _ _ => seqT s
theorem FauAt.nil {K : PySem.W.Frag} {H : Hp} : FauAt K H [] [] := ⟨rfl, fun j v e => by simp at e⟩
theorem FauAt.snoc {K : PySem.W.Frag} {H : Hp} {cs : List V} {l : List (Nat × Nat × Rat)} {d e : Nat} {m : Rat} {t p : Addr} (h : FauAt K H cs l) (ht : SqT K H t [.int (d : Int), .int (e : Int), .ref p]) (hp : SqT K H p (rp m)) : FauAt K H (cs ++ [.ref t]) (l ++ [(d, e, m)]) := by
  refine ⟨by rw [List.length_append, List.length_append, h.1]; rfl, fun j v ev => ?_⟩
  by_cases hj : j < cs.length
  · rw [List.getElem?_append_left hj] at ev
    obtain ⟨d', e', m', t', p', a, r⟩ := h.2 j v ev
    exact ⟨d', e', m', t', p', by rw [List.getElem?_append_left (by rw [← h.1]; exact hj)]; exact a, r⟩
  · rw [List.getElem?_append_right (by omega)] at ev
    have e0 : j - cs.length = 0 := by
      cases z : j - cs.length with
      | zero => rfl
      | succ k => rw [z] at ev; simp at ev
    rw [e0] at ev
    refine ⟨d, e, m, t, p, ?_, (Option.some.inj ev).symm, ht, hp⟩
    rw [List.getElem?_append_right (by rw [← h.1]; omega), ← h.1, e0]
    rfl
def spFaults (K : PySem.W.Frag) (C CR : Addr) : Sp := fun vs H Q _ => ∃ (x y : Addr) (qs : List Rat) (hss tss rss : List (List Rat)) (n m ww dd : Nat), vs = [.ref x, .ref y] ∧ Ga K H C CR x y qs hss tss rss n m ww dd dd ∧
  ∀ p cs H', Same H H' → H p = none → H' p = some (.lst cs) → FauAt K H' cs (faultsL qs hss rss dd dd) → Q (.ref p) H'
def spFollowed (K : PySem.W.Frag) (C CR : Addr) : Sp := fun vs H Q _ => ∃ (x y : Addr) (qs : List Rat) (hss tss rss : List (List Rat)) (n m ww dd : Nat), vs = [.ref x, .ref y] ∧ Ga K H C CR x y qs hss tss rss n m ww dd dd ∧
  ∀ H', Same H H' → Q (.bl (decide (faultsL qs hss rss dd dd = []))) H'
end Hr

set_option Elab.async false
set_option linter.all false
set_option maxRecDepth 100000
set_option maxHeartbeats 4000000
namespace Hr
open PySem PySem.Spec PyProof.Rows L2 BX EXB Co Ru
open Dz Cs
open Fr (Bd)
/-! ### words put together, weighed -/
/-- the sum over the words of a group -/
def sumG : List Nat → Nat → (Nat → Rat) → Rat
  | [], _, _ => 0
  | g :: gs, d, f => (if g = d then f 0 else 0) + sumG gs d fun i => f (i + 1)
theorem sumG_congr {d : Nat} : ∀ {gs : List Nat} {f g : Nat → Rat}, (∀ i, gs[i]? = some d → f i = g i) → sumG gs d f = sumG gs d g
  | [], _, _, _ => rfl
  | x :: gs, f, g, h => by
    have i := sumG_congr (gs := gs) (f := fun i => f (i + 1)) (g := fun i => g (i + 1)) fun i hi => h (i + 1) hi
    unfold sumG
    rw [i]
    by_cases e : x = d
    · rw [if_pos e, if_pos e, h 0 (by rw [e]; rfl)]
    · rw [if_neg e, if_neg e]
theorem sumG_add {d : Nat} : ∀ (gs : List Nat) (f g : Nat → Rat), sumG gs d (fun i => f i + g i) = sumG gs d f + sumG gs d g
  | [], _, _ => by unfold sumG; grind
  | x :: gs, f, g => by
    have i := sumG_add (d := d) gs (fun i => f (i + 1)) (fun i => g (i + 1))
    unfold sumG
    rw [i]
    by_cases e : x = d
    · rw [if_pos e, if_pos e, if_pos e]; grind
    · rw [if_neg e, if_neg e, if_neg e]; grind
theorem sumG_mul {d : Nat} : ∀ (gs : List Nat) (c : Rat) (f : Nat → Rat), sumG gs d (fun i => c * f i) = c * sumG gs d f
  | [], _, _ => by unfold sumG; grind
  | x :: gs, c, f => by
    have i := sumG_mul (d := d) gs c (fun i => f (i + 1))
    unfold sumG
    rw [i]
    by_cases e : x = d
    · rw [if_pos e, if_pos e]; grind
    · rw [if_neg e, if_neg e]; grind
theorem sumG_zero {d : Nat} : ∀ (gs : List Nat), sumG gs d (fun _ => 0) = 0
  | [] => rfl
  | x :: gs => by
    unfold sumG
    rw [sumG_zero gs]
    by_cases e : x = d
    · rw [if_pos e]; grind
    · rw [if_neg e]; grind
theorem sumG_le {d : Nat} : ∀ {gs : List Nat} {f g : Nat → Rat}, (∀ i, gs[i]? = some d → f i ≤ g i) → sumG gs d f ≤ sumG gs d g
  | [], _, _, _ => Rat.le_refl
  | x :: gs, f, g, h => by
    have i := sumG_le (gs := gs) (f := fun i => f (i + 1)) (g := fun i => g (i + 1)) fun i hi => h (i + 1) hi
    unfold sumG
    by_cases e : x = d
    · have := h 0 (by rw [e]; rfl)
      rw [if_pos e, if_pos e]; grind
    · rw [if_neg e, if_neg e]; grind
theorem sumG_lt {d : Nat} : ∀ {gs : List Nat} {f g : Nat → Rat} {j : Nat}, (∀ i, gs[i]? = some d → f i ≤ g i) → gs[j]? = some d → f j < g j → sumG gs d f < sumG gs d g
  | [], _, _, _, _, hj, _ => by simp at hj
  | x :: gs, f, g, 0, h, hj, hl => by
    have i := sumG_le (gs := gs) (f := fun i => f (i + 1)) (g := fun i => g (i + 1)) fun i hi => h (i + 1) hi
    have e : x = d := Option.some.inj hj
    unfold sumG
    rw [if_pos e, if_pos e]; grind
  | x :: gs, f, g, j + 1, h, hj, hl => by
    have i := sumG_lt (gs := gs) (f := fun i => f (i + 1)) (g := fun i => g (i + 1)) (j := j) (fun i hi => h (i + 1) hi) hj hl
    unfold sumG
    by_cases e : x = d
    · have := h 0 (by rw [e]; rfl)
      rw [if_pos e, if_pos e]; grind
    · rw [if_neg e, if_neg e]; grind
/-- no word of the group: nothing -/
theorem sumG_none {d : Nat} {gs : List Nat} {f : Nat → Rat} (h : ∀ i : Nat, gs[i]? ≠ some d) : sumG gs d f = 0 := by
  rw [← sumG_zero (d := d) gs]
  exact sumG_congr fun i hi => absurd hi (h i)
theorem getD_set {l : List Rat} {g d : Nat} {v : Rat} (hg : g < l.length) : (l.set g v).getD d 0 = if g = d then v else l.getD d 0 := by
  rw [List.getD_eq_getElem?_getD, List.getD_eq_getElem?_getD, List.getElem?_set]
  by_cases e : g = d
  · rw [if_pos e, if_pos e, if_pos (by omega)]
    rfl
  · rw [if_neg e, if_neg e]
theorem grp_getD : ∀ (r : List Rat) (gs : List Nat) (told : List Rat) (d : Nat), r.length = gs.length → (∀ g ∈ gs, g < told.length) → (grp r gs told).getD d 0 = told.getD d 0 + sumG gs d fun i => r.getD i 0
  | [], [], told, d, _, _ => by
    rw [grp]
    · unfold sumG; grind
    · simp
  | [], _ :: _, _, _, h, _ => by simp at h
  | _ :: _, [], _, _, h, _ => by simp at h
  | s :: r, g :: gs, told, d, h, hg => by
    have g0 := hg g (List.mem_cons_self ..)
    rw [grp, grp_getD r gs _ d (by simpa using h) (fun x hx => by rw [List.length_set]; exact hg x (List.mem_cons_of_mem _ hx)), getD_set g0]
    show _ = told.getD d 0 + ((if g = d then s else 0) + sumG gs d fun i => r.getD i 0)
    by_cases e : g = d
    · rw [if_pos e, if_pos e, e]; grind
    · rw [if_neg e, if_neg e]; grind
theorem rep_getD (dd d : Nat) : (List.replicate dd (0 : Rat)).getD d 0 = 0 := by
  rw [List.getD_eq_getElem?_getD, List.getElem?_replicate]
  by_cases h : d < dd
  · rw [if_pos h]; rfl
  · rw [if_neg h]; rfl
section
variable {gs : List Nat} {dd : Nat}
/-- the weight of a word of the advice, by any table -/
theorem wq_grp {d : Nat} : ∀ (rss : List (List Rat)) (qs : List Rat), (∀ r ∈ rss, r.length = gs.length) → (∀ g ∈ gs, g < dd) → wq (rss.map fun r => grp r gs (List.replicate dd 0)) qs d = sumG gs d fun i => wq rss qs i
  | [], qs, _, _ => by
    have e : ∀ i, wq [] qs i = 0 := fun i => by unfold wq prods; cases qs <;> rfl
    show wq [] qs d = _
    rw [e, ← sumG_zero (d := d) gs]
    exact sumG_congr fun i _ => (e i).symm
  | r :: rss, [], _, _ => by
    have e : ∀ (l : List (List Rat)) i, wq l [] i = 0 := fun l i => rfl
    rw [e, ← sumG_zero (d := d) gs]
    exact sumG_congr fun i _ => (e _ i).symm
  | r :: rss, q :: qs, hr, hg => by
    have i := wq_grp (d := d) rss qs (fun x hx => hr x (List.mem_cons_of_mem _ hx)) hg
    have a : ∀ x, wq (r :: rss) (q :: qs) x = q * r.getD x 0 + wq rss qs x := fun x => rfl
    show q * (grp r gs (List.replicate dd 0)).getD d 0 + wq (rss.map fun r => grp r gs (List.replicate dd 0)) qs d = _
    rw [i, grp_getD r gs _ d (hr r (List.mem_cons_self ..)) (fun g h => by rw [List.length_replicate]; exact hg g h), rep_getD, Rat.zero_add, ← sumG_mul, ← sumG_add]
    exact sumG_congr fun i _ => (a i).symm
theorem wq_adv {d e : Nat} : ∀ (rss xss : List (List Rat)) (qs : List Rat), (∀ r ∈ rss, r.length = gs.length) → (∀ g ∈ gs, g < dd) → wq xss (prods (rss.map fun r => grp r gs (List.replicate dd 0)) qs d) e = sumG gs d fun i => wq xss (prods rss qs i) e
  | [], xss, qs, _, _ => by
    have z : ∀ i, wq xss (prods [] qs i) e = 0 := fun i => by unfold wq prods; cases qs <;> cases xss <;> rfl
    show wq xss (prods [] qs d) e = _
    rw [z, ← sumG_zero (d := d) gs]
    exact sumG_congr fun i _ => (z i).symm
  | r :: rss, xss, [], _, _ => by
    have z : ∀ (l : List (List Rat)) i, wq xss (prods l [] i) e = 0 := fun l i => by unfold wq prods; cases xss <;> rfl
    rw [z, ← sumG_zero (d := d) gs]
    exact sumG_congr fun i _ => (z _ i).symm
  | r :: rss, [], q :: qs, _, _ => by
    have z : ∀ (l : List Rat), wq [] l e = 0 := fun l => by unfold wq prods; cases l <;> rfl
    rw [z, ← sumG_zero (d := d) gs]
    exact sumG_congr fun i _ => (z _).symm
  | r :: rss, x :: xss, q :: qs, hr, hg => by
    have i := wq_adv (d := d) (e := e) rss xss qs (fun x hx => hr x (List.mem_cons_of_mem _ hx)) hg
    have a : ∀ j, wq (x :: xss) (prods (r :: rss) (q :: qs) j) e = (q * x.getD e 0) * r.getD j 0 + wq xss (prods rss qs j) e := fun j => by
      show q * r.getD j 0 * x.getD e 0 + wq xss (prods rss qs j) e = _
      grind
    show q * (grp r gs (List.replicate dd 0)).getD d 0 * x.getD e 0 + wq xss (prods (rss.map fun r => grp r gs (List.replicate dd 0)) qs d) e = _
    rw [i, grp_getD r gs _ d (hr r (List.mem_cons_self ..)) (fun g h => by rw [List.length_replicate]; exact hg g h), rep_getD, Rat.zero_add]
    rw [show q * (sumG gs d fun i => r.getD i 0) * x.getD e 0 = (q * x.getD e 0) * (sumG gs d fun i => r.getD i 0) by grind, ← sumG_mul, ← sumG_add]
    exact sumG_congr fun i _ => (a i).symm
end
/-! ### who is done, by values -/
theorem best_sorted (hss : List (List Rat)) (ws : List Rat) (dd : Nat) : (bestL hss ws dd).Pairwise (· < ·) := List.Pairwise.filter _ List.pairwise_lt_range
theorem done_iff {key : Nat → Rat} {l : List Nat} {d : Nat} (hs : l.Pairwise (· < ·)) : IsDone key l d ↔ d ∈ l ∧ (∀ e ∈ l, key e ≤ key d) ∧ ∀ e ∈ l, e < d → key e < key d := by
  have ord : ∀ (i j : Nat) (a b : Nat), l[i]? = some a → l[j]? = some b → i < j → a < b := fun i j a b ha hb hij => by
    obtain ⟨h1, e1⟩ := List.getElem?_eq_some_iff.mp ha
    obtain ⟨h2, e2⟩ := List.getElem?_eq_some_iff.mp hb
    have := List.pairwise_iff_getElem.mp hs i j h1 h2 hij
    omega
  constructor
  · rintro ⟨j, h1, h2, h3⟩
    refine ⟨List.mem_of_getElem? h1, h2, fun e he hlt => ?_⟩
    obtain ⟨i, hi, ei⟩ := List.getElem_of_mem he
    have hi' : l[i]? = some e := by rw [List.getElem?_eq_getElem hi, ei]
    refine h3 i e ?_ hi'
    rcases Nat.lt_trichotomy i j with h | h | h
    · exact h
    · subst h
      rw [h1] at hi'
      cases hi'
      omega
    · have := ord j i d e h1 hi' h
      omega
  · rintro ⟨h1, h2, h3⟩
    obtain ⟨j, hj, ej⟩ := List.getElem_of_mem h1
    have hj' : l[j]? = some d := by rw [List.getElem?_eq_getElem hj, ej]
    exact ⟨j, hj', h2, fun i e hi he => h3 e (List.mem_of_getElem? he) (ord i j e d he hj' hi)⟩
theorem mem_best {hss : List (List Rat)} {ws : List Rat} {dd d : Nat} : d ∈ bestL hss ws dd ↔ d < dd ∧ ∀ e, e < dd → wq hss ws e ≤ wq hss ws d := by
  unfold bestL
  rw [List.mem_filter, List.mem_range, decide_eq_true_eq]
/-! ### a word that is never said weighs nothing -/
theorem sum_zero_all : ∀ {l : List Rat}, (∀ x ∈ l, 0 ≤ x) → l.sum = 0 → ∀ x ∈ l, x = 0
  | [], _, _, x, hx => by simp at hx
  | a :: l, h, hs, x, hx => by
    have h0 := h a (List.mem_cons_self ..)
    have h1 : 0 ≤ l.sum := sum_nonneg' fun y hy => h y (List.mem_cons_of_mem _ hy)
    rw [List.sum_cons] at hs
    have ha : a = 0 := by grind
    have hl : l.sum = 0 := by grind
    rcases List.mem_cons.mp hx with rfl | hx
    · exact ha
    · exact sum_zero_all (fun y hy => h y (List.mem_cons_of_mem _ hy)) hl x hx
theorem wq_zeros {e : Nat} : ∀ {xss : List (List Rat)} {ws : List Rat}, (∀ x ∈ ws, x = 0) → wq xss ws e = 0
  | [], ws, _ => by unfold wq prods; cases ws <;> rfl
  | x :: xss, [], _ => rfl
  | x :: xss, w :: ws, h => by
    have i := wq_zeros (e := e) (xss := xss) (ws := ws) fun y hy => h y (List.mem_cons_of_mem _ hy)
    show w * x.getD e 0 + wq xss ws e = 0
    rw [i, h w (List.mem_cons_self ..)]
    grind
theorem unsaid {qs : List Rat} {rss xss : List (List Rat)} {i e : Nat} (h1 : ∀ q ∈ qs, 0 ≤ q) (h2 : ∀ r ∈ rss, ∀ q ∈ r, 0 ≤ q) (h : wq rss qs i = 0) : wq xss (prods rss qs i) e = 0 :=
  wq_zeros (sum_zero_all (prods_nn h1 h2) h)
/-! ### the advice made of words is followed -/
section
variable {qs : List Rat} {hss tss rss : List (List Rat)} {dd mm : Nat} {hard : Bool}
theorem adv_len (hr : ∀ r ∈ rss, r.length = mm) : ∀ r ∈ rss, r.length = (grpsL qs hss tss rss dd mm hard).length := fun r h => by rw [grpsL_len]; exact hr r h
/-- of a word of the group: it is never said, or d is done behind it -/
theorem grp_word {i d : Nat} (h : (grpsL qs hss tss rss dd mm hard)[i]? = some d) (d1 : 1 ≤ dd) : wq rss qs i = 0 ∨ (wq rss qs i ≠ 0 ∧ IsDone (keyT tss (prods rss qs i) hard) (bestL hss (prods rss qs i) dd) d) := by
  have him : i < mm := by
    have := (List.getElem?_eq_some_iff.mp h).1
    rw [grpsL_len] at this
    exact this
  rw [grpsL_at him] at h
  by_cases z : wq rss qs i = 0
  · exact .inl z
  · refine .inr ⟨z, ?_⟩
    obtain ⟨e, a, b⟩ := doneF_ok (key := keyT tss (prods rss qs i) hard) (bestL hss (prods rss qs i) dd).length (bestL hss (prods rss qs i) dd) rfl (best_ne' d1)
    unfold wordD at h
    rw [if_neg z, a] at h
    cases h
    exact b
theorem keyT_adv {d e : Nat} {gs : List Nat} (hr : ∀ r ∈ rss, r.length = gs.length) (hg : ∀ g ∈ gs, g < dd) : keyT tss (prods (rss.map fun r => grp r gs (List.replicate dd 0)) qs d) hard e = sumG gs d fun i => keyT tss (prods rss qs i) hard e := by
  have a := wq_adv (d := d) (e := e) rss tss qs hr hg
  cases hard with
  | false => exact a
  | true =>
    show 0 - _ = _
    rw [a, show (0 : Rat) - (sumG gs d fun i => wq tss (prods rss qs i) e) = (-1) * (sumG gs d fun i => wq tss (prods rss qs i) e) by grind, ← sumG_mul]
    refine sumG_congr fun i _ => ?_
    show _ = 0 - wq tss (prods rss qs i) e
    grind
/-- the deed that is advised is best, whether the word is said or not -/
theorem adv_best {d e : Nat} (h1 : ∀ q ∈ qs, 0 ≤ q) (h2 : ∀ r ∈ rss, ∀ q ∈ r, 0 ≤ q) (hr : ∀ r ∈ rss, r.length = mm) (d1 : 1 ≤ dd) (he : e < dd) : wq hss (prods (advR qs hss tss rss dd mm hard) qs d) e ≤ wq hss (prods (advR qs hss tss rss dd mm hard) qs d) d := by
  unfold advR
  rw [wq_adv rss hss qs (adv_len hr) (grpsL_lt d1), wq_adv rss hss qs (adv_len hr) (grpsL_lt d1)]
  refine sumG_le fun i hi => ?_
  rcases grp_word hi d1 with z | ⟨_, hd⟩
  · rw [unsaid h1 h2 z, unsaid h1 h2 z]
    exact Rat.le_refl
  · exact (mem_best.mp hd.mem).2 e he
theorem adv_followed (h1 : ∀ q ∈ qs, 0 ≤ q) (h2 : ∀ r ∈ rss, ∀ q ∈ r, 0 ≤ q) (hr : ∀ r ∈ rss, r.length = mm) (d1 : 1 ≤ dd) : faultsL qs hss (advR qs hss tss rss dd mm hard) dd dd = [] := by
  unfold faultsL
  rw [List.flatMap_eq_nil_iff]
  intro d _
  unfold faultD
  rw [List.filterMap_eq_nil_iff]
  intro e he
  refine if_neg fun z => ?_
  rw [lead_wq] at z
  have := adv_best (qs := qs) (hss := hss) (tss := tss) (rss := rss) (hard := hard) (d := d) h1 h2 hr d1 (List.mem_range.mp he)
  grind
/-- behind each word of the advice that is said, its own deed is done -/
theorem adv_done {d : Nat} (h1 : ∀ q ∈ qs, 0 ≤ q) (h2 : ∀ r ∈ rss, ∀ q ∈ r, 0 ≤ q) (hr : ∀ r ∈ rss, r.length = mm) (d1 : 1 ≤ dd) (hd : d < dd) (hn : wq (advR qs hss tss rss dd mm hard) qs d ≠ 0) : wordD qs hss tss (advR qs hss tss rss dd mm hard) dd hard d = some d := by
  refine word_some hn ((done_iff (best_sorted _ _ _)).mpr ⟨mem_best.mpr ⟨hd, fun e he => adv_best h1 h2 hr d1 he⟩, fun e he => ?_, fun e he hlt => ?_⟩)
  all_goals
    have eb := mem_best.mp he
    have same : ∀ i : Nat, (grpsL qs hss tss rss dd mm hard)[i]? = some d → wq hss (prods rss qs i) d ≤ wq hss (prods rss qs i) e := fun i hi => Rat.not_lt.mp fun z => by
      have lt : wq hss (prods (advR qs hss tss rss dd mm hard) qs d) e < wq hss (prods (advR qs hss tss rss dd mm hard) qs d) d := by
        unfold advR
        rw [wq_adv rss hss qs (adv_len hr) (grpsL_lt d1), wq_adv rss hss qs (adv_len hr) (grpsL_lt d1)]
        refine sumG_lt (j := i) (fun j hj => ?_) hi z
        rcases grp_word hj d1 with y | ⟨_, hy⟩
        · rw [unsaid h1 h2 y, unsaid h1 h2 y]
          exact Rat.le_refl
        · exact (mem_best.mp hy.mem).2 e eb.1
      exact absurd lt (Rat.not_lt.mpr (eb.2 d hd))
    have alike : ∀ i : Nat, IsDone (keyT tss (prods rss qs i) hard) (bestL hss (prods rss qs i) dd) d → (grpsL qs hss tss rss dd mm hard)[i]? = some d → e ∈ bestL hss (prods rss qs i) dd := fun i hi hg => mem_best.mpr ⟨eb.1, fun x hx => Rat.le_trans ((mem_best.mp hi.mem).2 x hx) (same i hg)⟩
    have le : ∀ i : Nat, (grpsL qs hss tss rss dd mm hard)[i]? = some d → keyT tss (prods rss qs i) hard e ≤ keyT tss (prods rss qs i) hard d := fun i hi => by
      rcases grp_word hi d1 with y | ⟨_, hy⟩
      · have z : ∀ x, keyT tss (prods rss qs i) hard x = 0 := fun x => by
          unfold keyT
          rw [unsaid h1 h2 y]
          cases hard with
          | false => rfl
          | true => rw [if_pos rfl]; grind
        rw [z, z]
        exact Rat.le_refl
      · exact ((done_iff (best_sorted _ _ _)).mp hy).2.1 e (alike i hy hi)
    unfold advR
    rw [keyT_adv (adv_len hr) (grpsL_lt d1), keyT_adv (adv_len hr) (grpsL_lt d1)]
  · exact sumG_le le
  · obtain ⟨i, hi, hs⟩ : ∃ i : Nat, (grpsL qs hss tss rss dd mm hard)[i]? = some d ∧ wq rss qs i ≠ 0 := by
      refine Classical.byContradiction fun z => hn ?_
      unfold advR
      rw [wq_grp rss qs (adv_len hr) (grpsL_lt d1), ← sumG_zero (d := d) (grpsL qs hss tss rss dd mm hard)]
      refine sumG_congr fun i hi => Classical.byContradiction fun y => z ⟨i, hi, y⟩
    rcases grp_word hi d1 with y | ⟨_, hy⟩
    · exact absurd y hs
    · exact sumG_lt le hi (((done_iff (best_sorted _ _ _)).mp hy).2.2 e (alike i hy hi) hlt)
end
/-! ### gains by the advice -/
def sumI : List Nat → (Nat → Nat → Rat) → Rat
  | [], _ => 0
  | g :: gs, f => f 0 g + sumI gs fun i => f (i + 1)
theorem sum_pick (g : Nat) (f : Nat → Rat) : ∀ k : Nat, ((List.range k).map fun d => if g = d then f d else 0).sum = if g < k then f g else 0
  | 0 => rfl
  | k + 1 => by
    rw [List.range_succ, List.map_append, List.sum_append, sum_pick g f k, List.map_singleton, List.sum_singleton]
    by_cases e : g = k
    · subst e
      rw [if_neg (Nat.lt_irrefl _), if_pos rfl, if_pos (Nat.lt_succ_self _)]; grind
    · by_cases h : g < k
      · rw [if_pos h, if_neg e, if_pos (by omega)]; grind
      · rw [if_neg h, if_neg e, if_neg (by omega)]; grind
theorem sum_map_add (f g : Nat → Rat) : ∀ l : List Nat, (l.map fun d => f d + g d).sum = (l.map f).sum + (l.map g).sum
  | [] => by show (0 : Rat) = 0 + 0; grind
  | x :: l => by
    rw [List.map_cons, List.map_cons, List.map_cons, List.sum_cons, List.sum_cons, List.sum_cons, sum_map_add f g l]
    grind
theorem sum_map_zero : ∀ l : List Nat, (l.map fun _ => (0 : Rat)).sum = 0
  | [] => rfl
  | x :: l => by
    rw [List.map_cons, List.sum_cons, sum_map_zero l]
    grind
theorem sumG_total {dd : Nat} : ∀ (gs : List Nat) (f : Nat → Nat → Rat), (∀ g ∈ gs, g < dd) → ((List.range dd).map fun d => sumG gs d fun i => f i d).sum = sumI gs f
  | [], f, _ => sum_map_zero _
  | g :: gs, f, h => by
    have i := sumG_total gs (fun i => f (i + 1)) fun x hx => h x (List.mem_cons_of_mem _ hx)
    show ((List.range dd).map fun d => (if g = d then f 0 d else 0) + sumG gs d fun i => f (i + 1) d).sum = f 0 g + sumI gs fun i => f (i + 1)
    rw [sum_map_add, i, sum_pick g (f 0) dd, if_pos (h g (List.mem_cons_self ..))]
theorem sumI_range : ∀ (gs : List Nat) (f : Nat → Nat → Rat), sumI gs f = ((List.range gs.length).map fun i => f i (gs.getD i 0)).sum
  | [], f => rfl
  | g :: gs, f => by
    rw [List.length_cons, List.range_succ_eq_map, List.map_cons, List.sum_cons, List.map_map]
    show f 0 g + sumI gs (fun i => f (i + 1)) = _
    rw [sumI_range gs]
    rfl
section
variable {qs : List Rat} {hss tss rss xss : List (List Rat)} {dd mm : Nat} {hard : Bool}
theorem gain_word {i : Nat} (h1 : ∀ q ∈ qs, 0 ≤ q) (h2 : ∀ r ∈ rss, ∀ q ∈ r, 0 ≤ q) (d1 : 1 ≤ dd) (him : i < mm) : gainW xss qs hss tss rss dd hard i = wq xss (prods rss qs i) ((grpsL qs hss tss rss dd mm hard).getD i 0) := by
  rw [List.getD_eq_getElem?_getD, grpsL_at him]
  by_cases z : wq rss qs i = 0
  · rw [gainW_none z, unsaid h1 h2 z]
  · unfold gainW
    cases e : wordD qs hss tss rss dd hard i with
    | none =>
      exfalso
      unfold wordD at e
      rw [if_neg z] at e
      obtain ⟨d, a, _⟩ := doneF_ok (key := keyT tss (prods rss qs i) hard) (bestL hss (prods rss qs i) dd).length (bestL hss (prods rss qs i) dd) rfl (best_ne' d1)
      rw [a] at e
      cases e
    | some d => rfl
theorem gain_adv {d : Nat} (h1 : ∀ q ∈ qs, 0 ≤ q) (h2 : ∀ r ∈ rss, ∀ q ∈ r, 0 ≤ q) (h3 : ∀ r ∈ advR qs hss tss rss dd mm hard, ∀ q ∈ r, 0 ≤ q) (hr : ∀ r ∈ rss, r.length = mm) (d1 : 1 ≤ dd) (hd : d < dd) : gainW xss qs hss tss (advR qs hss tss rss dd mm hard) dd hard d = wq xss (prods (advR qs hss tss rss dd mm hard) qs d) d := by
  by_cases z : wq (advR qs hss tss rss dd mm hard) qs d = 0
  · rw [gainW_none z, unsaid h1 h3 z]
  · unfold gainW
    rw [adv_done h1 h2 hr d1 hd z]
/-- the advice gains what the words did -/
theorem gains_adv (h1 : ∀ q ∈ qs, 0 ≤ q) (h2 : ∀ r ∈ rss, ∀ q ∈ r, 0 ≤ q) (h3 : ∀ r ∈ advR qs hss tss rss dd mm hard, ∀ q ∈ r, 0 ≤ q) (hr : ∀ r ∈ rss, r.length = mm) (d1 : 1 ≤ dd) : gainT xss qs hss tss (advR qs hss tss rss dd mm hard) dd dd hard = gainT xss qs hss tss rss dd mm hard := by
  have e1 : gainT xss qs hss tss (advR qs hss tss rss dd mm hard) dd dd hard = ((List.range dd).map fun d => sumG (grpsL qs hss tss rss dd mm hard) d fun i => wq xss (prods rss qs i) d).sum := by
    unfold gainT
    congr 1
    refine List.map_congr_left fun d hd => ?_
    rw [gain_adv h1 h2 h3 hr d1 (List.mem_range.mp hd)]
    exact wq_adv rss xss qs (adv_len hr) (grpsL_lt d1)
  rw [e1, sumG_total _ (fun i d => wq xss (prods rss qs i) d) (grpsL_lt d1), sumI_range, grpsL_len]
  unfold gainT
  congr 1
  exact List.map_congr_left fun i hi => (gain_word h1 h2 d1 (List.mem_range.mp hi)).symm
/-- a word of the advice, none but the first, that is never said: it stands nowhere -/
theorem adv_silent {d : Nat} (h1 : ∀ q ∈ qs, 0 ≤ q) (h2 : ∀ r ∈ rss, ∀ q ∈ r, 0 ≤ q) (hr : ∀ r ∈ rss, r.length = mm) (d1 : 1 ≤ dd) (h0 : d ≠ 0) (hz : wq (advR qs hss tss rss dd mm hard) qs d = 0) : ∀ i : Nat, (grpsL qs hss tss rss dd mm hard)[i]? ≠ some d := fun i hi => by
  rcases grp_word hi d1 with y | ⟨y, _⟩
  · have him : i < mm := by
      have := (List.getElem?_eq_some_iff.mp hi).1
      rw [grpsL_len] at this
      exact this
    rw [grpsL_at him, word_none y] at hi
    exact h0 (Option.some.inj hi).symm
  · unfold advR at hz
    rw [wq_grp rss qs (adv_len hr) (grpsL_lt d1), ← sumG_zero (d := d) (grpsL qs hss tss rss dd mm hard)] at hz
    have pos : ∀ j : Nat, 0 ≤ wq rss qs j := fun j => sum_nonneg' (prods_nn h1 h2)
    have lt := sumG_lt (gs := grpsL qs hss tss rss dd mm hard) (f := fun _ => 0) (g := fun j => wq rss qs j) (fun j _ => pos j) hi (wq_pos h1 h2 y)
    rw [hz] at lt
    exact absurd lt (Rat.not_lt.mpr Rat.le_refl)
end
/-! ### advice made of advice -/
theorem sumG_pick {d : Nat} (c : Rat) : ∀ (gs : List Nat) (k : Nat), sumG gs d (fun i => if i = k then c else 0) = if gs[k]? = some d then c else 0
  | [], k => by
    rw [if_neg (by simp)]
    rfl
  | g :: gs, 0 => by
    have z : sumG gs d (fun i => if i + 1 = 0 then c else 0) = 0 := by
      refine Eq.trans (sumG_congr (g := fun _ => 0) fun i _ => ?_) (sumG_zero gs)
      show (if i + 1 = 0 then c else 0) = 0
      exact if_neg (by omega)
    show (if g = d then (if (0 : Nat) = 0 then c else 0) else 0) + sumG gs d (fun i => if i + 1 = 0 then c else 0) = _
    rw [z, if_pos (rfl : (0 : Nat) = 0)]
    by_cases e : g = d
    · rw [if_pos e, if_pos (by rw [e]; rfl)]; grind
    · rw [if_neg e, if_neg (show ¬ (g :: gs)[0]? = some d from fun h => e (Option.some.inj h))]; grind
  | g :: gs, k + 1 => by
    have z : sumG gs d (fun i => if i + 1 = k + 1 then c else 0) = if gs[k]? = some d then c else 0 := by
      rw [← sumG_pick c gs k]
      refine sumG_congr fun i _ => ?_
      show (if i + 1 = k + 1 then c else 0) = if i = k then c else 0
      by_cases e : i = k
      · rw [if_pos e, if_pos (by omega)]
      · rw [if_neg e, if_neg (by omega)]
    show (if g = d then (if (0 : Nat) = k + 1 then c else 0) else 0) + sumG gs d (fun i => if i + 1 = k + 1 then c else 0) = if gs[k]? = some d then c else 0
    rw [z, if_neg (by omega : ¬ (0 : Nat) = k + 1)]
    by_cases e : g = d
    · rw [if_pos e]; grind
    · rw [if_neg e]; grind
theorem sumG_single {d : Nat} {gs : List Nat} {f : Nat → Rat} (h1 : ∀ i : Nat, i ≠ d → gs[i]? = some d → f i = 0) (h2 : gs[d]? = some d ∨ f d = 0) : sumG gs d f = f d := by
  have e : sumG gs d f = sumG gs d fun i => if i = d then f d else 0 := sumG_congr fun i hi => by
    by_cases e : i = d
    · rw [if_pos e, e]
    · rw [if_neg e, h1 i e hi]
  rw [e, sumG_pick]
  rcases h2 with h | h
  · rw [if_pos h]
  · rw [h]
    by_cases z : gs[d]? = some d
    · rw [if_pos z]
    · rw [if_neg z]
theorem ext_getD {a b : List Rat} (hl : a.length = b.length) (h : ∀ d, a.getD d 0 = b.getD d 0) : a = b := by
  refine List.ext_getElem hl fun i h1 h2 => ?_
  have := h i
  rw [List.getD_eq_getElem?_getD, List.getD_eq_getElem?_getD, List.getElem?_eq_getElem h1, List.getElem?_eq_getElem h2] at this
  exact this
section
variable {qs : List Rat} {hss tss rss : List (List Rat)} {dd mm : Nat} {hard : Bool}
theorem adv_again (h1 : ∀ q ∈ qs, 0 ≤ q) (h2 : ∀ r ∈ rss, ∀ q ∈ r, 0 ≤ q) (hr : ∀ r ∈ rss, r.length = mm) (d1 : 1 ≤ dd) : advR qs hss tss (advR qs hss tss rss dd mm hard) dd dd hard = advR qs hss tss rss dd mm hard := by
  have say : ∀ d, d < dd → (grpsL qs hss tss (advR qs hss tss rss dd mm hard) dd dd hard)[d]? = some (if wq (advR qs hss tss rss dd mm hard) qs d = 0 then 0 else d) := fun d hd => by
    rw [grpsL_at hd]
    by_cases z : wq (advR qs hss tss rss dd mm hard) qs d = 0
    · rw [word_none z, if_pos z]
      rfl
    · rw [adv_done h1 h2 hr d1 hd z, if_neg z]
      rfl
  have row : ∀ r ∈ advR qs hss tss rss dd mm hard, r.length = dd ∧ ∀ d, d ≠ 0 → wq (advR qs hss tss rss dd mm hard) qs d = 0 → r.getD d 0 = 0 := fun r hr' => by
    unfold advR at hr'
    obtain ⟨r0, h0, rfl⟩ := List.mem_map.mp hr'
    refine ⟨by rw [grp_len, List.length_replicate], fun d hd z => ?_⟩
    rw [grp_getD r0 _ _ d (adv_len hr r0 h0) (fun g h => by rw [List.length_replicate]; exact grpsL_lt d1 g h), rep_getD, sumG_none (adv_silent h1 h2 hr d1 hd z)]
    grind
  have key : ∀ r ∈ advR qs hss tss rss dd mm hard, grp r (grpsL qs hss tss (advR qs hss tss rss dd mm hard) dd dd hard) (List.replicate dd 0) = r := fun r hr' => by
    obtain ⟨rl, rz⟩ := row r hr'
    refine ext_getD (by rw [grp_len, List.length_replicate, rl]) fun d => ?_
    rw [grp_getD r _ _ d (by rw [rl, grpsL_len]) (fun g h => by rw [List.length_replicate]; exact grpsL_lt d1 g h), rep_getD, Rat.zero_add]
    refine sumG_single (fun i hi hg => ?_) ?_
    · have hid : i < dd := by
        have := (List.getElem?_eq_some_iff.mp hg).1
        rw [grpsL_len] at this
        exact this
      rw [say i hid] at hg
      have e := Option.some.inj hg
      by_cases z : wq (advR qs hss tss rss dd mm hard) qs i = 0
      · rw [if_pos z] at e
        exact rz i (by omega) z
      · rw [if_neg z] at e
        exact absurd e hi
    · by_cases hd : d < dd
      · rw [say d hd]
        by_cases z : wq (advR qs hss tss rss dd mm hard) qs d = 0
        · rw [if_pos z]
          by_cases d0 : d = 0
          · exact .inl (by rw [d0])
          · exact .inr (rz d d0 z)
        · rw [if_neg z]
          exact .inl rfl
      · refine .inr ?_
        rw [List.getD_eq_getElem?_getD, List.getElem?_eq_none (by omega)]
        rfl
  show (advR qs hss tss rss dd mm hard).map (fun r => grp r (grpsL qs hss tss (advR qs hss tss rss dd mm hard) dd dd hard) (List.replicate dd 0)) = _
  refine Eq.trans (List.map_congr_left (g := id) fun r h => key r h) ?_
  rw [List.map_id]
end
/-! ### advice that is followed gains what it tells -/
def dueT (xss : List (List Rat)) (qs : List Rat) (rss : List (List Rat)) (dd : Nat) : Rat := ((List.range dd).map fun a => wq xss (prods rss qs a) a).sum
theorem sum_map_le {f g : Nat → Rat} : ∀ {l : List Nat}, (∀ x ∈ l, f x ≤ g x) → (l.map f).sum ≤ (l.map g).sum
  | [], _ => Rat.le_refl
  | x :: l, h => by
    have i := sum_map_le (l := l) fun y hy => h y (List.mem_cons_of_mem _ hy)
    have := h x (List.mem_cons_self ..)
    rw [List.map_cons, List.map_cons, List.sum_cons, List.sum_cons]
    grind
section
variable {qs : List Rat} {hss tss rss xss : List (List Rat)} {dd mm : Nat} {hard : Bool}
theorem due_adv (h1 : ∀ q ∈ qs, 0 ≤ q) (h2 : ∀ r ∈ rss, ∀ q ∈ r, 0 ≤ q) (h3 : ∀ r ∈ advR qs hss tss rss dd mm hard, ∀ q ∈ r, 0 ≤ q) (hr : ∀ r ∈ rss, r.length = mm) (d1 : 1 ≤ dd) : gainT xss qs hss tss (advR qs hss tss rss dd mm hard) dd dd hard = dueT xss qs (advR qs hss tss rss dd mm hard) dd := by
  unfold gainT dueT
  congr 1
  exact List.map_congr_left fun d hd => gain_adv h1 h2 h3 hr d1 (List.mem_range.mp hd)
theorem fol_best (h : faultsL qs hss rss dd dd = []) {a e : Nat} (ha : a < dd) (he : e < dd) : wq hss (prods rss qs a) e ≤ wq hss (prods rss qs a) a := by
  unfold faultsL at h
  rw [List.flatMap_eq_nil_iff] at h
  have h' := h a (List.mem_range.mpr ha)
  unfold faultD at h'
  rw [List.filterMap_eq_nil_iff] at h'
  have z := h' e (List.mem_range.mpr he)
  by_cases c : 0 < leadQ hss (prods rss qs a) e a
  · rw [if_pos c] at z
    cases z
  · rw [lead_wq] at c
    have := Rat.not_lt.mp c
    grind
/-- what is done behind a word that is said -/
theorem said_done {a : Nat} (d1 : 1 ≤ dd) (hn : wq rss qs a ≠ 0) : ∃ d, wordD qs hss tss rss dd hard a = some d ∧ IsDone (keyT tss (prods rss qs a) hard) (bestL hss (prods rss qs a) dd) d := by
  obtain ⟨d, x, y⟩ := doneF_ok (key := keyT tss (prods rss qs a) hard) (bestL hss (prods rss qs a) dd).length (bestL hss (prods rss qs a) dd) rfl (best_ne' d1)
  refine ⟨d, ?_, y⟩
  unfold wordD
  rw [if_neg hn, x]
theorem fol_hearer (h1 : ∀ q ∈ qs, 0 ≤ q) (h2 : ∀ r ∈ rss, ∀ q ∈ r, 0 ≤ q) (d1 : 1 ≤ dd) (h : faultsL qs hss rss dd dd = []) : gainT hss qs hss tss rss dd dd hard = dueT hss qs rss dd := by
  unfold gainT dueT
  congr 1
  refine List.map_congr_left fun a ha => ?_
  have ha := List.mem_range.mp ha
  by_cases z : wq rss qs a = 0
  · rw [gainW_none z, unsaid h1 h2 z]
  · obtain ⟨d, e1, e2⟩ := said_done (hss := hss) (tss := tss) (hard := hard) d1 z
    unfold gainW
    rw [e1]
    have m := mem_best.mp e2.mem
    exact Rat.le_antisymm (fol_best h ha m.1) (m.2 a ha)
theorem fol_teller (h1 : ∀ q ∈ qs, 0 ≤ q) (h2 : ∀ r ∈ rss, ∀ q ∈ r, 0 ≤ q) (d1 : 1 ≤ dd) (h : faultsL qs hss rss dd dd = []) : dueT tss qs rss dd ≤ gainT tss qs hss tss rss dd dd false := by
  unfold gainT dueT
  refine sum_map_le fun a ha => ?_
  have ha := List.mem_range.mp ha
  by_cases z : wq rss qs a = 0
  · rw [gainW_none z, unsaid h1 h2 z]
    exact Rat.le_refl
  · obtain ⟨d, e1, e2⟩ := said_done (hss := hss) (tss := tss) (hard := false) d1 z
    unfold gainW
    rw [e1]
    exact ((done_iff (best_sorted _ _ _)).mp e2).2.1 a (mem_best.mpr ⟨ha, fun e he => fol_best h ha he⟩)
end
/-! ### how often a deed is done in a world -/
def oftF (f : Nat → Option Nat) (r : List Rat) (act k : Nat) : Rat := ((List.range k).map fun i => if f i = some act then r.getD i 0 else 0).sum
theorem sumG_range {d : Nat} : ∀ (gs : List Nat) (f : Nat → Rat), sumG gs d f = ((List.range gs.length).map fun i => if gs.getD i 0 = d then f i else 0).sum
  | [], f => rfl
  | g :: gs, f => by
    rw [List.length_cons, List.range_succ_eq_map, List.map_cons, List.sum_cons, List.map_map]
    show (if g = d then f 0 else 0) + sumG gs d (fun i => f (i + 1)) = _
    rw [sumG_range gs]
    rfl
theorem row_zero {qs : List Rat} {rss : List (List Rat)} {w i : Nat} {q : Rat} {r : List Rat} (h1 : ∀ q ∈ qs, 0 ≤ q) (h2 : ∀ r ∈ rss, ∀ q ∈ r, 0 ≤ q) (hq : qs[w]? = some q) (hr : rss[w]? = some r) (hp : 0 < q) (hz : wq rss qs i = 0) : r.getD i 0 = 0 := by
  have e := sum_zero_all (prods_nn h1 h2) hz _ (List.mem_of_getElem? (prods_at (d := i) hq hr))
  rcases Rat.mul_eq_zero.mp e with z | z
  · rw [z] at hp
    exact absurd hp (Rat.not_lt.mpr Rat.le_refl)
  · exact z
section
variable {qs : List Rat} {hss tss rss : List (List Rat)} {dd mm w act : Nat} {hard : Bool} {q : Rat} {r : List Rat}
theorem oft_words (h1 : ∀ q ∈ qs, 0 ≤ q) (h2 : ∀ r ∈ rss, ∀ q ∈ r, 0 ≤ q) (d1 : 1 ≤ dd) (hq : qs[w]? = some q) (hr : rss[w]? = some r) (hp : 0 < q) : oftF (wordD qs hss tss rss dd hard) r act mm = sumG (grpsL qs hss tss rss dd mm hard) act fun i => r.getD i 0 := by
  rw [sumG_range, grpsL_len]
  unfold oftF
  congr 1
  refine List.map_congr_left fun i hi => ?_
  have hi := List.mem_range.mp hi
  have eg : (grpsL qs hss tss rss dd mm hard).getD i 0 = (wordD qs hss tss rss dd hard i).getD 0 := by rw [List.getD_eq_getElem?_getD, grpsL_at hi]; rfl
  rw [eg]
  by_cases z : wq rss qs i = 0
  · rw [row_zero h1 h2 hq hr hp z]
    by_cases a : wordD qs hss tss rss dd hard i = some act <;> by_cases b : (wordD qs hss tss rss dd hard i).getD 0 = act <;> simp [a, b]
  · obtain ⟨d, e, _⟩ := said_done (hss := hss) (tss := tss) (hard := hard) d1 z
    rw [e]
    show (if some d = some act then _ else _) = if d = act then _ else _
    by_cases a : d = act
    · rw [if_pos (by rw [a]), if_pos a]
    · rw [if_neg (fun x => a (Option.some.inj x)), if_neg a]
theorem oft_adv (h1 : ∀ q ∈ qs, 0 ≤ q) (h2 : ∀ r ∈ rss, ∀ q ∈ r, 0 ≤ q) (h3 : ∀ r ∈ advR qs hss tss rss dd mm hard, ∀ q ∈ r, 0 ≤ q) (hl : ∀ r ∈ rss, r.length = mm) (d1 : 1 ≤ dd) (hq : qs[w]? = some q) (hr : (advR qs hss tss rss dd mm hard)[w]? = some r) (hp : 0 < q) (ha : act < dd) : oftF (wordD qs hss tss (advR qs hss tss rss dd mm hard) dd hard) r act dd = r.getD act 0 := by
  have e : oftF (wordD qs hss tss (advR qs hss tss rss dd mm hard) dd hard) r act dd = ((List.range dd).map fun d => if act = d then r.getD act 0 else 0).sum := by
    unfold oftF
    congr 1
    refine List.map_congr_left fun d hd => ?_
    have hd := List.mem_range.mp hd
    by_cases z : wq (advR qs hss tss rss dd mm hard) qs d = 0
    · rw [word_none z, if_neg (by simp)]
      by_cases a : act = d
      · rw [if_pos a, a, row_zero h1 h3 hq hr hp z]
      · rw [if_neg a]
    · rw [adv_done h1 h2 hl d1 hd z]
      by_cases a : act = d
      · rw [if_pos a, if_pos (by rw [a]), a]
      · rw [if_neg a, if_neg (fun x => a (Option.some.inj x).symm)]
  rw [e, sum_pick act (fun _ => r.getD act 0) dd, if_pos ha]
/-- in each world with a share each deed is done as often -/
theorem oft_alike (h1 : ∀ q ∈ qs, 0 ≤ q) (h2 : ∀ r ∈ rss, ∀ q ∈ r, 0 ≤ q) (h3 : ∀ r ∈ advR qs hss tss rss dd mm hard, ∀ q ∈ r, 0 ≤ q) (hl : ∀ r ∈ rss, r.length = mm) (d1 : 1 ≤ dd) (hq : qs[w]? = some q) (hr : rss[w]? = some r) (hp : 0 < q) (ha : act < dd) :
    oftF (wordD qs hss tss rss dd hard) r act mm = oftF (wordD qs hss tss (advR qs hss tss rss dd mm hard) dd hard) (grp r (grpsL qs hss tss rss dd mm hard) (List.replicate dd 0)) act dd := by
  have hr' : (advR qs hss tss rss dd mm hard)[w]? = some (grp r (grpsL qs hss tss rss dd mm hard) (List.replicate dd 0)) := by
    unfold advR
    rw [List.getElem?_map, hr]
    rfl
  rw [oft_words h1 h2 d1 hq hr hp, oft_adv h1 h2 h3 hl d1 hq hr' hp ha, grp_getD r _ _ act (adv_len hl r (List.mem_of_getElem? hr)) (fun g h => by rw [List.length_replicate]; exact grpsL_lt d1 g h), rep_getD]
  grind
end
end Hr

set_option Elab.async false
set_option linter.all false
set_option maxRecDepth 100000
set_option maxHeartbeats 4000000
namespace Hr
open PySem PySem.Spec PyProof.Rows L2 BX EXB Co Ru
open Dz Cs
open Fr (Bd)
/-! ### words put together, with a bound that is known of the values -/
def spGrpRowB (K : PySem.W.Frag) : Sp := fun vs H Q _ => ∃ (r gl : Addr) (cs : List V) (qs : List Rat) (gs : List Nat) (n many : Nat), vs = [.ref r, .ref gl, .int (many : Int)] ∧ H r = some (.lst cs) ∧ FrN K H n cs qs ∧ H gl = some (.lst (gv gs)) ∧ gs.length = qs.length ∧ qs.length ≤ 30 ∧ (∀ g ∈ gs, g < many) ∧ many ≤ 30 ∧ (n + 1) * qs.length ≤ 4000 ∧
  ∀ D cs' H', Same H H' → H D = none → H' D = some (.lst cs') → FrN K H' (1 + (n + 1) * qs.length) cs' (grp qs gs (List.replicate many 0)) → Q (.ref D) H'
def spGroupedB (K : PySem.W.Frag) (C : Addr) : Sp := fun vs H Q _ => ∃ (x gl : Addr) (rss : List (List Rat)) (gs : List Nat) (n m many b : Nat), vs = [.ref x, .ref gl, .int (many : Int)] ∧ IsRule K H C x rss n ∧ Good rss m ∧ H gl = some (.lst (gv gs)) ∧ gs.length = m ∧ (∀ g ∈ gs, g < many) ∧ 1 ≤ many ∧ many ≤ 30 ∧ (n + 1) * m ≤ 4000 ∧ b ≤ 280 ∧ (∀ r ∈ rss, ∀ q ∈ grp r gs (List.replicate many 0), Bd b q) ∧
  ∀ x H', Same H H' → H x = none → IsRule K H' C x (rss.map fun qs => grp qs gs (List.replicate many 0)) b → Q (.ref x) H'
def spAdvisedB (K : PySem.W.Frag) (C CR : Addr) : Sp := fun vs H Q _ => ∃ (x y : Addr) (hard : Bool) (qs : List Rat) (hss tss rss : List (List Rat)) (n m ww dd mm b : Nat), vs = [.ref x, .ref y, .bl hard] ∧ Ga K H C CR x y qs hss tss rss n m ww dd mm ∧ (m + 1) * mm ≤ 4000 ∧ b ≤ 280 ∧ (∀ r ∈ advR qs hss tss rss dd mm hard, ∀ q ∈ r, Bd b q) ∧
  ∀ z H', Same H H' → H z = none → IsRule K H' CR z (advR qs hss tss rss dd mm hard) b → Q (.ref z) H'
theorem rw_bd {K : PySem.W.Frag} {H : Hp} {a : Addr} {rs : List Addr} {rss : List (List Rat)} {n : Nat} (h : RwL K H a rs rss n) : ∀ r ∈ rss, ∀ q ∈ r, Bd n q := fun r hr q hq => by
  obtain ⟨i, hi, e⟩ := List.getElem_of_mem hr
  have hrs : i < rs.length := by rw [h.2.1]; exact hi
  obtain ⟨cs', qs, f1, f2, f3⟩ := h.2.2 i rs[i] (List.getElem?_eq_getElem hrs)
  rw [List.getElem?_eq_getElem hi, e] at f1
  cases f1
  exact frn_bd f3 q hq
theorem adv_bd {qs : List Rat} {hss tss rss : List (List Rat)} {dd mm : Nat} {hard : Bool} (h : ∀ r ∈ rss, ∀ q ∈ r, Bd 8 q) (hl : ∀ r ∈ rss, r.length = mm) (hm : mm ≤ 9) : ∀ r ∈ advR qs hss tss rss dd mm hard, ∀ q ∈ r, Bd 82 q := fun r hr q hq => by
  unfold advR at hr
  obtain ⟨r0, h0, rfl⟩ := List.mem_map.mp hr
  have l0 := hl r0 h0
  rw [← grpI_all (i := mm) (by omega) (by rw [grpsL_len]; exact Nat.le_refl _)] at hq
  exact grpI_bd (h r0 h0) hm q hq
theorem prodB {xss : List (List Rat)} {ws : List Rat} {d n m : Nat} (hn : 1 ≤ n) (hx : ∀ r ∈ xss, ∀ q ∈ r, Bd n q) (hw : ∀ q ∈ ws, Bd m q) : ∀ q ∈ prods xss ws d, Bd (m + n) q := fun q hq => by
  unfold prods at hq
  obtain ⟨i, hi, e⟩ := List.getElem_of_mem hq
  rw [List.getElem_zipWith] at e
  subst e
  rw [List.length_zipWith] at hi
  refine Fr.bd_mul (hw _ (List.getElem_mem _)) ?_
  have hr : i < xss.length := by omega
  by_cases hd : d < xss[i].length
  · rw [List.getD_eq_getElem?_getD, List.getElem?_eq_getElem hd]
    exact hx _ (List.getElem_mem hr) _ (List.getElem_mem hd)
  · rw [List.getD_eq_getElem?_getD, List.getElem?_eq_none (by omega)]
    exact Fr.Bd.mono (n := 1) ⟨by decide, by decide⟩ hn
theorem wqB {xss : List (List Rat)} {ws : List Rat} {d n m : Nat} (hn : 1 ≤ n) (hx : ∀ r ∈ xss, ∀ q ∈ r, Bd n q) (hw : ∀ q ∈ ws, Bd m q) (h5 : ws.length ≤ 5) : Bd ((m + n + 1) * 5 + 1) (wq xss ws d) := by
  unfold wq
  refine (bd_sum (prodB hn hx hw)).mono ?_
  have : (prods xss ws d).length ≤ 5 := by unfold prods; rw [List.length_zipWith]; omega
  have := Nat.mul_le_mul_left (m + n + 1) this
  omega
theorem gainB {xss : List (List Rat)} {qs : List Rat} {hss tss rss : List (List Rat)} {dd mm n a b : Nat} {hard : Bool} (hn : 1 ≤ n) (hb : 1 ≤ b) (hx : ∀ r ∈ xss, ∀ q ∈ r, Bd n q) (hq : ∀ q ∈ qs, Bd a q) (hr : ∀ r ∈ rss, ∀ q ∈ r, Bd b q) (h5 : qs.length ≤ 5) : Bd (((a + b + n + 1) * 5 + 2) * mm + 1) (gainT xss qs hss tss rss dd mm hard) := by
  unfold gainT
  have hw : ∀ q ∈ (List.range mm).map (gainW xss qs hss tss rss dd hard), Bd ((a + b + n + 1) * 5 + 1) q := fun q hq' => by
    obtain ⟨i, _, rfl⟩ := List.mem_map.mp hq'
    unfold gainW
    split
    · exact Fr.Bd.mono (n := 1) ⟨by decide, by decide⟩ (by omega)
    · exact wqB hn hx (prodB hb hr hq) (by unfold prods; rw [List.length_zipWith]; omega)
  refine (bd_sum hw).mono ?_
  rw [List.length_map, List.length_range]
  exact Nat.le_refl _
theorem dueB {xss : List (List Rat)} {qs : List Rat} {rss : List (List Rat)} {dd n a b : Nat} (hn : 1 ≤ n) (hb : 1 ≤ b) (hx : ∀ r ∈ xss, ∀ q ∈ r, Bd n q) (hq : ∀ q ∈ qs, Bd a q) (hr : ∀ r ∈ rss, ∀ q ∈ r, Bd b q) (h5 : qs.length ≤ 5) : Bd (((a + b + n + 1) * 5 + 2) * dd + 1) (dueT xss qs rss dd) := by
  unfold dueT
  have hw : ∀ q ∈ (List.range dd).map (fun a => wq xss (prods rss qs a) a), Bd ((a + b + n + 1) * 5 + 1) q := fun q hq' => by
    obtain ⟨i, _, rfl⟩ := List.mem_map.mp hq'
    exact wqB hn hx (prodB hb hr hq) (by unfold prods; rw [List.length_zipWith]; omega)
  refine (bd_sum hw).mono ?_
  rw [List.length_map, List.length_range]
  exact Nat.le_refl _
theorem is_re {K : PySem.W.Frag} {H : Hp} {C x : Addr} {rss : List (List Rat)} {n m : Nat} (h : IsRule K H C x rss n) (hb : ∀ r ∈ rss, ∀ q ∈ r, Bd m q) : IsRule K H C x rss m := by
  obtain ⟨d, ra, rs, e, w⟩ := h
  exact ⟨d, ra, rs, e, w.1, w.2.1, fun j r er => let ⟨cs, qs, f1, f2, f3⟩ := w.2.2 j r er; ⟨cs, qs, f1, f2, frn_re f3 (hb qs (List.mem_of_getElem? f1))⟩⟩
end Hr

set_option Elab.async false
set_option linter.all false
set_option maxRecDepth 100000
set_option maxHeartbeats 4000000
namespace Sx
open PySem PySem.Spec PyProof.Rows L2
/-! ### sorted of a tuple of numbers -/
section
variable {prog : Program} {w : World} {A : Around} {E : Value → Shared → Prop} {s : Shared}
theorem sorted_tup {l : Addr} {o : Obj} {vs : List Value} {ns : List Int} {n : Nat} {Q : Value → Shared → Prop} (ho : s.heap.get? l = some o) (hc : o.cls = .type "tuple") (hd : o.data = .seq vs.toArray n) (hI : IntsAre vs ns) (h64 : vs.length < 64)
    (h : ∀ (h1 : Heap) (p : Addr) (out : Array Value) (ns' : List Int), (∀ b u, s.heap.get? b = some u → h1.get? b = some u) → s.heap.get? p = none → (∃ e, h1.get? p = some (seqObj "list" out e)) → IntsAre out.toList ns' → ns'.Perm ns → ns'.Pairwise (· ≤ ·) → Q (.ref p) { s with heap := h1 }) :
    wpAny (model prog w) A (call (.builtin "sorted") [.ref l]) Q E s := by
  have hz : vs.toArray.size ≤ sizeLine := by
    rw [List.size_toArray, sizeLine_eq]
    omega
  refine Calls.call_function_entry kind_sorted plain_sorted entry_sorted (args_sorted1 _) ?_
  unfold Builtin.«sorted»
  refine wpAny_bind (m := checkCount "sorted" 1 1 _) (wpAny_pure ?_)
  refine wpAny_bind (wpAny_collect_seq l (.inr rfl) ho hc hd (fun h2 k2 => ?_) hz)
  rw [show vs.toArray.toList = vs by simp]
  refine wpAny_bind (wpAny_newList ?_)
  have at2 : (h2.push (seqObj "list" vs.toArray 0)).get? h2.objs.size = some (seqObj "list" vs.toArray 0) := Heap.get?_push_size _ rfl
  refine wpAny_bind (wpAny_holding (wpAny_call_entry slot_list_sort ⟨_, at2, rfl⟩ entry_list_sort (list_sort_tree at2 hI h64 fun out ns' a1 a2 a3 => ⟨_, rfl, wpAny_pure ⟨_, rfl, ?_⟩⟩) (args_list_sort _)))
  refine h _ h2.objs.size out ns' (fun b u hb => ?_) ?_ (sortedHeap_at at2) a1 a2 a3
  · have hb2 := k2 b u hb
    have lt2 : b < h2.objs.size := Heap.lt_size hb2
    show (sortedHeap _ _ _ _).get? b = some u
    rw [sortedHeap_old (Nat.ne_of_lt lt2) (by rw [size_push']; exact Nat.lt_succ_of_lt lt2)]
    exact Heap.get?_push_of_some _ hb2
  · cases e : s.heap.get? h2.objs.size with
    | none => rfl
    | some u => exact absurd (Heap.lt_size (k2 _ _ e)) (Nat.lt_irrefl _)
end
def rSortT (K : PySem.W.Frag) : List V → Hp → VK → Prop := fun vs H Q => ∃ (a : Addr) (ns : List Int), vs = [V.ref a] ∧ SqT K H a (ns.map V.int) ∧ ns.length < 64 ∧ ∀ (ns' : List Int) (p : Addr), ns'.Perm ns → ns'.Pairwise (· ≤ ·) → H p = none → Q (.ref p) (upd H p (.lst (ns'.map V.int)))
theorem cr_sortT {X : Cx} : CallR X (.builtin "sorted") (rSortT X.K) := by
  intro pins s σ H vs us Q I r h
  obtain ⟨a, ns, rfl, hs, h64, q⟩ := h
  obtain ⟨its, rv, pl, hz⟩ := I.tuple hs
  rw [Vals.ref1 r]
  have hi := rv.ints
  obtain ⟨o, ho, hc, n, hd⟩ := pl
  refine sorted_tup ho hc hd hi (by rw [hi.length]; exact h64) fun h1 p out ns' k hp he h2 h3 h4 => ?_
  obtain ⟨ep, he'⟩ := he
  have hlen : (ns'.map V.int).length ≤ sizeLine := by rw [List.length_map, h3.length_eq]; exact small64 h64
  have hn : H p = none := HOk.gone I.hok hp
  exact ⟨.ref p, upd H p (.lst (ns'.map V.int)), I.laidN (t' := s.toks) k hp hn ⟨hlen, out.toList, ep, vals_of_ints h2, he'⟩, rfl, q ns' p h3 h4 hn⟩
end Sx

set_option Elab.async false
set_option linter.all false
set_option maxRecDepth 100000
set_option maxHeartbeats 4000000
namespace Hr
open PySem PySem.Spec PyProof.Rows L2 BX EXB Co Ru
open Dz Cs
open Fr (Bd)
/-! ### beliefs, by bounds that are known of the values -/
theorem belB {rss : List (List Rat)} {qs : List Rat} {i n m : Nat} (hn : 1 ≤ n) (hx : ∀ r ∈ rss, ∀ q ∈ r, Bd n q) (hw : ∀ q ∈ qs, Bd m q) (h5 : qs.length ≤ 5) (h0 : wq rss qs i ≠ 0) : ∀ q ∈ belq rss qs i, Bd ((m + n) + ((m + n + 1) * 5 + 1)) q := fun q hq => by
  unfold belq at hq
  obtain ⟨w, hw', rfl⟩ := List.mem_map.mp hq
  exact bd_div (prodB hn hx hw w hw') (wqB hn hx hw h5) h0
theorem lead_bel {hss rss : List (List Rat)} {qs : List Rat} {i : Nat} (h0 : wq rss qs i ≠ 0) (a b : Nat) : wq rss qs i * (wq hss (belq rss qs i) a - wq hss (belq rss qs i) b) = leadQ hss (prods rss qs i) a b := by
  unfold belq
  rw [wq_scale, wq_scale, lead_wq]
  have h := Rat.mul_inv_cancel _ h0
  generalize wq rss qs i = c at h
  generalize wq hss (prods rss qs i) a = A
  generalize wq hss (prods rss qs i) b = B
  grind
theorem lead_zero {hss rss : List (List Rat)} {qs : List Rat} {i : Nat} (h1 : ∀ q ∈ qs, 0 ≤ q) (h2 : ∀ r ∈ rss, ∀ q ∈ r, 0 ≤ q) (h : wq rss qs i = 0) (a b : Nat) : leadQ hss (prods rss qs i) a b = 0 := by
  rw [lead_wq, unsaid h1 h2 h, unsaid h1 h2 h, Rat.sub_self]
theorem faultD_nil {hss : List (List Rat)} {ws : List Rat} {d k : Nat} (h : ∀ e, e < k → ¬ 0 < leadQ hss ws e d) : faultD hss ws d k = [] := by
  unfold faultD
  refine List.filterMap_eq_nil_iff.mpr fun e he => ?_
  rw [if_neg (h e (List.mem_range.mp he))]
theorem faultsL_nil {qs : List Rat} {hss rss : List (List Rat)} {dd : Nat} (h : ∀ d, d < dd → ∀ e, e < dd → ¬ 0 < leadQ hss (prods rss qs d) e d) : faultsL qs hss rss dd dd = [] := by
  unfold faultsL
  refine List.flatMap_eq_nil_iff.mpr fun d hd => faultD_nil (h d (List.mem_range.mp hd))
theorem lead_pos {hss rss : List (List Rat)} {qs : List Rat} {i a b : Nat} (hp : 0 < wq rss qs i) : 0 < wq hss (belq rss qs i) a - wq hss (belq rss qs i) b ↔ 0 < leadQ hss (prods rss qs i) a b := by
  rw [← lead_bel (fun z => by rw [z] at hp; exact absurd hp (Rat.not_lt.mpr Rat.le_refl))]
  constructor
  · exact fun h => Rat.mul_pos hp h
  · intro h
    refine Rat.not_le.mp fun z => ?_
    have := Rat.mul_le_mul_of_nonneg_left z (Rat.le_of_lt hp)
    rw [Rat.mul_zero] at this
    exact absurd h (Rat.not_lt.mpr this)
/-! ### two rules mixed -/
def mixRow (p : Rat) (a b : List Rat) : List Rat := List.zipWith (fun x y => (1 - p) * x + p * y) a b
def mixR (p : Rat) (as bs : List (List Rat)) : List (List Rat) := List.zipWith (mixRow p) as bs
theorem mixRow_sum (p : Rat) : ∀ {a b : List Rat}, a.length = b.length → (mixRow p a b).sum = (1 - p) * a.sum + p * b.sum
  | [], [], _ => by
    show ([] : List Rat).sum = _
    rw [List.sum_nil, Rat.mul_zero, Rat.mul_zero, Rat.add_zero]
  | [], _ :: _, h => by simp at h
  | _ :: _, [], h => by simp at h
  | x :: a, y :: b, h => by
    show (((1 - p) * x + p * y) :: mixRow p a b).sum = _
    rw [List.sum_cons, mixRow_sum p (by simpa using h), List.sum_cons, List.sum_cons]
    grind
theorem mixRow_at {p : Rat} {a b : List Rat} {i : Nat} {x y : Rat} (h1 : a[i]? = some x) (h2 : b[i]? = some y) : (mixRow p a b)[i]? = some ((1 - p) * x + p * y) := by
  unfold mixRow
  rw [List.getElem?_zipWith, h1, h2]
theorem mixR_at {p : Rat} {as bs : List (List Rat)} {i : Nat} {x y : List Rat} (h1 : as[i]? = some x) (h2 : bs[i]? = some y) : (mixR p as bs)[i]? = some (mixRow p x y) := by
  unfold mixR
  rw [List.getElem?_zipWith, h1, h2]
theorem mixRow_len {p : Rat} {a b : List Rat} (h : a.length = b.length) : (mixRow p a b).length = a.length := by
  unfold mixRow
  rw [List.length_zipWith]
  omega
theorem mixR_len {p : Rat} {a b : List (List Rat)} (h : a.length = b.length) : (mixR p a b).length = a.length := by
  unfold mixR
  rw [List.length_zipWith]
  omega
theorem mixRow_ok {p : Rat} {a b : List Rat} {m : Nat} (p0 : 0 ≤ p) (p1 : p ≤ 1) (ha : RowOk m a) (hb : RowOk m b) : RowOk m (mixRow p a b) := by
  have hl : a.length = b.length := by rw [ha.1, hb.1]
  refine ⟨by rw [mixRow_len hl, ha.1], fun q hq => ?_, by rw [mixRow_sum p hl, ha.2.2, hb.2.2]; grind⟩
  obtain ⟨i, hi, e⟩ := List.getElem_of_mem hq
  rw [mixRow_len hl] at hi
  have e2 := mixRow_at (p := p) (List.getElem?_eq_getElem hi) (List.getElem?_eq_getElem (show i < b.length by omega))
  have e3 : q = (1 - p) * a[i] + p * b[i] := by
    rw [← e]
    exact (List.getElem?_eq_some_iff.mp e2).2
  rw [e3]
  exact Rat.add_nonneg (Rat.mul_nonneg (by grind) (ha.2.1 _ (List.getElem_mem hi))) (Rat.mul_nonneg p0 (hb.2.1 _ (List.getElem_mem _)))
theorem mix_mem {p : Rat} {as bs : List (List Rat)} {r : List Rat} (h : r ∈ mixR p as bs) : ∃ (i : Nat) (x y : List Rat), as[i]? = some x ∧ bs[i]? = some y ∧ (mixR p as bs)[i]? = some r ∧ r = mixRow p x y := by
  obtain ⟨i, hi, e⟩ := List.getElem_of_mem h
  have hi' := hi
  unfold mixR at hi'
  rw [List.length_zipWith] at hi'
  have h1 : i < as.length := by omega
  have h2 : i < bs.length := by omega
  refine ⟨i, as[i], bs[i], List.getElem?_eq_getElem h1, List.getElem?_eq_getElem h2, by rw [List.getElem?_eq_getElem hi, e], ?_⟩
  have e2 := mixR_at (p := p) (List.getElem?_eq_getElem h1) (List.getElem?_eq_getElem h2)
  rw [List.getElem?_eq_getElem hi, e] at e2
  exact Option.some.inj e2
theorem mix_good {p : Rat} {as bs : List (List Rat)} {m : Nat} (p0 : 0 ≤ p) (p1 : p ≤ 1) (ha : Good as m) (hb : Good bs m) (hl : as.length = bs.length) : Good (mixR p as bs) m := by
  refine ⟨by rw [mixR_len hl]; exact ha.w1, by rw [mixR_len hl]; exact ha.w5, ha.m1, ha.m30, fun r hr => ?_⟩
  obtain ⟨i, x, y, e1, e2, _, rfl⟩ := mix_mem hr
  exact mixRow_ok p0 p1 (ha.row _ (List.mem_of_getElem? e1)) (hb.row _ (List.mem_of_getElem? e2))
theorem mix_getD {p : Rat} {a b : List Rat} (h : a.length = b.length) (d : Nat) : (mixRow p a b).getD d 0 = (1 - p) * a.getD d 0 + p * b.getD d 0 := by
  by_cases hd : d < a.length
  · rw [List.getD_eq_getElem?_getD, mixRow_at (List.getElem?_eq_getElem hd) (List.getElem?_eq_getElem (show d < b.length by omega)), List.getD_eq_getElem?_getD, List.getElem?_eq_getElem hd, List.getD_eq_getElem?_getD, List.getElem?_eq_getElem (show d < b.length by omega)]
    rfl
  · rw [List.getD_eq_getElem?_getD, List.getElem?_eq_none (by rw [mixRow_len h]; omega), List.getD_eq_getElem?_getD, List.getElem?_eq_none (by omega), List.getD_eq_getElem?_getD, List.getElem?_eq_none (by omega)]
    show (0 : Rat) = (1 - p) * 0 + p * 0
    rw [Rat.mul_zero, Rat.mul_zero, Rat.add_zero]
/-! ### advice that goes where deeds are best -/
/-- advice given at all is best there -/
def Wise (hss rss : List (List Rat)) (dd : Nat) : Prop := ∀ (w : Nat) (r h : List Rat), rss[w]? = some r → hss[w]? = some h → ∀ d, r.getD d 0 ≠ 0 → ∀ e, e < dd → h.getD e 0 ≤ h.getD d 0
theorem sum_nonpos : ∀ {l : List Rat}, (∀ x ∈ l, x ≤ 0) → l.sum ≤ 0
  | [], _ => by rw [List.sum_nil]; exact Rat.le_refl
  | x :: l, h => by
    have h1 := h x (List.mem_cons_self ..)
    have h2 := sum_nonpos fun y hy => h y (List.mem_cons_of_mem _ hy)
    rw [List.sum_cons]
    grind
theorem wise_fol {qs : List Rat} {hss rss : List (List Rat)} {dd : Nat} (h1 : ∀ q ∈ qs, 0 ≤ q) (h2 : ∀ r ∈ rss, ∀ q ∈ r, 0 ≤ q) (hb : Wise hss rss dd) : faultsL qs hss rss dd dd = [] := by
  refine faultsL_nil fun d hd e he => Rat.not_lt.mpr ?_
  unfold leadQ
  refine sum_nonpos fun x hx => ?_
  obtain ⟨i, hi, ex⟩ := List.getElem_of_mem hx
  have hi' := hi
  unfold leadP prods at hi'
  rw [List.length_zipWith, List.length_zipWith] at hi'
  have a1 : i < qs.length := by omega
  have a2 : i < rss.length := by omega
  have a3 : i < hss.length := by omega
  have e1 := leadP_at (d := e) (e := d) (prods_at (d := d) (List.getElem?_eq_getElem a1) (List.getElem?_eq_getElem a2)) (List.getElem?_eq_getElem a3)
  have e2 : x = qs[i] * rss[i].getD d 0 * (hss[i].getD e 0 - hss[i].getD d 0) := by
    rw [← ex]
    exact (List.getElem?_eq_some_iff.mp e1).2
  rw [e2]
  have q0 := h1 _ (List.getElem_mem a1)
  by_cases z : rss[i].getD d 0 = 0
  · rw [z, Rat.mul_zero, Rat.zero_mul]
    exact Rat.le_refl
  · have r0 : 0 ≤ rss[i].getD d 0 := by
      by_cases hdl : d < rss[i].length
      · rw [List.getD_eq_getElem?_getD, List.getElem?_eq_getElem hdl]
        exact h2 _ (List.getElem_mem a2) _ (List.getElem_mem hdl)
      · rw [List.getD_eq_getElem?_getD, List.getElem?_eq_none (by omega)]
        exact Rat.le_refl
    have le := hb i _ _ (List.getElem?_eq_getElem a2) (List.getElem?_eq_getElem a3) d z e he
    have := Rat.mul_le_mul_of_nonneg_left (show hss[i].getD e 0 - hss[i].getD d 0 ≤ 0 by grind) (Rat.mul_nonneg q0 r0)
    rw [Rat.mul_zero] at this
    exact this
theorem wise_mix {p : Rat} {hss as bs : List (List Rat)} {dd : Nat} (ha : Wise hss as dd) (hb : Wise hss bs dd) (hl : ∀ (i : Nat) (x y : List Rat), as[i]? = some x → bs[i]? = some y → x.length = y.length) : Wise hss (mixR p as bs) dd := by
  intro w r h hr hh d hd
  obtain ⟨i, x, y, e1, e2, e3, e4⟩ : ∃ (i : Nat) (x y : List Rat), as[w]? = some x ∧ bs[w]? = some y ∧ i = w ∧ r = mixRow p x y := by
    have hw := (List.getElem?_eq_some_iff.mp hr).1
    unfold mixR at hw
    rw [List.length_zipWith] at hw
    have h1 : w < as.length := by omega
    have h2 : w < bs.length := by omega
    have e2 := mixR_at (p := p) (List.getElem?_eq_getElem h1) (List.getElem?_eq_getElem h2)
    rw [hr] at e2
    exact ⟨w, as[w], bs[w], List.getElem?_eq_getElem h1, List.getElem?_eq_getElem h2, rfl, Option.some.inj e2⟩
  rw [e4, mix_getD (hl w x y e1 e2)] at hd
  by_cases z : x.getD d 0 = 0
  · refine hb w y h e2 hh d fun z2 => hd ?_
    rw [z, z2, Rat.mul_zero, Rat.mul_zero, Rat.add_zero]
  · exact ha w x h e1 hh d z
theorem unit_getD {dd a d : Nat} : (unit dd a).getD d 0 = if d < dd ∧ d = a then 1 else 0 := by
  unfold unit
  by_cases h : d < dd
  · rw [List.getD_eq_getElem?_getD, List.getElem?_map, List.getElem?_range h]
    show (if d = a then (1 : Rat) else 0) = _
    by_cases e : d = a
    · rw [if_pos e, if_pos ⟨h, e⟩]
    · rw [if_neg e, if_neg (fun z => e z.2)]
  · rw [List.getD_eq_getElem?_getD, List.getElem?_eq_none (by rw [List.length_map, List.length_range]; omega), if_neg (fun z => h z.1)]
    rfl
theorem unit_len {dd a : Nat} : (unit dd a).length = dd := by
  unfold unit
  rw [List.length_map, List.length_range]
theorem unit_bd {dd a : Nat} : ∀ q ∈ unit dd a, Bd 1 q := fun q hq => by
  unfold unit at hq
  obtain ⟨j, _, rfl⟩ := List.mem_map.mp hq
  split
  · exact ⟨by decide, by decide⟩
  · exact ⟨by decide, by decide⟩
def bestR (as : List Nat) (dd : Nat) : List (List Rat) := as.map (unit dd)
theorem bestR_good {as : List Nat} {ww dd : Nat} (hl : as.length = ww) (w1 : 1 ≤ ww) (w5 : ww ≤ 5) (d1 : 1 ≤ dd) (d6 : dd ≤ 6) (ha : ∀ a ∈ as, a < dd) : Good (bestR as dd) dd := by
  refine ⟨by unfold bestR; rw [List.length_map]; omega, by unfold bestR; rw [List.length_map]; omega, d1, by omega, fun r hr => ?_⟩
  obtain ⟨a, h, rfl⟩ := List.mem_map.mp hr
  exact unit_ok (ha a h)
/-! ### all in one world -/
theorem getD_in {α : Type} {l : List α} {i : Nat} {z : α} (h : i < l.length) : l.getD i z = l[i] := by
  rw [List.getD_eq_getElem?_getD, List.getElem?_eq_getElem h]
  rfl
theorem wq_range {xss : List (List Rat)} {ws : List Rat} {d : Nat} (h : ws.length = xss.length) : wq xss ws d = ((List.range ws.length).map fun j => ws.getD j 0 * (xss.getD j []).getD d 0).sum := by
  unfold wq
  congr 1
  refine List.ext_getElem? fun i => ?_
  rw [List.getElem?_map]
  by_cases hi : i < ws.length
  · rw [prods_at (List.getElem?_eq_getElem hi) (List.getElem?_eq_getElem (show i < xss.length by omega)), List.getElem?_range hi]
    show some (ws[i] * (xss[i]'(by omega)).getD d 0) = some (ws.getD i 0 * (xss.getD i []).getD d 0)
    rw [getD_in hi, getD_in (show i < xss.length by omega)]
  · rw [List.getElem?_eq_none (by rw [prods_len h]; omega), List.getElem?_eq_none (by rw [List.length_range]; omega)]
    rfl
theorem wq_unit {xss : List (List Rat)} {ww w d : Nat} (h : xss.length = ww) (hw : w < ww) : wq xss (unit ww w) d = (xss.getD w []).getD d 0 := by
  rw [wq_range (by rw [unit_len, h]), unit_len]
  have e : ((List.range ww).map fun j => (unit ww w).getD j 0 * (xss.getD j []).getD d 0) = (List.range ww).map fun j => if w = j then (xss.getD j []).getD d 0 else 0 := by
    refine List.map_congr_left fun j hj => ?_
    rw [unit_getD]
    by_cases z : w = j
    · subst z
      rw [if_pos ⟨hw, rfl⟩, if_pos rfl, Rat.one_mul]
    · rw [if_neg (fun q => z q.2.symm), if_neg z, Rat.zero_mul]
  rw [e, sum_pick, if_pos hw]
theorem prods_getD {xss : List (List Rat)} {ws : List Rat} {d j : Nat} (h : ws.length = xss.length) : (prods xss ws d).getD j 0 = ws.getD j 0 * (xss.getD j []).getD d 0 := by
  by_cases hi : j < ws.length
  · rw [List.getD_eq_getElem?_getD (l := prods xss ws d), prods_at (List.getElem?_eq_getElem hi) (List.getElem?_eq_getElem (show j < xss.length by omega)), getD_in hi, getD_in (show j < xss.length by omega)]
    rfl
  · rw [List.getD_eq_getElem?_getD, List.getElem?_eq_none (by rw [prods_len h]; omega), List.getD_eq_getElem?_getD, List.getElem?_eq_none (by omega)]
    show (0 : Rat) = 0 * _
    rw [Rat.zero_mul]
theorem wq_unit2 {xss rss : List (List Rat)} {ww w d e : Nat} (h : xss.length = ww) (hr : rss.length = ww) (hw : w < ww) : wq xss (prods rss (unit ww w) d) e = (rss.getD w []).getD d 0 * (xss.getD w []).getD e 0 := by
  have hl : (prods rss (unit ww w) d).length = ww := by rw [prods_len (by rw [unit_len, hr]), unit_len]
  rw [wq_range (by rw [hl, h]), hl]
  have ee : ((List.range ww).map fun j => (prods rss (unit ww w) d).getD j 0 * (xss.getD j []).getD e 0) = (List.range ww).map fun j => if w = j then (rss.getD j []).getD d 0 * (xss.getD j []).getD e 0 else 0 := by
    refine List.map_congr_left fun j hj => ?_
    rw [prods_getD (by rw [unit_len, hr]), unit_getD]
    by_cases z : w = j
    · subst z
      rw [if_pos ⟨hw, rfl⟩, if_pos rfl, Rat.one_mul]
    · rw [if_neg (fun q => z q.2.symm), if_neg z, Rat.zero_mul, Rat.zero_mul]
  rw [ee, sum_pick (f := fun j => (rss.getD j []).getD d 0 * (xss.getD j []).getD e 0), if_pos hw]
theorem best_unit {hss : List (List Rat)} {ww w dd d : Nat} (h : hss.length = ww) (hw : w < ww) (hd : d < dd) : d ∈ bestL hss (unit ww w) dd ↔ ∀ e, e < dd → (hss.getD w []).getD e 0 ≤ (hss.getD w []).getD d 0 := by
  rw [mem_best]
  constructor
  · intro z e he
    have := z.2 e he
    rw [wq_unit h hw, wq_unit h hw] at this
    exact this
  · intro z
    refine ⟨hd, fun e he => ?_⟩
    rw [wq_unit h hw, wq_unit h hw]
    exact z e he
theorem one_world {hss rss : List (List Rat)} {ww w dd : Nat} (h : hss.length = ww) (hr : rss.length = ww) (hw : w < ww) (h2 : ∀ r ∈ rss, ∀ q ∈ r, 0 ≤ q) : faultsL (unit ww w) hss rss dd dd = [] ↔ ∀ d, d < dd → 0 < (rss.getD w []).getD d 0 → d ∈ bestL hss (unit ww w) dd := by
  constructor
  · intro f d hd hp
    rw [best_unit h hw hd]
    intro e he
    have := fol_best f hd he
    rw [wq_unit2 h hr hw, wq_unit2 h hr hw] at this
    refine Rat.not_lt.mp fun z => ?_
    exact absurd ((Rat.mul_lt_mul_left hp).mpr z) (Rat.not_lt.mpr this)
  · intro f
    refine faultsL_nil fun d hd e he => Rat.not_lt.mpr ?_
    rw [lead_wq, wq_unit2 h hr hw, wq_unit2 h hr hw]
    by_cases hp : 0 < (rss.getD w []).getD d 0
    · have le := (best_unit h hw hd).mp (f d hd hp) e he
      have := Rat.mul_le_mul_of_nonneg_left le (Rat.le_of_lt hp)
      grind
    · have r0 : 0 ≤ (rss.getD w []).getD d 0 := by
        have hwr : w < rss.length := by omega
        rw [List.getD_eq_getElem?_getD (l := rss), List.getElem?_eq_getElem hwr]
        show 0 ≤ rss[w].getD d 0
        by_cases hdl : d < rss[w].length
        · rw [List.getD_eq_getElem?_getD, List.getElem?_eq_getElem hdl]
          exact h2 _ (List.getElem_mem hwr) _ (List.getElem_mem hdl)
        · rw [List.getD_eq_getElem?_getD, List.getElem?_eq_none (by omega)]
          exact Rat.le_refl
      rw [Rat.le_antisymm (Rat.not_lt.mp hp) r0, Rat.zero_mul, Rat.zero_mul, Rat.sub_self]
      exact Rat.le_refl
theorem bestR_wise {hss : List (List Rat)} {as : List Nat} {ww dd : Nat} (h : hss.length = ww) (hl : as.length = ww) (ha : ∀ (w a : Nat), as[w]? = some a → a ∈ bestL hss (unit ww w) dd) : Wise hss (bestR as dd) dd := by
  intro w r x hr hx d hd e he
  unfold bestR at hr
  rw [List.getElem?_map] at hr
  obtain ⟨a, ea, rfl⟩ := Option.map_eq_some_iff.mp hr
  rw [unit_getD] at hd
  by_cases c : d < dd ∧ d = a
  · obtain ⟨c1, rfl⟩ := c
    have hw : w < ww := by rw [← hl]; exact (List.getElem?_eq_some_iff.mp ea).1
    have := (best_unit h hw c1).mp (ha w d ea) e he
    rw [List.getD_eq_getElem?_getD (l := hss), hx] at this
    exact this
  · rw [if_neg c] at hd
    exact absurd rfl hd
end Hr

set_option Elab.async false
set_option linter.all false
set_option maxRecDepth 100000
set_option maxHeartbeats 4000000
namespace Hr
open PySem PySem.Spec PyProof.Rows L2 BX EXB Co Ru
open Dz Cs
open Fr (Bd)
def spChanceP (K : PySem.W.Frag) (C CR : Addr) : Sp := fun vs H Q _ => ∃ (x y : Addr) (i : Nat) (qs : List Rat) (hss tss rss : List (List Rat)) (n m ww dd mm : Nat), vs = [.ref x, .ref y, .int (i : Int)] ∧ Ga K H C CR x y qs hss tss rss n m ww dd mm ∧ i < mm ∧
  ∀ p H', Same H H' → SqT K H' p (rp (wq rss qs i)) → Q (.ref p) H'
def spBeliefsP (K : PySem.W.Frag) (C CR : Addr) : Sp := fun vs H Q _ => ∃ (x y : Addr) (i : Nat) (qs : List Rat) (hss tss rss : List (List Rat)) (n m ww dd mm : Nat), vs = [.ref x, .ref y, .int (i : Int)] ∧ Ga K H C CR x y qs hss tss rss n m ww dd mm ∧ i < mm ∧ wq rss qs i ≠ 0 ∧
  ∀ p cs H', Same H H' → H p = none → H' p = some (.lst cs) → FrN K H' (n + m + ((n + m + 1) * 5 + 1)) cs (belq rss qs i) → Q (.ref p) H'
def spCWithG (K : PySem.W.Frag) (C : Addr) : Sp := fun vs H Q _ => ∃ (x S : Addr) (qs : List Rat) (hss tss : List (List Rat)) (ws : List Rat) (cs : List V) (n m ww dd : Nat), vs = [.ref x, .ref S] ∧ IsCase K H C x qs hss tss n ∧ GoodC qs hss tss ww dd ∧ H S = some (.lst cs) ∧ FrN K H m cs ws ∧ RowOk ww ws ∧ m ≤ n ∧ n ≤ 1000 ∧
  ∀ z H', Same H H' → H z = none → IsCase K H' C z ws hss tss n → Q (.ref z) H'
/-! ### k26 -/
def spWeighed (K : PySem.W.Frag) (C CR : Addr) : Sp := fun vs H Q _ => ∃ (x y : Addr) (qs : List Rat) (hss tss rss : List (List Rat)) (m ww dd : Nat), vs = [.ref x, .ref y] ∧ Ga K H C CR x y qs hss tss rss 43 m ww dd dd ∧ 1 ≤ m ∧ m ≤ 35 ∧ (∀ q ∈ qs, Bd 8 q) ∧
  ∀ p cs H', Same H H' → H p = none → H' p = some (.lst cs) → FauAt K H' cs (faultsL qs hss rss dd dd) → Q (.ref p) H'
def spMixed (K : PySem.W.Frag) (CR : Addr) : Sp := fun vs H Q _ => ∃ (y z pp : Addr) (as bs : List (List Rat)) (p : Rat) (n m k : Nat), vs = [.ref y, .ref z, .ref pp] ∧ IsRule K H CR y as n ∧ IsRule K H CR z bs m ∧ Good as k ∧ Good bs k ∧ as.length = bs.length ∧ SqT K H pp (rp p) ∧ Bd 8 p ∧ 0 ≤ p ∧ p ≤ 1 ∧ n ≤ 100 ∧ m ≤ 100 ∧
  ∀ x H', Same H H' → H x = none → IsRule K H' CR x (mixR p as bs) (n + m + 19) → Q (.ref x) H'
def spBestRule (K : PySem.W.Frag) (C CR : Addr) : Sp := fun vs H Q _ => ∃ (l x : Addr) (z : Int) (qs : List Rat) (hss tss : List (List Rat)) (ww dd : Nat), vs = [.ref l, .ref x] ∧ H l = some (.lst [.int z]) ∧ IsCase K H C x qs hss tss 43 ∧ GoodC qs hss tss ww dd ∧
  ∀ y as z' H', SameB l H H' → H' l = some (.lst [.int z']) → IsRule K H' CR y (bestR as dd) 1 → as.length = ww → (∀ (w a : Nat), as[w]? = some a → a ∈ bestL hss (unit ww w) dd) → Q (.ref y) H'
def spInOne (K : PySem.W.Frag) (C CR : Addr) : Sp := fun vs H Q _ => ∃ (x y : Addr) (qs : List Rat) (hss tss rss : List (List Rat)) (m ww dd : Nat), vs = [.ref x, .ref y] ∧ Ga K H C CR x y qs hss tss rss 43 m ww dd dd ∧ ∀ H', Same H H' → Q (.bl true) H'
theorem bel_ok {rss : List (List Rat)} {qs : List Rat} {i ww : Nat} (hl : qs.length = rss.length) (hw : qs.length = ww) (h1 : ∀ q ∈ qs, 0 ≤ q) (h2 : ∀ r ∈ rss, ∀ q ∈ r, 0 ≤ q) (h0 : wq rss qs i ≠ 0) : RowOk ww (belq rss qs i) := by
  have hp := wq_pos h1 h2 h0
  refine ⟨by unfold belq; rw [List.length_map, prods_len hl, hw], fun q hq => ?_, ?_⟩
  · unfold belq at hq
    obtain ⟨w, hw', rfl⟩ := List.mem_map.mp hq
    rw [Rat.div_def]
    exact Rat.mul_nonneg (prods_nn h1 h2 w hw') (Rat.le_of_lt (Rat.inv_pos.mpr hp))
  · have e : belq rss qs i = (prods rss qs i).map fun o => (wq rss qs i)⁻¹ * o := by
      unfold belq
      refine List.map_congr_left fun w _ => ?_
      rw [Rat.div_def, Rat.mul_comm]
    rw [e, sum_map_mul]
    exact (Rat.mul_comm _ _).trans (Rat.mul_inv_cancel _ h0)
/-- data of what falls short -/
def dF1 (z : Nat × Nat × Rat) : PyData := .tuple [.int (z.1 : Int), .int (z.2.1 : Int), dR z.2.2]
def dF (l : List (Nat × Nat × Rat)) : PyData := .list (l.map dF1)
theorem FauAt.dps {K : PySem.W.Frag} {H : Hp} : ∀ {cs : List V} {l : List (Nat × Nat × Rat)}, FauAt K H cs l → DpAll K H cs (l.map dF1)
  | [], [], _ => .nil
  | [], _ :: _, h => by have := h.1; simp at this
  | _ :: _, [], h => by have := h.1; simp at this
  | v :: cs, z :: l, h => by
    obtain ⟨d, e, m, t, p, e1, rfl, e3, e4⟩ := h.2 0 v rfl
    have ez : z = (d, e, m) := Option.some.inj e1
    subst ez
    exact .cons (.tup e3 (.cons (.int _) (.cons (.int _) (.cons (dp_r e4) .nil)))) (FauAt.dps ⟨by have := h.1; simpa using this, fun j x ej => h.2 (j + 1) x ej⟩)
theorem dF_lays : ∀ l : List (Nat × Nat × Rat), PyData.canLayAll0 (l.map dF1) = true
  | [] => rfl
  | z :: l => by
    show ((dF1 z).canLay0 && PyData.canLayAll0 (l.map dF1)) = true
    rw [dF_lays l]
    rfl
theorem dF_deps : ∀ l : List (Nat × Nat × Rat), PyData.depthAll (l.map dF1) ≤ 2
  | [] => by decide
  | z :: l => by
    have := dF_deps l
    have h : PyData.depth (dF1 z) = 2 := rfl
    show max (PyData.depth (dF1 z)) (PyData.depthAll (l.map dF1)) ≤ 2
    omega
theorem dF_lay (l : List (Nat × Nat × Rat)) : (dF l).canLay0 = true := dF_lays l
theorem dF_shaped (l : List (Nat × Nat × Rat)) : SeqAt.shaped (dF l) = true := by
  unfold SeqAt.shaped
  rw [dF_lay, Bool.true_and]
  refine decide_eq_true ?_
  have := dF_deps l
  show PyData.depthAll (l.map dF1) + 1 ≤ 64
  omega
theorem in_ds (d : Nat) : ∀ l : List Nat, inV (.int (d : Int)) (dsV l) = decide (d ∈ l)
  | [] => rfl
  | x :: l => by
    have e : inV (.int (d : Int)) (dsV (x :: l)) = (eqV (.int (x : Int)) (.int (d : Int)) || inV (.int (d : Int)) (dsV l)) := rfl
    rw [e, in_ds d l, Bool.eq_iff_iff, Bool.or_eq_true, decide_eq_true_eq, decide_eq_true_eq, List.mem_cons]
    have h : eqV (.int (x : Int)) (.int (d : Int)) = true ↔ d = x := by
      show ((x : Int) == (d : Int)) = true ↔ _
      rw [beq_iff_eq]
      constructor
      · intro z; omega
      · intro z; omega
    rw [h]
theorem ds_flat' (l : List Nat) : (dsV l).all flatV = true := List.all_eq_true.mpr fun v hv => by
  obtain ⟨p, _, rfl⟩ := List.mem_map.mp hv
  rfl
/-- data of numbers -/
def dNs (ps : List Nat) : PyData := .list (ps.map fun (d : Nat) => PyData.int (d : Int))
theorem dNs_lays : ∀ ps : List Nat, PyData.canLayAll0 (ps.map fun (d : Nat) => PyData.int (d : Int)) = true
  | [] => rfl
  | p :: ps => by
    show (true && PyData.canLayAll0 (ps.map fun (d : Nat) => PyData.int (d : Int))) = true
    rw [dNs_lays ps]
    rfl
theorem dNs_deps : ∀ ps : List Nat, PyData.depthAll (ps.map fun (d : Nat) => PyData.int (d : Int)) ≤ 0
  | [] => by decide
  | p :: ps => by
    have := dNs_deps ps
    show max 0 (PyData.depthAll (ps.map fun (d : Nat) => PyData.int (d : Int))) ≤ 0
    omega
theorem dNs_shaped (ps : List Nat) : SeqAt.shaped (dNs ps) = true := by
  unfold SeqAt.shaped
  have h : (dNs ps).canLay0 = true := dNs_lays ps
  rw [h, Bool.true_and]
  refine decide_eq_true ?_
  have := dNs_deps ps
  show PyData.depthAll (ps.map fun (d : Nat) => PyData.int (d : Int)) + 1 ≤ 64
  omega
theorem dNs_nil (ps : List Nat) : PyData.eqv (dNs ps) (.list []) = decide (ps = []) := by
  cases ps with
  | nil => rfl
  | cons p ps => rfl
theorem part7 {d : Int} (h0 : 0 ≤ d) (h8 : d < 8) : 0 ≤ Rat.divInt d 7 ∧ Rat.divInt d 7 ≤ 1 ∧ Bd 8 (Rat.divInt d 7) := by
  have : d = 0 ∨ d = 1 ∨ d = 2 ∨ d = 3 ∨ d = 4 ∨ d = 5 ∨ d = 6 ∨ d = 7 := by omega
  have b : Bd 8 (Rat.divInt d 7) := Fr.bd_low (Nat.lt_of_le_of_lt (show d.natAbs ≤ 7 by omega) (by decide)) (by decide) (by decide)
  refine ⟨?_, ?_, b⟩
  · exact Rs.divInt_nn h0 (by decide)
  · clear b
    rcases this with rfl | rfl | rfl | rfl | rfl | rfl | rfl | rfl <;> decide +kernel
/-- a rule with some bound -/
def RuX (K : PySem.W.Frag) (H : Hp) (CR : Addr) (v : V) (ww dd : Nat) : Prop := ∃ (y : Addr) (rss : List (List Rat)) (m : Nat), v = .ref y ∧ IsRule K H CR y rss m ∧ 1 ≤ m ∧ m ≤ 35 ∧ Good rss dd ∧ rss.length = ww
theorem RuX.same {K : PySem.W.Frag} {H H' : Hp} {CR : Addr} {v : V} {ww dd : Nat} (h : RuX K H CR v ww dd) (s : Same H H') : RuX K H' CR v ww dd :=
  let ⟨y, rss, m, a, b, c⟩ := h; ⟨y, rss, m, a, b.same s, c⟩
end Hr

set_option Elab.async false
set_option linter.all false
set_option maxRecDepth 100000
set_option maxHeartbeats 4000000
namespace BX
open PySem PySem.Spec PyProof.Rows L2
def tMethD (C : Addr) (m : Str) (sp : Sp) (dvs : List V) (E : L2.St → XK) (ta : TE) (t : TA) : TE := fun σ H Q => ta σ H fun x H1 => ∃ a dx fs, x = .ref a ∧ H1 a = some (.ins C dx fs) ∧ fs.lookup m = none ∧ t σ H1 fun vs H2 => sp (x :: (vs ++ dvs)) H2 Q (E σ)
section
variable {X : Cx} {CX : CXT} {k : Nat} {f C : Addr} {fd : FuncData} {ps : List Str} {sp : Sp} {E : L2.St → XK} {m : Str} {apos pos : Pos} {o e : Expr} {es : List Expr} {ta : TE} {t : TA} {ds : List Value} {dvs : List V}
/-- o.m(e, ..), what it raises being wished for at the caller's slots -/
theorem pe_methD {pl : Sem Bool} (c : Cls X.K C) (hm : Meth X.K C m f) (F : FnOk X.prog X.w X.K X.mg X.base CX k f fd ps sp) (hr : Room k X.A) (hb : Binds X.K fd ps ds) (hd : Vals dvs ds) (hx : ∀ σ, PassesAt CX X σ (E σ)) (he : PE X o ta) (ha : PA X (e :: es) t) (hst : starEach (e :: es) X.env = (false, eval e X.env) :: starEach es X.env := by rfl) (hpl : (backTo pos (starEach es X.env)).any (·.1) = false := by rfl)
    (ht : eval (.Call (.Attribute o m apos) (e :: es) [] pos) X.env = (do let ov ← eval o X.env; standAt apos.atName; let (f, first) ← holding [ov] (getMethod ov m pl); callWith pos f first (backTo pos (starEach (e :: es) X.env)) (backToKw pos (keywordEach [] X.env))) := by rfl) :
    PE X (.Call (.Attribute o m apos) (e :: es) [] pos) (tMethD C m sp dvs E ta t) := by
  refine ⟨fun pins s σ H Q I h => ?_⟩
  refine PySem.W.methodCall_KW (pl := pl) (thn (he.run pins s σ H _ I h) fun u s1 ⟨x, H1, I1, rx, a, dx, fs, ex, ea, l, q⟩ => ?_) ht
  subst ex
  obtain rfl : u = Value.ref a := rx
  refine getmeth_ok I1 ea c hm l ?_
  refine PySem.W.callWith_K (first := [.ref a]) (h₀ := X.base) I.ok.mod.kin hm.kp (thn (ha.run pos pins s1 σ H1 _ I1 q) fun us s2 ⟨vs, H2, I2, r, q2⟩ => ⟨I2.kIn, ?_⟩) hst hpl
  have r2 : Vals (V.ref a :: (vs ++ dvs)) (Value.ref a :: (us ++ ds)) := .cons rfl (r.append hd)
  have hl : (Value.ref a :: us ++ ds).length = ps.length := by
    have z := r2.length
    rw [F.len _ _ _ _ q2] at z
    exact z.symm
  refine wpAny_call (codeAny_mono (F.run X.A X.stack s2 H2 ⟨Value.ref a :: us, []⟩ (Value.ref a :: (us ++ ds)) _ Q (E σ) hr I2.env0 (hb s2 (Value.ref a :: us) I2.kIn hl) r2 q2) fun r s' hq => ?_)
  cases r with
  | error er => exact hx σ pins _ _ er s' I2 hq
  | ok fl =>
    cases fl with
    | ret u => exact I2.after hq
    | next => exact False.elim hq
    | brk => exact False.elim hq
    | cont => exact False.elim hq
end
end BX

set_option Elab.async false
set_option linter.all false
set_option maxRecDepth 100000
set_option maxHeartbeats 4000000
namespace BX
open PySem PySem.Spec PyProof.Rows L2
/-- o.m(.., k = v, ..) -/
def tMethN (C : Addr) (m : Str) (n j : Nat) (sp : Sp) (gV : List V → List V → List V) (E : L2.St → XK) (ta : TE) (t tk : TA) : TE := fun σ H Q => ta σ H fun x H1 => ∃ a dx fs, x = .ref a ∧ H1 a = some (.ins C dx fs) ∧ fs.lookup m = none ∧ t σ H1 fun vs H2 => tk σ H2 fun zs H3 => vs.length = n ∧ zs.length = j ∧ sp (gV (x :: vs) zs) H3 Q (E σ)
section
variable {X : Cx} {CX : CXT} {k n : Nat} {f C : Addr} {fd : FuncData} {ps ks : List Str} {sp : Sp} {m : Str} {apos pos : Pos} {o e : Expr} {es : List Expr} {ta : TE} {t tk : TA} {kws : List Keyword} {g : List Value → List Value → List Value} {gV : List V → List V → List V}
theorem run_fnX {E : XK} {pins : List (Addr × Obj)} {σ : L2.St} {H : Hp} {s : Shared} {Q : VK} {us ws : List Value} {vs zs : List V} (F : FnOk X.prog X.w X.K X.mg X.base CX k f fd ps sp) (hr : Room k X.A) (hb : KBn X.K fd ps n ks g gV) (hx : PassesAt CX X σ E)
    (I : Inv X pins σ H s) (r : Vals vs us) (rz : Vals zs ws) (l1 : vs.length = n) (l2 : zs.length = ks.length) (h : sp (gV vs zs) H Q E) : wpAny (model X.prog X.w) X.A (call (.ref f) us (ks.zip ws)) (EP X pins σ Q) X.xe s := by
  have r2 := hb.rel r rz
  refine wpAny_call (codeAny_mono (F.run X.A X.stack s H ⟨us, ks.zip ws⟩ (g us ws) (gV vs zs) Q E hr I.env0 (hb.to s us ws I.kIn (r.length.symm.trans l1) (rz.length.symm.trans l2)) r2 h) fun r s' hq => ?_)
  cases r with
  | error er => exact hx pins _ _ er s' I hq
  | ok fl =>
    cases fl with
    | ret u => exact I.after hq
    | next => exact False.elim hq
    | brk => exact False.elim hq
    | cont => exact False.elim hq
theorem pe_methN {E : L2.St → XK} {pl : Sem Bool} (c : Cls X.K C) (hm : Meth X.K C m f) (F : FnOk X.prog X.w X.K X.mg X.base CX k f fd ps sp) (hr : Room k X.A) (hb : KBn X.K fd ps (n + 1) ks g gV) (hx : ∀ σ, PassesAt CX X σ (E σ)) (he : PE X o ta) (ha : PA X (e :: es) t) (hkw : PK X kws tk)
    (hall : (backToKw pos (keywordEach kws X.env)).all (·.1.isSome) = true := by rfl) (hks : (backToKw pos (keywordEach kws X.env)).filterMap (·.1) = ks := by rfl) (hst : starEach (e :: es) X.env = (false, eval e X.env) :: starEach es X.env := by rfl)
    (hpl : ((backTo pos (starEach (e :: es) X.env)).any (·.1) || (backToKw pos (keywordEach kws X.env)).any (·.1.isNone)) = false := by rfl)
    (ht : eval (.Call (.Attribute o m apos) (e :: es) kws pos) X.env = (do let ov ← eval o X.env; standAt apos.atName; let (f, first) ← holding [ov] (getMethod ov m pl); callWith pos f first (backTo pos (starEach (e :: es) X.env)) (backToKw pos (keywordEach kws X.env))) := by rfl) :
    PE X (.Call (.Attribute o m apos) (e :: es) kws pos) (tMethN C m n ks.length sp gV E ta t tk) := by
  refine ⟨fun pins s σ H Q I h => ?_⟩
  refine PySem.W.methodCall_KW (pl := pl) (thn (he.run pins s σ H _ I h) fun u s1 ⟨x, H1, I1, rx, a, dx, fs, ex, ea, l, q⟩ => ?_) ht
  subst ex
  obtain rfl : u = Value.ref a := rx
  refine getmeth_ok I1 ea c hm l ?_
  refine PySem.W.callWith_KW (first := [.ref a]) (h₀ := X.base) I.ok.mod.kin hm.kp hall (thn (ha.run pos pins s1 σ H1 _ I1 q) fun us s2 ⟨vs, H2, I2, r, q2⟩ => ?_) hpl hst
  refine thn (hkw.run pos pins s2 σ H2 _ I2 q2) fun ws s3 ⟨zs, H3, I3, rz, l1, l2, q3⟩ => ⟨I3.kIn, ?_⟩
  rw [hks]
  exact run_fnX (us := .ref a :: us) (vs := .ref a :: vs) F hr hb (hx σ) I3 (.cons rfl r) rz (by rw [List.length_cons, l1]) l2 q3
/-- o.m(k = v, ..), by names alone -/
theorem pe_methN0 {E : L2.St → XK} {pl : Sem Bool} (c : Cls X.K C) (hm : Meth X.K C m f) (F : FnOk X.prog X.w X.K X.mg X.base CX k f fd ps sp) (hr : Room k X.A) (hb : KBn X.K fd ps 1 ks g gV) (hx : ∀ σ, PassesAt CX X σ (E σ)) (he : PE X o ta) (hkw : PK X kws tk)
    (hall : (backToKw pos (keywordEach kws X.env)).all (·.1.isSome) = true := by rfl) (hks : (backToKw pos (keywordEach kws X.env)).filterMap (·.1) = ks := by rfl)
    (hpl : ((backTo pos (starEach [] X.env)).any (·.1) || (backToKw pos (keywordEach kws X.env)).any (·.1.isNone)) = false := by rfl)
    (ht : eval (.Call (.Attribute o m apos) [] kws pos) X.env = (do let ov ← eval o X.env; standAt apos.atName; let (f, first) ← holding [ov] (getMethod ov m pl); callWith pos f first (backTo pos (starEach [] X.env)) (backToKw pos (keywordEach kws X.env))) := by rfl) :
    PE X (.Call (.Attribute o m apos) [] kws pos) (tMethN C m 0 ks.length sp gV E ta tNil tk) := by
  refine ⟨fun pins s σ H Q I h => ?_⟩
  refine PySem.W.methodCall_KW (pl := pl) (thn (he.run pins s σ H _ I h) fun u s1 ⟨x, H1, I1, rx, a, dx, fs, ex, ea, l, q⟩ => ?_) ht
  subst ex
  obtain rfl : u = Value.ref a := rx
  refine getmeth_ok I1 ea c hm l ?_
  refine PySem.W.callWith_KW0 (first := [.ref a]) (h₀ := X.base) I.ok.mod.kin hm.kp hall (thn (hkw.run pos pins s1 σ H1 _ I1 q) fun ws s3 ⟨zs, H3, I3, rz, l1, l2, q3⟩ => ⟨I3.kIn, ?_⟩) hpl
  rw [hks]
  exact run_fnX (us := [.ref a]) (vs := [.ref a]) F hr hb (hx σ) I3 (.cons rfl .nil) rz rfl l2 q3
end
end BX

set_option Elab.async false
set_option linter.all false
set_option maxRecDepth 100000
set_option maxHeartbeats 4000000
namespace Ru
open PySem PySem.Spec PyProof.Rows L2 BX EXB Co
section
variable {prog : Program} {w : World} {A : Around} {E : Value → Shared → Prop} {h : Heap} {g : Array GenState} {d : Drawn} {t : Nat} {os : OsState}
/-- a comparison by an own special def of the left thing, whatever stands on the right, so long as its type is none of the left one's heirs -/
theorem rich_ask {op : CmpOp} {sym : String} {f r : Str} {x C : Addr} {v tv : Value} {Q : Value → Shared → Prop} (hop : cmpInfo op = (sym, f, r)) {o : Obj} (px : h.get? x = some o) (pc : o.cls = .ref C)
    (ty : ∀ P : Value → Shared → Prop, P tv ⟨h, g, d, t, os⟩ → wpAny (model prog w) A (typeOf v) P E ⟨h, g, d, t, os⟩)
    (sb : ∀ (k : Bool → Sem Value) (P : Value → Shared → Prop), wpAny (model prog w) A (k false) P E ⟨h, g, d, t, os⟩ → wpAny (model prog w) A (if Value.ref C != tv then isSubtype tv (.ref C) >>= k else pure false >>= k) P E ⟨h, g, d, t, os⟩) (room : A.units < cLine)
    (ask : wpAny (model prog w) A (tryCompare (.ref x) f v) (fun a s' => ∃ u, a = some u ∧ Q u s') E ⟨h, g, d, t, os⟩) : wpAny (model prog w) A (richCompare op (.ref x) v) Q E ⟨h, g, d, t, os⟩ := by
  unfold richCompare
  simp only [oneThing_ref]
  refine wpAny_holding (wpAny_bind (wpAny_cRoomFor room ?_))
  rw [hop]
  dsimp only
  refine wpAny_bind (wpAny_typeOf_ref px ?_)
  rw [pc]
  refine wpAny_bind (ty _ (sb _ _ ?_))
  simp only [Bool.false_eq_true, if_false]
  refine wpAny_bind (wpAny_mono ask (fun a s' ha => ?_) fun _ _ e => e)
  obtain ⟨u, rfl, q⟩ := ha
  exact wpAny_pure q
/-- the right one is of a type of the language -/
theorem sb_type {C : Addr} {T : String} {m : List Value} (e : fastBuiltinMro T = some m) (n : m.contains (.ref C) = false) (k : Bool → Sem Value) (P : Value → Shared → Prop) (q : wpAny (model prog w) A (k false) P E ⟨h, g, d, t, os⟩) :
    wpAny (model prog w) A (if Value.ref C != Value.type T then isSubtype (.type T) (.ref C) >>= k else pure false >>= k) P E ⟨h, g, d, t, os⟩ := by
  rw [if_pos (by rfl), isSubtype_type, e]
  dsimp only
  rw [n]
  exact wpAny_bind (wpAny_pure q)
theorem mro_noref {C : Addr} {T : String} {m : List Value} (e : fastBuiltinMro T = some m) : m.contains (.ref C) = false := by
  unfold fastBuiltinMro at e
  obtain ⟨r, _, rfl⟩ := Option.map_eq_some_iff.mp e
  have : ∀ l : List String, (l.map Value.type).contains (.ref C) = false := fun l => by
    induction l with
    | nil => rfl
    | cons a l ih => rw [List.map_cons, List.contains_cons, ih]; rfl
  exact this _
/-- == asks the own __eq__ -/
theorem eq_ask {x C fA : Addr} {B : String} {v : Value} {Q : Value → Shared → Prop} (X : h.OwnSpecial x C fA B "__eq__") (c : wpAny (model prog w) A (call (.ref fA) [.ref x, v]) (fun u s' => ∃ b, u = .bool b ∧ Q u s') E ⟨h, g, d, t, os⟩) :
    wpAny (model prog w) A (tryCompare (.ref x) "__eq__" v) (fun a s' => ∃ u, a = some u ∧ Q u s') E ⟨h, g, d, t, os⟩ := by
  unfold tryCompare
  refine wpAny_bind (wpAny_callSpecialIfBound?_own X (wpAny_mono c (fun u s' hu => ?_) fun _ _ z => z))
  obtain ⟨b, rfl, q⟩ := hu
  exact wpAny_pure ⟨_, rfl, q⟩
/-- the other's != for a class with an own __eq__ alone -/
theorem ne_body {x C f : Addr} {B : String} {bm : List Value} {v : Value} (X : h.OwnEqNoNe x C f B bm) (room : A.units < cLine) {Q : Fin → Shared → Prop} (c : wpAny (model prog w) A (call (.ref f) [.ref x, v]) (fun u s' => ∃ b, u = .bool b ∧ Q (.done (.ret (.bool (!b)))) s') E ⟨h, g, d, t, os⟩) :
    wpAny (model prog w) A (Builtin.«object.__ne__» ⟨[.ref x, v], []⟩) Q E ⟨h, g, d, t, os⟩ := by
  unfold Builtin.«object.__ne__»
  repeat (first
    | with_reducible refine wpAny_cRoomFor room ?_
    | (refine wpAny_bind (m := callSpecialIfBound? (.ref x) (Str.ofString "__eq__") [v]) (wpAny_callSpecialIfBound?_own X.ownEq (wpAny_mono c (fun u s' hu => by
          obtain ⟨b, rfl, q⟩ := hu
          repeat (first | exact q | exact wpAny_pure q | exact wpAny_truthy_bool q | (refine wpAny_bind (m := truthy (.bool _)) (wpAny_truthy_bool ?_)) | wp_step)) fun _ _ z => z)))
    | wp_step)
theorem ne_ask {x C f : Addr} {B : String} {bm : List Value} {v : Value} {Q : Value → Shared → Prop} (FB : CmpFacts B bm) (X : h.OwnEqNoNe x C f B bm) (room : A.units + 1 < cLine) (c : wpAny (model prog w) A.in1 (call (.ref f) [.ref x, v]) (fun u s' => ∃ b, u = .bool b ∧ Q (.bool (!b)) s') E ⟨h, g, d, t, os⟩) :
    wpAny (model prog w) A (tryCompare (.ref x) "__ne__" v) (fun a s' => ∃ u, a = some u ∧ Q u s') E ⟨h, g, d, t, os⟩ := by
  obtain ⟨o, _, nm, q, N, bs, hdct, sn, sub, ab, col, dd, k0, k1, k2, k3, k5, newId, mN, _, px, pc, pC, pn, _, _, _, _, _, pe⟩ := id X
  simp only [tryCompare]
  refine wpAny_bind (wpAny_callSpecialIfBound?_inst px pc pC pn pe FB.mro FB.ne (wpAny_call (codeAny_call_builtin FB.ne.plain F.cmpEntry_ne (wpAny_check_slot_inst F.cmpKind_ne F.cmpSplit_ne (F.cmpArgs_ne _ _) FB.hasObject px pc pC (ne_body (A := A.in1) X room (wpAny_mono c (fun u s' hu => ?_) fun _ _ z => z))))))
  obtain ⟨b, rfl, q⟩ := hu
  first | exact ⟨b, rfl, wpAny_pure ⟨_, rfl, q⟩⟩ | exact ⟨b, rfl, wpAny_pure (wpAny_pure ⟨_, rfl, q⟩)⟩
end
/-- what may stand on the right: nothing, a truth, a whole number, a text, a list, a tuple, or an instance of a plain own class -/
def Rt (K : PySem.W.Frag) (H : Hp) (y : V) : Prop := y = .non ∨ (∃ b, y = .bl b) ∨ (∃ i, y = .int i) ∨ (∃ z, y = .str z) ∨ (∃ a xs, y = .ref a ∧ H a = some (.lst xs)) ∨ (∃ a xs, y = .ref a ∧ SqT K H a xs) ∨ ∃ a D dx fs f, y = .ref a ∧ H a = some (.ins D dx fs) ∧ NeC K D f
section
variable {X : Cx} {pins : List (Addr × Obj)} {σ : L2.St} {H : Hp} {s : Shared} {A : Around} {E : Value → Shared → Prop}
def Tyd (X : Cx) (A : Around) (E : Value → Shared → Prop) (s : Shared) (u : Value) : Prop := ∃ tv : Value, (∀ P : Value → Shared → Prop, P tv s → wpAny (model X.prog X.w) A (typeOf u) P E s) ∧
  ∀ (C : Addr) (k : Bool → Sem Value) (P : Value → Shared → Prop), wpAny (model X.prog X.w) A (k false) P E s → wpAny (model X.prog X.w) A (if Value.ref C != tv then isSubtype tv (.ref C) >>= k else pure false >>= k) P E s
theorem tyd_b {u : Value} {T : String} (e0 : (fastBuiltinMro T).isSome = true) (h : ∀ P : Value → Shared → Prop, P (.type T) s → wpAny (model X.prog X.w) A (typeOf u) P E s) : Tyd X A E s u := by
  obtain ⟨m, e⟩ := Option.isSome_iff_exists.mp e0
  obtain ⟨hp, g, d, t, os⟩ := s
  exact ⟨.type T, h, fun C k P q => sb_type e (mro_noref e) k P q⟩
theorem rt_ty (I : Inv X pins σ H s) {y : V} {u : Value} (h : Rt X.K H y) (r : RelV y u) : Tyd X A E s u := by
  rcases h with rfl | ⟨b, rfl⟩ | ⟨i, rfl⟩ | ⟨z, rfl⟩ | ⟨a, xs, rfl, e⟩ | ⟨a, xs, rfl, e⟩ | ⟨a, D, dx, fs, f, rfl, e, N⟩
  · cases (show u = Value.none from r)
    exact tyd_b (T := "NoneType") (by decide +kernel) fun P q => by simp only [typeOf]; exact wpAny_pure q
  · cases (show u = Value.bool b from r)
    exact tyd_b (T := "bool") (by decide +kernel) fun P q => by simp only [typeOf]; exact wpAny_pure q
  · obtain ⟨t, rfl⟩ := r
    exact tyd_b (T := "int") (by decide +kernel) fun P q => by simp only [typeOf]; exact wpAny_pure q
  · obtain ⟨t, rfl⟩ := r
    exact tyd_b (T := "str") (by decide +kernel) fun P q => by simp only [typeOf]; exact wpAny_pure q
  · cases (show u = Value.ref a from r)
    obtain ⟨_, its, n, _, _, ea⟩ := I.lstM e
    exact tyd_b (T := "list") (by decide +kernel) fun P q => wpAny_typeOf_ref ea q
  · cases (show u = Value.ref a from r)
    obtain ⟨its, _, ⟨o, ea, ec, _⟩, _⟩ := I.tuple e
    exact tyd_b (T := "tuple") (by decide +kernel) fun P q => wpAny_typeOf_ref ea (by rw [ec]; exact q)
  · cases (show u = Value.ref a from r)
    obtain ⟨nm, q, N', bs, hdct, sn, sub, ab, col, dd, k0, k1, k2, k3, k5, newId, hC, _⟩ := N.cls
    obtain ⟨mA, J, _⟩ := ins_get I.hok e
    obtain ⟨od, J, _⟩ := J.look
    have gD := I.kIn _ _ hC
    have ja := J.at_
    have jc := J.cls
    obtain ⟨hp, g, d, t, os⟩ := s
    refine ⟨.ref D, fun P p => wpAny_typeOf_ref ja (by rw [jc]; exact p), fun C k P p => wpAny_rightFirst_false (fun a => by first | rfl | simp) gD p⟩
/-- x == y (x != y), x an instance of the class at C with its own __eq__ alone, y of another kind or of its own -/
def rAsk (K : PySem.W.Frag) (C : Addr) (sp : Sp) (g : Bool → Bool) : R2 := fun x y H Q => ∃ (a dx : Addr) (fs : List (Str × V)), x = .ref a ∧ H a = some (.ins C dx fs) ∧ Rt K H y ∧ sp [.ref a, y] H (fun v H' => ∃ c : Bool, v = .bl c ∧ Q (.bl (g c)) H') E0
theorem own_ne {C f : Addr} {a dx : Addr} {fs : List (Str × V)} (T : NeC X.K C f) (I : Inv X pins σ H s) (ha : H a = some (.ins C dx fs)) : s.heap.OwnEqNoNe a C f "object" [.type "object"] ∧ ∃ o : Obj, s.heap.get? a = some o ∧ o.cls = .ref C := by
  obtain ⟨nm, q, N, bs, hdct, sn, sub, ab, col, dd, k0, k1, k2, k3, k5, newId, hC, ok, heq, hne⟩ := T.cls
  obtain ⟨oF, hF, hFc⟩ := T.fn
  obtain ⟨mA, J, _⟩ := ins_get I.hok ha
  obtain ⟨od, J, _⟩ := J.look
  have hns : s.heap.Ns N (s.heap.nsMap N) := .of_isNs (PySem.W.isNs_of_in I.kIn ok)
  exact ⟨⟨_, _, nm, q, N, bs, hdct, sn, sub, ab, col, dd, k0, k1, k2, k3, k5, newId, _, _, J.at_, J.cls, I.kIn _ _ hC, hns, ns_some I.kIn hns heq, I.kIn _ _ hF, hFc, PySem.F.cmp_object.mro, PySem.F.cmp_object.eq.lookup, PySem.W.ns_none_of I.kIn hns hne⟩, _, J.at_, J.cls⟩
/-- the own __eq__, asked -/
theorem ask_run {f : Addr} {fd : FuncData} {k : Nat} {sp : Sp} {ps : List Str} {B : Around} (F : FnOk X.prog X.w X.K X.mg X.base CX0 k f fd ps sp) (hr : Room k B) (fr : B = X.A ∨ B = X.A.in1) (hb : Binds X.K fd ps []) (I : Inv X pins σ H s) {a : Addr} {y : V} {u : Value} (ry : RelV y u) {Q : Bool → VK} (hq : sp [.ref a, y] H (fun v H' => ∃ c : Bool, v = .bl c ∧ Q c (.bl c) H') E0) {E2 : Value → Shared → Prop} :
    wpAny (model X.prog X.w) B (call (.ref f) [.ref a, u]) (fun z s' => ∃ b, z = .bool b ∧ ∃ H', Inv X pins σ H' s' ∧ Q b (.bl b) H') E2 s := by
  have e0 : Env0 X.prog X.w X.K X.mg X.base B X.stack s H := by
    rcases fr with e | e
    · rw [e]; exact I.env0
    · rw [e]
      have z := I.env0
      exact ⟨z.frames, z.mod, z.bs, z.bsz, z.funs, z.frf, z.hok, z.bare⟩
  have hl := F.len _ _ _ _ hq
  have r2 : Vals [V.ref a, y] [Value.ref a, u] := .cons rfl (.cons ry .nil)
  refine wpAny_call (codeAny_mono (F.run B X.stack _ H ⟨[.ref a, u], []⟩ [.ref a, u] [.ref a, y] _ (fun _ _ _ => False) hr e0 (by
    have := hb s [.ref a, u] I.kIn (by simpa using hl)
    simpa using this) r2 hq) fun r s' hq' => ?_)
  cases r with
  | error e => exact False.elim hq'
  | ok fl =>
    cases fl with
    | ret z =>
      obtain ⟨v, H', I', rz, c, ez, q'⟩ := I.after hq'
      subst ez
      cases (show z = Value.bool c from rz)
      exact ⟨c, rfl, H', I', q'⟩
    | next => exact False.elim hq'
    | brk => exact False.elim hq'
    | cont => exact False.elim hq'
theorem op_eqA {C f : Addr} {fd : FuncData} {k : Nat} {sp : Sp} {ps : List Str} (T : NeC X.K C f) (F : FnOk X.prog X.w X.K X.mg X.base CX0 k f fd ps sp) (hr : Room (k + 1) X.A) (hb : Binds X.K fd ps []) : OpR X (compareOp .Eq) (rAsk X.K C sp id) := by
  intro pins s σ H x y v u Q I rx ry h
  obtain ⟨a, dx, fs, rfl, ha, hy, hq⟩ := h
  cases (show v = Value.ref a from rx)
  obtain ⟨Y, o, px, pc⟩ := own_ne T I ha
  obtain ⟨tv, ty, sb⟩ := rt_ty (A := X.A) (E := X.xe) I hy ry
  have c := ask_run (E2 := X.xe) F (hr.mono (by omega)) (.inl rfl) hb I ry (Q := fun b _ H' => Q (.bl b) H') hq
  obtain ⟨hp, g, d, t, os⟩ := s
  unfold compareOp
  refine rich_ask cmpInfo_Eq px pc ty (sb C) (by have := hr.un; omega) (eq_ask Y.ownEq (wpAny_mono c (fun z s' hz => ?_) fun _ _ e => e))
  obtain ⟨b, rfl, H', I', q⟩ := hz
  exact ⟨b, rfl, .bl b, H', I', rfl, q⟩
theorem op_neA {C f : Addr} {fd : FuncData} {k : Nat} {sp : Sp} {ps : List Str} (T : NeC X.K C f) (F : FnOk X.prog X.w X.K X.mg X.base CX0 k f fd ps sp) (hr : Room (k + 1) X.A) (hb : Binds X.K fd ps []) : OpR X (compareOp .NotEq) (rAsk X.K C sp not) := by
  intro pins s σ H x y v u Q I rx ry h
  obtain ⟨a, dx, fs, rfl, ha, hy, hq⟩ := h
  cases (show v = Value.ref a from rx)
  obtain ⟨Y, o, px, pc⟩ := own_ne T I ha
  obtain ⟨tv, ty, sb⟩ := rt_ty (A := X.A) (E := X.xe) I hy ry
  have c := ask_run (E2 := X.xe) F hr.in1 (.inr rfl) hb I ry (Q := fun b _ H' => Q (.bl (!b)) H') hq
  obtain ⟨hp, g, d, t, os⟩ := s
  unfold compareOp
  refine rich_ask cmpInfo_NotEq px pc ty (sb C) (by have := hr.un; omega) (ne_ask PySem.F.cmp_object Y (by have := hr.un; omega) (wpAny_mono c (fun z s' hz => ?_) fun _ _ e => e))
  obtain ⟨b, rfl, H', I', q⟩ := hz
  exact ⟨b, rfl, .bl (!b), H', I', rfl, q⟩
end
end Ru

set_option Elab.async false
set_option linter.all false
set_option maxRecDepth 100000
set_option maxHeartbeats 4000000
/-! str(x), repr(x) of an own class's instance; an f-string's own list; x in [None, y] -/
namespace Ru
open PySem PySem.Spec PyProof.Rows L2 BX EXB Co
def rTxO (C : Addr) (sp : Sp) : List V → Hp → VK → Prop := fun xs H Q => ∃ (x dx : Addr) (fs : List (Str × V)), xs = [.ref x] ∧ H x = some (.ins C dx fs) ∧ sp [.ref x] H (fun v H' => ∃ z : Str, v = .str z ∧ Q (.str z) H') (fun _ _ _ => False)
section
variable {X : Cx} {pins : List (Addr × Obj)} {σ : L2.St} {H : Hp} {s : Shared}
theorem env_in1 {B : Around} (e : Env0 X.prog X.w X.K X.mg X.base B X.stack s H) : Env0 X.prog X.w X.K X.mg X.base B.in1 X.stack s H := ⟨e.frames, e.mod, e.bs, e.bsz, e.funs, e.frf, e.hok, e.bare⟩
theorem back_text {r : Result} {s' : Shared} {Q : VK} {E2 : Value → Shared → Prop} (I : Inv X pins σ H s) (hq : CR CX0 X.stack X.prog X.w H s (fun v H' => ∃ z : Str, v = .str z ∧ Q (.str z) H') (fun _ _ _ => False) r s') : wants (PySem.W.StrBack (EP X pins σ Q)) E2 r s' := by
  cases r with
  | error e => exact False.elim hq
  | ok fl =>
    cases fl with
    | ret u =>
      obtain ⟨v, H', I', rz, z, ez, q⟩ := I.after hq
      subst ez
      obtain ⟨t, rfl⟩ := (show ∃ t, u = Value.str z t from rz)
      exact ⟨.str z, H', I', ⟨_, rfl⟩, q⟩
    | next => exact False.elim hq
    | brk => exact False.elim hq
    | cont => exact False.elim hq
/-- str(x), x an instance with its own __str__ -/
theorem call_strO {C f : Addr} {fd : FuncData} {k : Nat} {sp : Sp} (hs : PySem.W.findIn X.K (.ref C) "__str__" = some (some (.ref f))) (hf : PySem.W.isFn X.K (.ref f) = true) (F : FnOk X.prog X.w X.K X.mg X.base CX0 k f fd ["self"] sp) (hr : Room (k + 2) X.A) (hb : Binds X.K fd ["self"] []) :
    CallR X (.type "str") (rTxO C sp) := by
  intro pins s σ H xs us Q I r h
  obtain ⟨x, dx, fs, rfl, hx, hq⟩ := h
  cases r with
  | @cons _ u _ _ ru rn =>
    cases rn
    cases (show u = Value.ref x from ru)
    obtain ⟨mA, J, _⟩ := ins_get I.hok hx
    obtain ⟨od, J, _⟩ := J.look
    have e0 := env_in1 (env_in1 I.env0)
    have r2 : Vals [V.ref x] [Value.ref x] := .cons rfl .nil
    refine PySem.W.kso_call (hr.in1.in1.units0) I.kIn J hs hf ?_
    exact wpAny_call (codeAny_mono (F.run _ X.stack s H ⟨[.ref x], []⟩ [.ref x] [.ref x] _ (fun _ _ _ => False) hr.in1.in1 e0 (by
      have := hb s [.ref x] I.kIn rfl
      simpa using this) r2 hq) fun r s' hq' => back_text I hq')
/-- repr(x), x an instance with its own __repr__ -/
theorem call_reprOw {C f : Addr} {fd : FuncData} {k : Nat} {sp : Sp} (hs : PySem.W.findIn X.K (.ref C) "__repr__" = some (some (.ref f))) (hf : PySem.W.isFn X.K (.ref f) = true) (F : FnOkG X.prog X.w X.K X.mg X.base CX0 k f fd ["self"] sp) (hr : Room (k + 1) X.A) (hgd : X.A.guards = some []) (hb : Binds X.K fd ["self"] []) :
    CallR X (.builtin "repr") (rTxO C sp) := by
  intro pins s σ H xs us Q I r h
  obtain ⟨x, dx, fs, rfl, hx, hq⟩ := h
  cases r with
  | @cons _ u _ _ ru rn =>
    cases rn
    cases (show u = Value.ref x from ru)
    obtain ⟨mA, J, _⟩ := ins_get I.hok hx
    obtain ⟨od, J, _⟩ := J.look
    obtain ⟨m, hF⟩ := I.fr
    have e0 := env_in1 I.env0
    have r2 : Vals [V.ref x] [Value.ref x] := .cons rfl .nil
    refine PySem.W.repr_K (hr.in1.units0) hF I.ok.mod.kin J hs hf ?_
    exact wpAny_call (codeAny_mono (F.run _ X.stack s H ⟨[.ref x], []⟩ [.ref x] [.ref x] _ (fun _ _ _ => False) hr.in1 hgd e0 (by
      have := hb s [.ref x] I.kIn rfl
      simpa using this) r2 hq) fun r s' hq' => back_text I hq')
/-- {x!r}: a list or tuple of data -/
def tFmtD (K : PySem.W.Frag) (te : TE) : TE := fun σ H Q => te σ H fun x H1 => ∃ a d, x = .ref a ∧ Dp K H1 x d ∧ d.showable = true ∧ d.depth ≤ 64 ∧ d.shown.length ≤ sizeLine ∧ Q (.str d.shown) H1
theorem pe_fmtD (hgd : X.A.guards = some []) (hu : X.A.units + 80 < cLine) {e : Expr} {te : TE} {pos : Pos} (he : PE X e te) : PE X (.FormattedValue e 114 none pos) (tFmtD X.K te) := by
  refine ⟨fun pins s σ H Q I h => ?_⟩
  refine wpAny_FormattedValue_repr (thn (he.run pins s σ H _ I h) fun v s1 hv => ?_)
  obtain ⟨x, H1, I1, r1, a, d, rfl, hd, hs, hdp, hsz, q⟩ := hv
  cases (show v = Value.ref a from r1)
  obtain ⟨as, rd⟩ := Dp.reads I1 _ _ _ hd (show RelV (.ref a) (.ref a) from rfl)
  have nd := noDict d _ hd
  refine pyReprObj_of_reads rd hs (fun z => by rw [nd] at z; cases z) hgd (by omega) (fun _ _ z => z) (fun h' u tk hk => ?_) hsz
  exact wpAny_formatField_str ⟨.str d.shown, H1, I1.kept hk, ⟨_, rfl⟩, q⟩ ⟨.str d.shown, H1, (I1.kept (t' := tk) hk).tok _, ⟨_, rfl⟩, q⟩ hsz
end
end Ru

set_option Elab.async false
set_option linter.all false
set_option maxRecDepth 100000
set_option maxHeartbeats 4000000
/-! x in [None, y] by an own __eq__ -/
namespace Ru
open PySem PySem.Spec PyProof.Rows L2 BX EXB Co
open AutoSeq1 (wpAny_loadPart')
open MeetsSeq MeetsSeq2 MeetsSeq3 SeqRoads2 SeqAt
section
variable {prog : Program} {w : World} {A : Around} {R : Result → Shared → Prop}
/-- a turn of `in` over a list whose i-th thing is y -/
theorem in_turn {l : Addr} {items : Array Value} {n : Nat} {x y : Value} {i : Nat} {s : Shared} (hl : s.heap.get? l = some { cls := .type "list", data := .seq items n }) (hi : items[i]? = some y)
    (h : wpAny (model prog w) A.in1 (eqBool y x) (fun b s' => if b = true then R (.ok (.ret (.bool true))) s' else
      wpAny (model prog w) A.in1 (Builtin.«list.__contains__.loop» ⟨[.ref l, x, rawInt (i + 1 : Nat)], []⟩) (GQ.FinOf prog w A R) (fun e s' => R (.error e) s') s') (fun e s' => R (.error e) s') s) :
    wpAny (model prog w) A.in1 (Builtin.«list.__contains__.loop» ⟨[.ref l, x, rawInt i], []⟩) (GQ.FinOf prog w A R) (fun e s' => R (.error e) s') s := by
  obtain ⟨hp, g, d, tk, os⟩ := s
  wp_walk using wpAny_loadPart' hl
  have hi' : items[((i : Nat) : Int).toNat]? = some y := hi
  rw [hi']
  refine wpAny_bind (wpAny_mono h (fun b s2 h2 => ?_) fun _ _ x => x)
  obtain ⟨hp2, g2, d2, tk2, os2⟩ := s2
  cases b with
  | true =>
    wp_walk
    exact h2
  | false =>
    have hc : ((i : Int) + 1) = ((i + 1 : Nat) : Int) := by push_cast; rfl
    wp_walk
    rw [hc]
    exact ⟨plainId_quiet plain_contains_loop _, codeAny_builtin entry_contains_loop (by
      rw [Around.under_plainId plain_contains_loop _]
      exact h2)⟩
theorem in_done {l : Addr} {items : Array Value} {n : Nat} {x : Value} {i : Nat} {s : Shared} (hl : s.heap.get? l = some { cls := .type "list", data := .seq items n }) (hi : items[i]? = none) (h : R (.ok (.ret (.bool false))) s) :
    wpAny (model prog w) A.in1 (Builtin.«list.__contains__.loop» ⟨[.ref l, x, rawInt i], []⟩) (GQ.FinOf prog w A R) (fun e s' => R (.error e) s') s := by
  obtain ⟨hp, g, d, tk, os⟩ := s
  wp_walk using wpAny_loadPart' hl
  have hi' : items[((i : Nat) : Int).toNat]? = none := hi
  rw [hi']
  wp_walk
  exact h
theorem in_begin {l : Addr} {items : Array Value} {n : Nat} {x : Value} {s : Shared} (hl : s.heap.get? l = some { cls := .type "list", data := .seq items n })
    (h : wpAny (model prog w) A.in1 (Builtin.«list.__contains__.loop» ⟨[.ref l, x, rawInt (0 : Nat)], []⟩) (GQ.FinOf prog w A R) (fun e s' => R (.error e) s') s) :
    wpAny (model prog w) A.in1 (Builtin.«list.__contains__» ⟨[.ref l, x], []⟩) (GQ.FinOf prog w A R) (fun e s' => R (.error e) s') s := by
  obtain ⟨hp, g, d, tk, os⟩ := s
  wp_walk using wpAny_loadPart' hl
  exact ⟨plainId_quiet plain_contains_loop _, codeAny_builtin entry_contains_loop (by
    rw [Around.under_plainId plain_contains_loop _]
    exact h)⟩
end
section
variable {prog : Program} {w : World} {A : Around} {E : Value → Shared → Prop} {h : Heap} {g : Array GenState} {d : Drawn} {t : Nat} {os : OsState}
/-- None == x asks x's own __eq__ -/
theorem none_ask {x C : Addr} {Q : Value → Shared → Prop} (room : A.units < cLine) {o : Obj} (px : h.get? x = some o) (pc : o.cls = .ref C)
    (sb : PySem.W.Looks (model prog w) h (isSubtype (.ref C) (.type "NoneType")) false)
    (ask : wpAny (model prog w) A (tryCompare (.ref x) "__eq__" .none) (fun a s' => ∃ u, a = some u ∧ Q u s') E ⟨h, g, d, t, os⟩) : wpAny (model prog w) A (richCompare .Eq .none (.ref x)) Q E ⟨h, g, d, t, os⟩ := by
  unfold richCompare
  simp only [(show oneThing? .Eq .none (.ref x) = none from rfl)]
  refine wpAny_holding (wpAny_bind (wpAny_cRoomFor room ?_))
  rw [cmpInfo_Eq]
  dsimp only
  refine wpAny_bind (wpAny_typeOf (T := "NoneType") rfl ?_)
  refine wpAny_bind (wpAny_typeOf_ref px ?_)
  rw [pc]
  rw [if_pos (by rfl)]
  refine wpAny_bind (sb.here ?_)
  simp only [Bool.false_eq_true, if_false, Bool.not_false, if_true]
  refine wpAny_bind (m := tryCompare .none _ (.ref x)) (wpAny_tryCompare_declines (T := "NoneType") rfl F.slot_NoneType_eq (call_gives F.slot_NoneType_eq rfl F.entry_NoneType_eq (F.args_NoneType_eq_2 _ _) (NoneType___eq___none_ref_0 x) ⟨rfl, ?_⟩))
  refine wpAny_bind (wpAny_mono ask (fun a s' ha => ?_) fun _ _ e => e)
  obtain ⟨u, rfl, q⟩ := ha
  exact wpAny_pure q
end
section
variable {X : Cx}
def rInNY (K : PySem.W.Frag) (C : Addr) (sp : Sp) : R2 := fun x y H Q => ∃ (a b l dx dy : Addr) (fs gs : List (Str × V)), x = .ref a ∧ y = .ref l ∧ H l = some (.lst [.non, .ref b]) ∧ H a = some (.ins C dx fs) ∧ H b = some (.ins C dy gs) ∧ a ≠ b ∧
  sp [.ref a, .non] H (fun v H1 => ∃ c : Bool, v = .bl c ∧ c = false ∧ H1 l = some (.lst [.non, .ref b]) ∧ (∃ (ex ey : Addr) (gs1 gs2 : List (Str × V)), H1 a = some (.ins C ex gs1) ∧ H1 b = some (.ins C ey gs2)) ∧
    sp [.ref b, .ref a] H1 (fun v H2 => ∃ c : Bool, v = .bl c ∧ H2 l = some (.lst [.non, .ref b]) ∧ Q (.bl c) H2) E0) E0
theorem op_inNY {C f : Addr} {fd : FuncData} {k : Nat} {sp : Sp} {ps : List Str} (T : NeC X.K C f) (nn : PySem.W.mroIn X.K C (.type "NoneType") = some false) (G : FnOk X.prog X.w X.K X.mg X.base CX0 k f fd ps sp) (hr : Room (k + 2) X.A) (hb : Binds X.K fd ps []) : OpR X (compareOp .In) (rInNY X.K C sp) := by
  intro pins s σ H x y v u Q I rx ry h
  obtain ⟨a, b, l, dx, dy, fs, gs, rfl, rfl, hl, ha, hb', ab, hq⟩ := h
  cases (show v = Value.ref a from rx)
  cases (show u = Value.ref l from ry)
  have lst : ∀ {H1 : Hp} {s1 : Shared}, Inv X pins σ H1 s1 → H1 l = some (.lst [.non, .ref b]) → ∃ n, s1.heap.get? l = some { cls := .type "list", data := .seq #[.none, .ref b] n } := fun {H1 s1} I1 e => by
    obtain ⟨_, its, n, r, _, ho⟩ := I1.lstM e
    cases r with
    | cons r1 r =>
      cases r with
      | cons r2 r =>
        cases r
        cases r1
        cases r2
        exact ⟨n, ho⟩
  obtain ⟨n, hls⟩ := lst I hl
  show wpAny (model X.prog X.w) X.A (do return Value.bool (← contains (.ref l) (.ref a))) (EP X pins σ Q) X.xe s
  refine wpAny_bind (wpAny_contains_slot ⟨_, hls, rfl⟩ F.slot_list_contains (wpAny_mono (GQ.call_here F.slot_list_contains ⟨_, hls, rfl⟩ F.entry_list_contains (F.args_list_contains_2 _ _) (in_begin (R := wants (fun v s' => ∃ b : Bool, v = .bool b ∧ EP X pins σ Q (.bool b) s') X.xe) hls ?_)) (fun v s' hv => ?_) fun _ _ e => e))
  rotate_left
  · obtain ⟨b, rfl, q⟩ := hv
    exact wpAny_truthy_bool (wpAny_pure q)
  refine in_turn (y := .none) hls rfl ?_
  unfold eqBool
  refine wpAny_holding (wpAny_ite_split (fun hab => absurd (eq_of_beq hab) nofun) (fun _ => ?_))
  obtain ⟨Y, o, px, pc⟩ := own_ne T I ha
  have c1 := ask_run (E2 := fun e s' => wants (fun v s' => ∃ b : Bool, v = .bool b ∧ EP X pins σ Q (.bool b) s') X.xe (.error e) s') G (B := X.A.in1) (hr.in1.mono (by omega)) (.inr rfl) hb I (a := a) (y := .non) (u := .none) rfl
    (Q := fun c _ H1 => c = false ∧ H1 l = some (.lst [.non, .ref b]) ∧ (∃ (ex ey : Addr) (gs1 gs2 : List (Str × V)), H1 a = some (.ins C ex gs1) ∧ H1 b = some (.ins C ey gs2)) ∧ sp [.ref b, .ref a] H1 (fun v H2 => ∃ c : Bool, v = .bl c ∧ H2 l = some (.lst [.non, .ref b]) ∧ Q (.bl c) H2) E0) hq
  have sb := PySem.W.looks_mroIn (M := model X.prog X.w) I.kIn nn
  have room := (hr.in1).units0
  obtain ⟨hp, g, d, t, os⟩ := s
  refine wpAny_bind (none_ask room px pc sb (eq_ask Y.ownEq (wpAny_mono c1 (fun z s' hz => ?_) fun _ _ e => e)))
  obtain ⟨c, rfl, H1, I1, rfl, hl1, ⟨ex, ey, gs1, gs2, ha1, hb1⟩, hq1⟩ := hz
  refine ⟨_, rfl, wpAny_truthy_bool ?_⟩
  rw [if_neg (by decide)]
  obtain ⟨n1, hls1⟩ := lst I1 hl1
  obtain ⟨Y1, o1, px1, pc1⟩ := own_ne T I1 hb1
  refine in_turn (i := 1) (y := .ref b) hls1 rfl ?_
  obtain ⟨tv, ty, sb1⟩ := rt_ty (A := X.A.in1) (E := fun e s' => wants (fun v s' => ∃ b : Bool, v = .bool b ∧ EP X pins σ Q (.bool b) s') X.xe (.error e) s') I1 (y := .ref a) (.inr (.inr (.inr (.inr (.inr (.inr ⟨a, C, ex, gs1, f, rfl, ha1, T⟩)))))) (u := .ref a) rfl
  have c2 := ask_run (E2 := fun e s' => wants (fun v s' => ∃ b : Bool, v = .bool b ∧ EP X pins σ Q (.bool b) s') X.xe (.error e) s') G (B := X.A.in1) (hr.in1.mono (by omega)) (.inr rfl) hb I1 (a := b) (y := .ref a) (u := .ref a) rfl
    (Q := fun c _ H2 => H2 l = some (.lst [.non, .ref b]) ∧ Q (.bl c) H2) hq1
  obtain ⟨hp1, g1, d1, t1, os1⟩ := s'
  refine GQ.eqBool_refG (Ne.symm ab) (rich_ask cmpInfo_Eq px1 pc1 ty (sb1 C) room (eq_ask Y1.ownEq (wpAny_mono c2 (fun z s' hz => ?_) fun _ _ e => e)))
  obtain ⟨c, rfl, H2, I2, hl2, q⟩ := hz
  refine ⟨_, rfl, c, rfl, ?_⟩
  cases c with
  | true =>
    rw [if_pos rfl]
    exact ⟨true, rfl, .bl true, H2, I2, rfl, q⟩
  | false =>
    rw [if_neg (by decide)]
    obtain ⟨n2, hls2⟩ := lst I2 hl2
    exact in_done (i := 2) hls2 rfl ⟨false, rfl, .bl false, H2, I2, rfl, q⟩
end
end Ru

set_option Elab.async false
set_option linter.all false
set_option maxRecDepth 100000
set_option maxHeartbeats 4000000
/-! whole numbers and fractions as texts: the mathematics -/
namespace Nt
open PySem PySem.Spec PyProof.Rows L2
open TL (tl numL)
def sI (i : Int) : Str := Str.ofString (toString i)
def iL (i : Int) : List Nat := tl (sI i)
theorem iL_nat (n : Nat) : iL (n : Int) = numL n := TL.tl_num n
theorem iL_neg (n : Nat) : iL (-((n + 1 : Nat) : Int)) = 45 :: numL (n + 1) := by
  show tl (Str.ofString (toString (Int.negSucc n))) = _
  rw [TL.tl_ofString]
  have h := TL.tl_num (n + 1)
  rw [TL.tl_ofString] at h
  show ("-" ++ Nat.repr (n + 1)).toList.map Char.toNat = _
  rw [String.toList_append, List.map_append]
  exact congrArg (fun z => 45 :: z) h
theorem int_two (i : Int) : (∃ n : Nat, i = (n : Int)) ∨ ∃ n : Nat, i = -((n + 1 : Nat) : Int) := by
  cases i with
  | ofNat n => exact .inl ⟨n, rfl⟩
  | negSucc n => exact .inr ⟨n, rfl⟩
theorem numL_no {n s : Nat} (h : s < 48 ∨ 57 < s) : s ∉ numL n := TL.numL_free h
theorem iL_no {i : Int} {s : Nat} (h : s ≠ 45) (h2 : s < 48 ∨ 57 < s) : s ∉ iL i := by
  rcases int_two i with ⟨n, rfl⟩ | ⟨n, rfl⟩
  · rw [iL_nat]; exact numL_no h2
  · rw [iL_neg]
    intro hm
    rcases List.mem_cons.mp hm with e | hm
    · exact h e
    · exact numL_no h2 hm
theorem iL_ne (i : Int) : iL i ≠ [] := by
  rcases int_two i with ⟨n, rfl⟩ | ⟨n, rfl⟩
  · rw [iL_nat]; exact TL.numL_ne n
  · rw [iL_neg]; exact List.cons_ne_nil _ _
theorem dig {n c : Nat} (h : c ∈ numL n) : 48 ≤ c ∧ c ≤ 57 := TL.numL_digits n c h
theorem iL_inj {i j : Int} (h : iL i = iL j) : i = j := by
  rcases int_two i with ⟨n, rfl⟩ | ⟨n, rfl⟩ <;> rcases int_two j with ⟨m, rfl⟩ | ⟨m, rfl⟩
  · rw [iL_nat, iL_nat] at h; rw [TL.numL_inj h]
  · rw [iL_nat, iL_neg] at h
    have := dig (n := n) (c := 45) (by rw [h]; exact List.mem_cons_self)
    omega
  · rw [iL_nat, iL_neg] at h
    have := dig (n := m) (c := 45) (by rw [← h]; exact List.mem_cons_self)
    omega
  · rw [iL_neg, iL_neg] at h
    have := TL.numL_inj (List.cons.inj h).2
    rw [this]
/-! figures -/
def isFig (l : List Nat) : Bool := l.all (fun c => decide (48 ≤ c) && decide (c ≤ 57)) && !l.isEmpty && (l == [48] || !(l.head? == some 48))
theorem head_num : ∀ n : Nat, (numL n).head? = some 48 → n = 0 := fun n => by
  induction n using Nat.strongRecOn with
  | _ n ih =>
    intro h
    by_cases c : n < 10
    · rw [TL.numL_lt c] at h
      have := Option.some.inj h
      omega
    · rw [TL.numL_step (by omega), List.head?_append] at h
      have z := ih (n / 10) (by omega) (by
        cases e : (numL (n / 10)).head? with
        | none => rw [List.head?_eq_none_iff] at e; exact absurd e (TL.numL_ne _)
        | some x => rw [e] at h; exact h)
      omega
theorem fig_num (n : Nat) : isFig (numL n) = true := by
  unfold isFig
  rw [Bool.and_eq_true, Bool.and_eq_true]
  refine ⟨⟨List.all_eq_true.mpr fun c hc => ?_, ?_⟩, ?_⟩
  · have := dig hc
    rw [Bool.and_eq_true, decide_eq_true_iff, decide_eq_true_iff]
    exact this
  · cases e : numL n with
    | nil => exact absurd e (TL.numL_ne n)
    | cons a l => rfl
  · by_cases h : (numL n).head? = some 48
    · have := head_num n h
      subst this
      rfl
    · have : ((numL n).head? == some 48) = false := beq_eq_false_iff_ne.mpr h
      rw [this]
      simp
theorem of_fig : ∀ (m : Nat) (l : List Nat), l.length = m → isFig l = true → ∃ n, l = numL n := fun m => by
  induction m with
  | zero =>
    intro l hl h
    rw [List.eq_nil_of_length_eq_zero hl] at h
    cases h
  | succ m ih =>
    intro l hl h
    rcases List.eq_nil_or_concat l with rfl | ⟨p, c, e⟩
    · cases hl
    rw [List.concat_eq_append] at e
    subst e
    unfold isFig at h
    rw [Bool.and_eq_true, Bool.and_eq_true] at h
    obtain ⟨⟨h1, h2⟩, h3⟩ := h
    rw [List.all_append, Bool.and_eq_true] at h1
    obtain ⟨ha, hb⟩ := h1
    have hc : 48 ≤ c ∧ c ≤ 57 := by
      have := List.all_eq_true.mp hb c (List.mem_singleton_self c)
      rw [Bool.and_eq_true, decide_eq_true_iff, decide_eq_true_iff] at this
      exact this
    cases p with
    | nil => exact ⟨c - 48, by rw [TL.numL_lt (by omega)]; show [c] = _; congr 1; omega⟩
    | cons d p =>
      have h4 : ¬ d = 48 := fun z => by
        subst z
        rcases Bool.or_eq_true _ _ ▸ h3 with z | z
        · have := eq_of_beq z
          have := congrArg List.length this
          simp at this
        · cases z
      obtain ⟨n, en⟩ := ih (d :: p) (by simpa using hl) (by
        unfold isFig
        rw [ha]
        have : ((d :: p).head? == some 48) = false := beq_eq_false_iff_ne.mpr (fun z => h4 (Option.some.inj z))
        rw [this]
        simp)
      have n1 : 1 ≤ n := by
        cases n with
        | zero => rw [show numL 0 = [48] from TL.numL_lt (by decide)] at en; exact absurd (List.cons.inj en).1 h4
        | succ n => omega
      refine ⟨n * 10 + (c - 48), ?_⟩
      rw [TL.numL_step (by omega), show (n * 10 + (c - 48)) / 10 = n by omega, show 48 + (n * 10 + (c - 48)) % 10 = c by omega, en]
theorem fig_iff (l : List Nat) : isFig l = true ↔ ∃ n, l = numL n := ⟨fun h => of_fig l.length l rfl h, fun ⟨n, e⟩ => by rw [e]; exact fig_num n⟩
/-! the sign -/
def rm (l : List Nat) : List Nat := match l with
  | 45 :: r => r
  | l => l
theorem rm_num (n : Nat) : rm (numL n) = numL n := by
  cases e : numL n with
  | nil => rfl
  | cons a l =>
    have := dig (n := n) (c := a) (by rw [e]; exact List.mem_cons_self)
    unfold rm
    split
    · rename_i h; injection h with h; omega
    · rfl
theorem rm_iL (i : Int) : ∃ n, rm (iL i) = numL n := by
  rcases int_two i with ⟨n, rfl⟩ | ⟨n, rfl⟩
  · exact ⟨n, by rw [iL_nat]; exact rm_num n⟩
  · exact ⟨n + 1, by rw [iL_neg]; rfl⟩
/-- a text is a whole number's just where it is none of two faults -/
theorem int_iff (l : List Nat) : (∃ i, l = iL i) ↔ (l ≠ [45, 48] ∧ isFig (rm l) = true) := by
  constructor
  · rintro ⟨i, rfl⟩
    refine ⟨fun e => ?_, ?_⟩
    · rcases int_two i with ⟨n, rfl⟩ | ⟨n, rfl⟩
      · rw [iL_nat] at e
        have := dig (n := n) (c := 45) (by rw [e]; exact List.mem_cons_self)
        omega
      · rw [iL_neg] at e
        have e2 := (List.cons.inj e).2
        have : n + 1 = 0 := TL.numL_inj (e2.trans (TL.numL_lt (n := 0) (by decide)).symm)
        omega
    · obtain ⟨n, e⟩ := rm_iL i
      rw [e]
      exact fig_num n
  · rintro ⟨h1, h2⟩
    obtain ⟨n, e⟩ := (fig_iff _).mp h2
    by_cases c : ∃ r, l = 45 :: r
    · obtain ⟨r, rfl⟩ := c
      have e : r = numL n := e
      cases n with
      | zero => rw [show numL 0 = [48] from TL.numL_lt (by decide)] at e; exact absurd (by rw [e]) h1
      | succ n => exact ⟨_, by rw [iL_neg, e]⟩
    · have : rm l = l := by
        unfold rm
        split
        · rename_i r; exact absurd ⟨r, rfl⟩ c
        · rfl
      rw [this] at e
      exact ⟨(n : Int), by rw [iL_nat]; exact e⟩
/-! fractions -/
def shR (q : Rat) : Str := if q.den = 1 then sI q.num else (sI q.num ++ Str.ofString "/") ++ sI (q.den : Int)
theorem txt1 {q : Rat} (h : q.den = 1) : tl (shR q) = iL q.num := by unfold shR; rw [if_pos h]; rfl
theorem txt2 {q : Rat} (h : q.den ≠ 1) : tl (shR q) = iL q.num ++ 47 :: numL q.den := by
  unfold shR
  rw [if_neg h, TL.tl_append, TL.tl_append, List.append_assoc]
  have : tl (sI (q.den : Int)) = numL q.den := iL_nat _
  rw [this]
  rfl
theorem txt_no {q : Rat} {s : Nat} (h : s ≠ 45) (h47 : s ≠ 47) (h2 : s < 48 ∨ 57 < s) : s ∉ tl (shR q) := by
  by_cases c : q.den = 1
  · rw [txt1 c]; exact iL_no h h2
  · rw [txt2 c]
    intro hm
    rcases List.mem_append.mp hm with hm | hm
    · exact iL_no h h2 hm
    · rcases List.mem_cons.mp hm with e | hm
      · exact h47 e
      · exact numL_no h2 hm
theorem cut_one {s : Nat} : ∀ {a b x y : List Nat}, s ∉ a → s ∉ x → a ++ s :: b = x ++ s :: y → a = x ∧ b = y
  | [], b, [], y, _, _, h => ⟨rfl, (List.cons.inj h).2⟩
  | [], b, c :: x, y, _, hx, h => absurd (List.mem_cons.mpr (.inl (List.cons.inj h).1)) hx
  | c :: a, b, [], y, ha, _, h => absurd (List.mem_cons.mpr (.inl (List.cons.inj h).1.symm)) ha
  | c :: a, b, d :: x, y, ha, hx, h => by
    obtain ⟨e, h⟩ := List.cons.inj h
    obtain ⟨e1, e2⟩ := cut_one (fun z => ha (List.mem_cons_of_mem _ z)) (fun z => hx (List.mem_cons_of_mem _ z)) h
    exact ⟨by rw [e, e1], e2⟩
theorem first_of {s : Nat} : ∀ {l : List Nat}, s ∈ l → ∃ x y, l = x ++ s :: y ∧ s ∉ x
  | [], h => absurd h (by simp)
  | c :: l, h => by
    by_cases e : s = c
    · exact ⟨[], l, by rw [e]; rfl, by simp⟩
    · rcases List.mem_cons.mp h with z | h
      · exact absurd z e
      · obtain ⟨x, y, e1, e2⟩ := first_of h
        exact ⟨c :: x, y, by rw [e1]; rfl, fun z => by
          rcases List.mem_cons.mp z with z | z
          · exact e z
          · exact e2 z⟩
/-- without a stroke: a whole number -/
theorem of_int {l : List Nat} (h : 47 ∉ l) {q : Rat} : l = tl (shR q) ↔ q.den = 1 ∧ l = iL q.num := by
  constructor
  · intro e
    by_cases c : q.den = 1
    · rw [txt1 c] at e; exact ⟨c, e⟩
    · rw [txt2 c] at e
      exact absurd (by rw [e]; simp) h
  · rintro ⟨c, e⟩
    rw [txt1 c]
    exact e
/-- with a stroke -/
theorem of_frac {x y : List Nat} (h : 47 ∉ x) {q : Rat} : x ++ 47 :: y = tl (shR q) ↔ q.den ≠ 1 ∧ x = iL q.num ∧ y = numL q.den := by
  constructor
  · intro e
    by_cases c : q.den = 1
    · rw [txt1 c] at e
      exact absurd (by rw [← e]; simp) (iL_no (i := q.num) (s := 47) (by decide) (by decide))
    · rw [txt2 c] at e
      obtain ⟨e1, e2⟩ := cut_one h (iL_no (by decide) (by decide)) e
      exact ⟨c, e1, e2⟩
  · rintro ⟨c, e1, e2⟩
    rw [txt2 c, e1, e2]
theorem tl_inj {x y : Str} (h : tl x = tl y) : x = y := TL.ext_tl h
theorem shR_inj {p q : Rat} (h : shR p = shR q) : p = q := by
  have h : tl (shR p) = tl (shR q) := congrArg tl h
  by_cases c : p.den = 1
  · rw [txt1 c] at h
    obtain ⟨d, e⟩ := (of_int (iL_no (by decide) (by decide))).mp h
    exact Rat.ext (iL_inj e) (by rw [c, d])
  · rw [txt2 c] at h
    obtain ⟨d, e1, e2⟩ := (of_frac (iL_no (by decide) (by decide))).mp h
    exact Rat.ext (iL_inj e1) (TL.numL_inj e2)
/-! the language's own -/
theorem int_read {i : Int} (h : (iL i).length ≤ 640) : intText? (sI i) = some i := by
  rcases int_two i with ⟨n, rfl⟩ | ⟨n, rfl⟩
  · rw [iL_nat] at h
    exact TL.int_num (by omega)
  · have e : (sI (-((n + 1 : Nat) : Int))).cps.toList = 45 :: numL (n + 1) := iL_neg n
    rw [iL_neg] at h
    have := intText_neg e (TL.numL_digits _) (TL.numL_ne _) (by rw [TL.len_tl]; show (tl _).length ≤ 4300; rw [show tl (sI (-((n + 1 : Nat) : Int))) = 45 :: numL (n + 1) from e]; omega)
    rw [this, TL.numL_val]
theorem dig_lang : ∀ c, c < 128 → Unicode.isDigit c = (decide (48 ≤ c) && decide (c ≤ 57)) := by decide +kernel
theorem all_tl (a : Str) (p : Nat → Bool) : a.cps.all p = (tl a).all p := by
  show _ = a.cps.toList.all p
  rw [Array.all_toList]
theorem tl0 : tl (Str.ofString "0") = [48] := rfl
theorem tlm : tl (Str.ofString "-") = [45] := rfl
theorem sub0 (a : Str) (y : Str) (c : Nat) (e : tl y = [c]) : Builtin.Str.subAt a y 0 = ((tl a).head? == some c) := by
  rw [StrLaws.subAt_eq, TL.len_tl, e]
  show (((tl a).drop 0).take 1 == tl y) = ((tl a).head? == some c)
  rw [e, List.drop_zero]
  cases tl a with
  | nil => rfl
  | cons d l =>
    show ([d] == [c]) = (some d == some c)
    rw [Bool.eq_iff_iff, beq_iff_eq, beq_iff_eq]
    simp
theorem starts0 (a : Str) : Txt.startswith a (Str.ofString "0") = ((tl a).head? == some 48) := by
  unfold Txt.startswith
  rw [sub0 a _ 48 tl0, TL.len_tl, TL.len_tl, tl0]
  cases e : tl a with
  | nil => rfl
  | cons d l =>
    rw [decide_eq_true (by simp)]
    exact Bool.true_and _
theorem digit_tl {a : Str} (h : (tl a).all (fun c => decide (c < 128)) = true) : Txt.isdigit a = ((tl a).all (fun c => decide (48 ≤ c) && decide (c ≤ 57)) && !(tl a).isEmpty) := by
  unfold Txt.isdigit
  rw [all_tl, TL.len_tl]
  have : (tl a).all Unicode.isDigit = (tl a).all (fun c => decide (48 ≤ c) && decide (c ≤ 57)) := by
    rw [Bool.eq_iff_iff, List.all_eq_true, List.all_eq_true]
    refine forall_congr' fun c => forall_congr' fun hc => ?_
    rw [dig_lang c (of_decide_eq_true (List.all_eq_true.mp h c hc))]
  rw [this, Bool.and_comm]
  cases tl a <;> rfl
theorem ascii_tl (a : Str) : Txt.isascii a = (tl a).all (fun c => decide (c < 128)) := all_tl a _
theorem fig_lang (a : Str) : (Txt.isascii a && Txt.isdigit a && (decide (a = Str.ofString "0") || !Txt.startswith a (Str.ofString "0"))) = isFig (tl a) := by
  have e0 : decide (a = Str.ofString "0") = (tl a == [48]) := by
    rw [Bool.eq_iff_iff, decide_eq_true_iff, beq_iff_eq]
    exact ⟨fun e => by rw [e]; rfl, fun e => tl_inj (e.trans tl0.symm)⟩
  rw [starts0, e0, ascii_tl]
  unfold isFig
  cases h : (tl a).all (fun c => decide (c < 128)) with
  | true => rw [digit_tl h, Bool.true_and]
  | false =>
    have : (tl a).all (fun c => decide (48 ≤ c) && decide (c ≤ 57)) = false := by
      cases z : (tl a).all (fun c => decide (48 ≤ c) && decide (c ≤ 57)) with
      | false => rfl
      | true =>
        exfalso
        have : (tl a).all (fun c => decide (c < 128)) = true := List.all_eq_true.mpr fun c hc => by
          have := List.all_eq_true.mp z c hc
          rw [Bool.and_eq_true, decide_eq_true_iff, decide_eq_true_iff] at this
          exact decide_eq_true (by omega)
        rw [h] at this
        cases this
    rw [this]
    rfl
theorem tl_rm (a : Str) : tl (Txt.removeprefix a (Str.ofString "-")) = rm (tl a) := by
  unfold Txt.removeprefix
  rw [sub0 a _ 45 tlm]
  have l1 : (Str.ofString "-").length = 1 := rfl
  cases e : tl a with
  | nil =>
    have : (([] : List Nat).head? == some 45) = false := rfl
    rw [this, if_neg (by decide)]
    show tl a = _
    rw [e]
    rfl
  | cons d l =>
    by_cases c : d = 45
    · subst c
      have : (((45 : Nat) :: l).head? == some 45) = true := by simp
      rw [this, if_pos rfl, l1]
      have la : a.length = l.length + 1 := by rw [TL.len_tl, e]; rfl
      unfold Txt.affix
      dsimp only
      rw [if_neg (by rw [la]; simp)]
      rw [TL.tl_strSub_end, e]
      rfl
    · have : ((d :: l).head? == some 45) = false := beq_eq_false_iff_ne.mpr (fun z => c (Option.some.inj z))
      rw [this, if_neg (by decide)]
      show tl a = _
      rw [e]
      unfold rm
      split
      · rename_i h; injection h with h; exact absurd h c
      · rfl
end Nt

set_option Elab.async false
set_option linter.all false
set_option maxRecDepth 100000
set_option maxHeartbeats 4000000
/-! promises of the texts' defs -/
namespace Nt
open PySem PySem.Spec PyProof.Rows L2 BX EXB Co Ru
open TL (tl numL)
open Fr (Bd)
theorem ofS_len (s : String) : (Str.ofString s).length = s.toList.length := by
  have := congrArg List.length (TL.tl_ofString s)
  rw [List.length_map] at this
  rw [TL.len_tl]
  exact this
theorem app_len (x y : Str) : (x ++ y).length = x.length + y.length := by
  rw [TL.len_tl, TL.len_tl, TL.len_tl, TL.tl_append, List.length_append]
theorem emp_app (x : Str) : Str.empty ++ x = x := TL.ext_tl (by rw [TL.tl_append]; rfl)
theorem app_assoc (x y z : Str) : (x ++ y) ++ z = x ++ (y ++ z) := TL.ext_tl (by rw [TL.tl_append, TL.tl_append, TL.tl_append, TL.tl_append, List.append_assoc])
theorem szl : 16777216 ≤ sizeLine := by rw [sizeLine_eq]; decide
/-! sizes -/
theorem val_lt : ∀ (k : Nat) (l : List Nat), l.length = k → NumText.AllDigits l → NumText.digitsVal l < 10 ^ l.length := fun k => by
  induction k with
  | zero => intro l hl _; rw [List.eq_nil_of_length_eq_zero hl]; decide
  | succ k ih =>
    intro l hl h
    rcases List.eq_nil_or_concat l with rfl | ⟨p, c, e⟩
    · cases hl
    rw [List.concat_eq_append] at e
    subst e
    rw [List.length_append, List.length_singleton] at hl
    have h1 := ih p (by omega) fun x hx => h x (List.mem_append_left _ hx)
    have hc := h c (List.mem_append_right _ (List.mem_singleton_self c))
    rw [NumText.digitsVal_snoc, List.length_append, List.length_singleton, Nat.pow_succ]
    omega
theorem num_lt (n : Nat) : n < 10 ^ (numL n).length := by
  have := val_lt _ _ rfl (TL.numL_digits n)
  rw [TL.numL_val] at this
  exact this
theorem ten_le (k : Nat) : 10 ^ k ≤ 2 ^ (4 * k) := by
  rw [Nat.pow_mul]
  exact Nat.pow_le_pow_left (by decide) k
theorem iL_bd (i : Int) : i.natAbs < 2 ^ (4 * (iL i).length) := by
  refine Nat.lt_of_lt_of_le ?_ (ten_le _)
  rcases int_two i with ⟨n, rfl⟩ | ⟨n, rfl⟩
  · rw [iL_nat, Int.natAbs_natCast]; exact num_lt n
  · rw [iL_neg, Int.natAbs_neg, Int.natAbs_natCast]
    exact Nat.lt_of_lt_of_le (num_lt (n + 1)) (Nat.pow_le_pow_right (by decide) (by simp))
theorem txt_bd (q : Rat) {L : Nat} (h : (shR q).length ≤ L) : Bd (4 * L) q := by
  rw [TL.len_tl] at h
  by_cases c : q.den = 1
  · rw [txt1 c] at h
    refine ⟨Nat.lt_of_lt_of_le (iL_bd q.num) (Nat.pow_le_pow_right (by decide) (by omega)), ?_⟩
    rw [c]
    have : 1 ≤ (iL q.num).length := by
      cases e : iL q.num with
      | nil => exact absurd e (iL_ne _)
      | cons a l => simp
    exact Nat.lt_of_lt_of_le (by decide : 1 < 2 ^ 4) (Nat.pow_le_pow_right (by decide) (by omega))
  · rw [txt2 c, List.length_append, List.length_cons] at h
    exact ⟨Nat.lt_of_lt_of_le (iL_bd q.num) (Nat.pow_le_pow_right (by decide) (by omega)), Nat.lt_of_lt_of_le (num_lt q.den) (Nat.le_trans (ten_le _) (Nat.pow_le_pow_right (by decide) (by omega)))⟩
theorem log_of {i : Int} {n : Nat} (h : i.natAbs < 2 ^ n) (h0 : 0 < n) (hn : n ≤ 1900) : i.natAbs.log2 < 1920 := by
  have := PySem.Flt.log2_lt_of h0 h
  exact Nat.lt_of_lt_of_le this (by omega)
theorem sI_len {i : Int} {n : Nat} (h : i.natAbs < 2 ^ n) (h0 : 0 < n) : (sI i).length ≤ n + 1 := by
  have hl := PySem.Flt.log2_lt_of h0 h
  show (Str.ofString (toString i)).length ≤ n + 1
  rw [PySem.ofString_length]
  exact PySem.int_text_length_le h0 hl
theorem shR_len {q : Rat} {n : Nat} (h : Bd n q) (h0 : 0 < n) : (shR q).length ≤ 2 * n + 3 := by
  have a := sI_len h.1 h0
  have b := sI_len (i := (q.den : Int)) h.dn h0
  unfold shR
  split
  · omega
  · rw [app_len, app_len]
    have : (Str.ofString "/").length = 1 := rfl
    omega
/-! read -/
open Classical in
noncomputable def rdR (a : Str) : Option Rat := if h : ∃ q, a = shR q then some h.choose else none
theorem rd_sh (q : Rat) : rdR (shR q) = some q := by
  unfold rdR
  have h : ∃ p, shR q = shR p := ⟨q, rfl⟩
  rw [dif_pos h]
  exact congrArg some (shR_inj h.choose_spec).symm
theorem rd_some {a : Str} {q : Rat} (h : rdR a = some q) : a = shR q := by
  unfold rdR at h
  split at h
  · rename_i z
    rw [← Option.some.inj h]
    exact z.choose_spec
  · cases h
theorem rd_none {a : Str} (h : ∀ q, a ≠ shR q) : rdR a = none := by
  unfold rdR
  rw [dif_neg (fun ⟨q, e⟩ => h q e)]
/-! rows -/
def rowS (qs : List Rat) : Str := Txt.join (Str.ofString " ") (qs.map shR)
def wrS (rss : List (List Rat)) : Str := Txt.join (Str.ofString " | ") (rss.map rowS)
theorem split_row {qs : List Rat} (h : qs ≠ []) : Txt.split (rowS qs) (Str.ofString " ") = qs.map shR := by
  unfold rowS
  refine TL.split_join (y := Str.ofString " ") (s := 32) (S := []) (by rfl) (by decide +kernel) (parts := qs.map shR) (by simpa using h) fun p hp => ?_
  obtain ⟨q, _, rfl⟩ := List.mem_map.mp hp
  exact txt_no (by decide) (by decide) (by decide)
theorem join_no {s : Nat} {y : Str} (hy : s ∉ tl y) : ∀ {ps : List Str}, (∀ p ∈ ps, s ∉ tl p) → s ∉ tl (Txt.join y ps) := fun {ps} h => by
  rw [TL.join_eq, TL.tl_join]
  induction ps with
  | nil => intro z; cases z
  | cons p ps ih =>
    cases ps with
    | nil => exact h p (by simp)
    | cons r ps =>
      show s ∉ tl p ++ (tl y ++ TL.joinL (tl y) ((r :: ps).map tl))
      intro z
      rcases List.mem_append.mp z with z | z
      · exact h p (by simp) z
      · rcases List.mem_append.mp z with z | z
        · exact hy z
        · exact ih (fun x hx => h x (by simp [List.mem_cons] at hx ⊢; exact .inr hx)) z
theorem row_no {s : Nat} (h : s ≠ 45) (h47 : s ≠ 47) (h32 : s ≠ 32) (h2 : s < 48 ∨ 57 < s) (qs : List Rat) : s ∉ tl (rowS qs) := join_no (by show s ∉ [32]; simpa using h32) fun p hp => by
  obtain ⟨q, _, rfl⟩ := List.mem_map.mp hp
  exact txt_no h h47 h2
theorem wr_no {s : Nat} (h : s ≠ 45) (h47 : s ≠ 47) (h32 : s ≠ 32) (h124 : s ≠ 124) (h2 : s < 48 ∨ 57 < s) (rss : List (List Rat)) : s ∉ tl (wrS rss) := join_no (by show s ∉ [32, 124, 32]; simp [h32, h124]) fun p hp => by
  obtain ⟨q, _, rfl⟩ := List.mem_map.mp hp
  exact row_no h h47 h32 h2 q
theorem pre_bar {p rest : List Nat} (h : 124 ∉ p) (i : Nat) (hi : i < p.length) : TL.pre [32, 124, 32] ((p ++ ([32, 124, 32] ++ rest)).drop i) = false := by
  unfold TL.pre
  refine beq_eq_false_iff_ne.mpr fun e => ?_
  have e1 := congrArg (fun l => l[1]?) e
  simp only [List.length_cons, List.length_nil, List.getElem?_cons_succ, List.getElem?_cons_zero] at e1
  rw [List.getElem?_take_of_lt (by decide), List.getElem?_drop] at e1
  by_cases c : i + 1 < p.length
  · rw [List.getElem?_append_left c] at e1
    exact h (List.mem_of_getElem? e1)
  · have : i + 1 = p.length := by omega
    rw [this, List.getElem?_append_right (Nat.le_refl _), Nat.sub_self] at e1
    cases e1
theorem pre_bar0 {p : List Nat} (h : 124 ∉ p) (i : Nat) (hi : i < p.length) : TL.pre [32, 124, 32] (p.drop i) = false := by
  unfold TL.pre
  refine beq_eq_false_iff_ne.mpr fun e => ?_
  have e1 := congrArg (fun l => l[1]?) e
  simp only [List.length_cons, List.length_nil, List.getElem?_cons_succ, List.getElem?_cons_zero] at e1
  rw [List.getElem?_take_of_lt (by decide), List.getElem?_drop] at e1
  exact h (List.mem_of_getElem? e1)
theorem spl_bar : ∀ {ps : List (List Nat)}, ps ≠ [] → (∀ p ∈ ps, 124 ∉ p) → TL.spl [32, 124, 32] 0 [] (TL.joinL [32, 124, 32] ps) = ps
  | [], h, _ => absurd rfl h
  | [p], _, hp => by
    show TL.spl [32, 124, 32] 0 [] p = [p]
    rw [TL.spl_last (acc := []) (pre_bar0 (hp p (by simp)))]
    rfl
  | p :: q :: r, _, hp => by
    show TL.spl [32, 124, 32] 0 [] (p ++ ([32, 124, 32] ++ TL.joinL [32, 124, 32] (q :: r))) = _
    rw [TL.spl_part (acc := []) (by simp) (pre_bar (hp p (by simp))), spl_bar (by simp) fun x hx => hp x (by simp [List.mem_cons] at hx ⊢; exact .inr hx)]
    rfl
theorem split_wr {rss : List (List Rat)} (h : rss ≠ []) : Txt.split (wrS rss) (Str.ofString " | ") = rss.map rowS := by
  refine TL.map_tl_inj ?_
  rw [TL.split_spl _ _ (by show [32, 124, 32] ≠ []; decide) (TL.kind_ok (by decide +kernel))]
  unfold wrS
  rw [TL.join_eq, TL.tl_join]
  refine spl_bar (by simpa using h) fun p hp => ?_
  obtain ⟨x, hx, rfl⟩ := List.mem_map.mp hp
  obtain ⟨qs, _, rfl⟩ := List.mem_map.mp hx
  exact row_no (by decide) (by decide) (by decide) (by decide) qs
/-! what the defs promise -/
def spShR (K : PySem.W.Frag) : Sp := fun vs H Q _ => ∃ (a : Addr) (q : Rat) (n : Nat), vs = [.ref a] ∧ SqT K H a (rp q) ∧ Bd n q ∧ 0 < n ∧ n ≤ 1900 ∧ Q (.str (shR q)) H
def spFig : Sp := fun vs H Q _ => ∃ a : Str, vs = [.str a] ∧ Q (.bl (isFig (tl a))) H
def spRat (K : PySem.W.Frag) : Sp := fun vs H Q _ => ∃ a : Str, vs = [.str a] ∧ a.length ≤ 640 ∧ (∀ q p H', rdR a = some q → Same H H' → SqT K H' p (rp q) → Q (.ref p) H') ∧ (∀ H', rdR a = none → Same H H' → Q .non H')
def spShRw (K : PySem.W.Frag) : Sp := fun vs H Q _ => ∃ (r : Addr) (cs : List V) (qs : List Rat) (n : Nat), vs = [.ref r] ∧ H r = some (.lst cs) ∧ FrN K H n cs qs ∧ 0 < n ∧ n ≤ 1900 ∧ qs.length ≤ 30 ∧ ∀ H', Same H H' → Q (.str (rowS qs)) H'
end Nt

set_option Elab.async false
set_option linter.all false
set_option maxRecDepth 100000
set_option maxHeartbeats 4000000
namespace Nt
open PySem PySem.Spec PyProof.Rows L2 BX EXB Co Ru
open TL (tl numL)
open Fr (Bd)
theorem sum_len {L : Nat} : ∀ {ys : List Str}, (∀ y ∈ ys, y.length ≤ L) → (ys.map (·.length)).sum ≤ ys.length * L
  | [], _ => by simp
  | y :: ys, h => by
    rw [List.map_cons, List.sum_cons, List.length_cons, Nat.succ_mul]
    have h1 := h y (by simp)
    have h2 := sum_len (ys := ys) fun z hz => h z (List.mem_cons_of_mem _ hz)
    omega
theorem join_len {y : Str} {L : Nat} : ∀ {ps : List Str}, (∀ p ∈ ps, p.length ≤ L) → (Txt.join y ps).length ≤ ps.length * (L + y.length) := fun {ps} h => by
  rw [TL.join_eq, TL.len_tl, TL.tl_join]
  induction ps with
  | nil => simp [TL.joinL]
  | cons p ps ih =>
    cases ps with
    | nil =>
      show (tl p).length ≤ _
      rw [← TL.len_tl]
      have := h p (by simp)
      simp
      omega
    | cons r ps =>
      show (tl p ++ (tl y ++ TL.joinL (tl y) ((r :: ps).map tl))).length ≤ _
      have i := ih fun x hx => h x (List.mem_cons_of_mem _ hx)
      have h1 := h p (by simp)
      rw [List.length_append, List.length_append, ← TL.len_tl, ← TL.len_tl, List.length_cons, Nat.succ_mul]
      omega
theorem row_len {qs : List Rat} {n : Nat} (b : ∀ q ∈ qs, Bd n q) (h0 : 0 < n) : (rowS qs).length ≤ qs.length * (2 * n + 4) := by
  have := join_len (y := Str.ofString " ") (ps := qs.map shR) (L := 2 * n + 3) fun p hp => by
    obtain ⟨q, hq, rfl⟩ := List.mem_map.mp hp
    exact shR_len (b q hq) h0
  rw [List.length_map] at this
  exact this
theorem wr_len {rss : List (List Rat)} {n m : Nat} (b : ∀ r ∈ rss, ∀ q ∈ r, Bd n q) (hm : ∀ r ∈ rss, r.length ≤ m) (h0 : 0 < n) : (wrS rss).length ≤ rss.length * (m * (2 * n + 4) + 3) := by
  have := join_len (y := Str.ofString " | ") (ps := rss.map rowS) (L := m * (2 * n + 4)) fun p hp => by
    obtain ⟨q, hq, rfl⟩ := List.mem_map.mp hp
    exact Nat.le_trans (row_len (b q hq) h0) (Nat.mul_le_mul_right _ (hm q hq))
  rw [List.length_map] at this
  exact this
/-! the parts of a text are no longer than it -/
theorem spl_len (S : List Nat) : ∀ (l : List Nat) (k : Nat) (acc : List Nat), ∀ p ∈ TL.spl S k acc l, p.length ≤ acc.length + l.length
  | [], k, acc, p, h => by
    rw [TL.spl_nil] at h
    rw [List.mem_singleton.mp h]
    simp
  | c :: l, 0, acc, p, h => by
    have h : p ∈ (if TL.pre S (c :: l) = true then acc :: TL.spl S (S.length - 1) [] l else TL.spl S 0 (acc ++ [c]) l) := h
    split at h
    · rcases List.mem_cons.mp h with h | h
      · rw [h]; simp
      · have := spl_len S l _ _ p h
        simp at this ⊢
        omega
    · have := spl_len S l _ _ p h
      simp at this ⊢
      omega
  | c :: l, k + 1, acc, p, h => by
    have := spl_len S l k acc p h
    simp at this ⊢
    omega
theorem split_le' {a b : Str} (hb : tl b ≠ []) (hk : b.cps.all (· < 256) = true) : ∀ p ∈ Txt.split a b, p.length ≤ a.length := fun p hp => by
  have h := TL.split_spl a b hb (TL.kind_ok hk)
  have hm : tl p ∈ (Txt.split a b).map tl := List.mem_map.mpr ⟨p, hp, rfl⟩
  rw [h] at hm
  have := spl_len _ _ _ _ _ hm
  rw [TL.len_tl, TL.len_tl]
  simpa using this
/-! rows of what was read -/
structure FrO (K : PySem.W.Frag) (H : Hp) (cs : List V) (os : List (Option Rat)) : Prop where
  len : cs.length = os.length
  at_ : ∀ (i : Nat) (v : V), cs[i]? = some v → ∃ o, os[i]? = some o ∧ ((o = none ∧ v = .non) ∨ ∃ q p, o = some q ∧ v = .ref p ∧ SqT K H p (rp q))
section
variable {K : PySem.W.Frag} {H H' : Hp} {cs : List V} {os : List (Option Rat)}
theorem FrO.keep (h : FrO K H cs os) (k : ∀ a xs, SqT K H a xs → SqT K H' a xs) : FrO K H' cs os :=
  ⟨h.len, fun i v e => let ⟨o, e1, e2⟩ := h.at_ i v e; ⟨o, e1, e2.imp id fun ⟨q, p, a, b, c⟩ => ⟨q, p, a, b, k _ _ c⟩⟩⟩
theorem FrO.same (h : FrO K H cs os) (e : Same H H') : FrO K H' cs os := h.keep fun _ _ => seqT e
theorem FrO.nil : FrO K H [] [] := ⟨rfl, fun i v e => by simp at e⟩
theorem FrO.snoc {v : V} {o : Option Rat} (h : FrO K H cs os) (hv : (o = none ∧ v = .non) ∨ ∃ q p, o = some q ∧ v = .ref p ∧ SqT K H p (rp q)) : FrO K H (cs ++ [v]) (os ++ [o]) := by
  refine ⟨by rw [List.length_append, List.length_append, h.len]; rfl, fun i w e => ?_⟩
  by_cases c : i < cs.length
  · rw [List.getElem?_append_left c] at e
    obtain ⟨o', e1, e2⟩ := h.at_ i w e
    exact ⟨o', by rw [List.getElem?_append_left (by rw [← h.len]; exact c)]; exact e1, e2⟩
  · have : i = cs.length := by
      have := (List.getElem?_eq_some_iff.mp e).1
      rw [List.length_append, List.length_singleton] at this
      omega
    subst this
    rw [List.getElem?_append_right (Nat.le_refl _), Nat.sub_self] at e
    cases e
    exact ⟨o, by rw [h.len, List.getElem?_append_right (Nat.le_refl _), Nat.sub_self]; rfl, hv⟩
def dO : Option Rat → PyData
  | none => .none
  | some q => dR q
theorem FrO.dp : ∀ {cs : List V} {os : List (Option Rat)}, FrO K H cs os → DpAll K H cs (os.map dO)
  | [], [], _ => .nil
  | [], _ :: _, h => by have := h.len; cases this
  | _ :: _, [], h => by have := h.len; cases this
  | v :: cs, o :: os, h => by
    refine .cons ?_ (FrO.dp ⟨by have := h.len; simpa using this, fun i v e => h.at_ (i + 1) v e⟩)
    obtain ⟨o', e1, e2⟩ := h.at_ 0 v rfl
    cases e1
    rcases e2 with ⟨rfl, rfl⟩ | ⟨q, p, rfl, rfl, hp⟩
    · exact .non
    · exact Co.dp_r hp
theorem any_none : ∀ os : List (Option Rat), ((os.map dO).any fun z => PyData.eqv z .none) = os.any Option.isNone
  | [] => rfl
  | none :: os => rfl
  | some q :: os => by
    rw [List.map_cons, List.any_cons, List.any_cons, any_none os]
    rfl
theorem os_lay : ∀ os : List (Option Rat), PyData.canLayAll0 (os.map dO) = true
  | [] => rfl
  | none :: os => by
    show (PyData.canLay0 .none && PyData.canLayAll0 (os.map dO)) = true
    rw [os_lay os]; rfl
  | some q :: os => by
    show (PyData.canLay0 (dR q) && PyData.canLayAll0 (os.map dO)) = true
    rw [os_lay os]; rfl
theorem os_dep : ∀ os : List (Option Rat), PyData.depthAll (os.map dO) ≤ 1
  | [] => Nat.zero_le _
  | none :: os => by
    show max (PyData.depth .none) (PyData.depthAll (os.map dO)) ≤ 1
    have := os_dep os
    have : PyData.depth .none = 0 := rfl
    omega
  | some q :: os => by
    show max (PyData.depth (dR q)) (PyData.depthAll (os.map dO)) ≤ 1
    have := os_dep os
    have : PyData.depth (dR q) = 1 := rfl
    omega
theorem os_shaped (os : List (Option Rat)) : SeqAt.shaped (.list (os.map dO)) = true := by
  unfold SeqAt.shaped
  show (PyData.canLayAll0 (os.map dO) && _) = true
  rw [os_lay, Bool.true_and]
  refine decide_eq_true ?_
  have := os_dep os
  show PyData.depthAll (os.map dO) + 1 ≤ 64
  omega
theorem FrO.frn {qs : List Rat} {n : Nat} (h : FrO K H cs (qs.map some)) (b : ∀ q ∈ qs, Bd n q) : FrN K H n cs qs := by
  refine ⟨by rw [h.len, List.length_map], fun i v e => ?_⟩
  obtain ⟨o, e1, e2⟩ := h.at_ i v e
  rw [List.getElem?_map] at e1
  cases eq : qs[i]? with
  | none => rw [eq] at e1; cases e1
  | some q =>
    rw [eq] at e1
    cases e1
    rcases e2 with ⟨z, _⟩ | ⟨q', p, z, rfl, hp⟩
    · cases z
    · cases z
      exact ⟨p, q, rfl, rfl, hp, b q (List.mem_of_getElem? eq)⟩
end
theorem no_none : ∀ {os : List (Option Rat)}, os.any Option.isNone = false → ∃ qs : List Rat, os = qs.map some
  | [], _ => ⟨[], rfl⟩
  | none :: os, h => by cases h
  | some q :: os, h => by
    obtain ⟨qs, e⟩ := no_none (os := os) h
    exact ⟨q :: qs, by rw [e]; rfl⟩
noncomputable def osOf (a : Str) : List (Option Rat) := (Txt.split a (Str.ofString " ")).map rdR
theorem os_bd {a : Str} {qs : List Rat} (h : osOf a = qs.map some) : ∀ q ∈ qs, Bd (4 * a.length) q := fun q hq => by
  have hm : some q ∈ osOf a := by rw [h]; exact List.mem_map.mpr ⟨q, hq, rfl⟩
  obtain ⟨w, hw, e⟩ := List.mem_map.mp hm
  refine txt_bd q ?_
  rw [← rd_some e]
  exact split_le' (b := Str.ofString " ") (by show [32] ≠ []; decide) (by decide +kernel) w hw
theorem os_row {qs : List Rat} (h : qs ≠ []) : osOf (rowS qs) = qs.map some := by
  unfold osOf
  rw [split_row h, List.map_map]
  exact List.map_congr_left fun q _ => rd_sh q
def spRowOf (K : PySem.W.Frag) : Sp := fun vs H Q _ => ∃ a : Str, vs = [.str a] ∧ a.length ≤ 640 ∧
  (∀ qs D cs H', osOf a = qs.map some → Same H H' → H D = none → H' D = some (.lst cs) → FrN K H' (4 * a.length) cs qs → Q (.ref D) H') ∧ ((osOf a).any Option.isNone = true → ∀ H', Same H H' → Q .non H')
/-! repr of plain signs -/
def Plain (c : Nat) : Prop := 32 ≤ c ∧ c ≤ 126 ∧ c ≠ 39 ∧ c ≠ 34 ∧ c ≠ 92
theorem print_ok : ∀ c, c < 128 → 32 ≤ c → c ≤ 126 → Unicode.isPrintable c = true := by decide +kernel
theorem rep_char {c : Nat} (h : Plain c) : Builtin.Str.reprChar 39 c = [c] := by
  obtain ⟨h1, h2, h3, h4, h5⟩ := h
  unfold Builtin.Str.reprChar
  dsimp only
  rw [if_neg (by simp; omega), if_neg (by simp; omega), if_neg (by simp; omega), if_neg (by simp; omega), if_pos (print_ok c (by omega) h1 h2)]
theorem rep_fold : ∀ (l : List Nat) (acc : Array Nat), (∀ c ∈ l, Plain c) → (l.foldl (fun out c => out ++ (Builtin.Str.reprChar 39 c).toArray) acc).toList = acc.toList ++ l
  | [], acc, _ => by simp
  | c :: l, acc, h => by
    rw [List.foldl_cons, rep_fold l _ fun x hx => h x (List.mem_cons_of_mem _ hx), rep_char (h c (by simp))]
    simp
theorem rep_plain {y : Str} (h : ∀ c ∈ tl y, Plain c) : reprText y = (Str.ofString "'" ++ y) ++ Str.ofString "'" := by
  have q : reprQuote y = 39 := by
    unfold reprQuote
    have : y.cps.contains 39 = false := by
      cases e : y.cps.contains 39 with
      | false => rfl
      | true =>
        have hm : 39 ∈ tl y := by
          have := Array.contains_iff.mp e
          exact Array.mem_toList_iff.mpr this
        exact absurd rfl (h 39 hm).2.2.1
    rw [this]
    rfl
  refine TL.ext_tl ?_
  rw [TL.tl_append, TL.tl_append]
  unfold reprText
  rw [q]
  show ((y.cps.foldl _ #[39]).push 39).toList = _
  rw [Array.toList_push, ← Array.foldl_toList, rep_fold _ _ h]
  rfl
theorem plain_row (rss : List (List Rat)) : ∀ c ∈ tl (wrS rss), Plain c := fun c hc => by
  have k : c = 45 ∨ c = 47 ∨ c = 32 ∨ c = 124 ∨ (48 ≤ c ∧ c ≤ 57) := by
    by_cases h1 : c = 45
    · exact .inl h1
    by_cases h2 : c = 47
    · exact .inr (.inl h2)
    by_cases h3 : c = 32
    · exact .inr (.inr (.inl h3))
    by_cases h4 : c = 124
    · exact .inr (.inr (.inr (.inl h4)))
    by_cases h5 : 48 ≤ c ∧ c ≤ 57
    · exact .inr (.inr (.inr (.inr h5)))
    · exact absurd hc (wr_no h1 h2 h3 h4 (by omega) rss)
  unfold Plain
  omega
end Nt

set_option Elab.async false
set_option linter.all false
set_option maxRecDepth 100000
set_option maxHeartbeats 2000000
/-! Zq: zip of a tuple and a list, by KE's zip over any two iterators. -/
namespace Zq
open PySem PySem.Spec PyProof.Rows L2
/-- a tuple at a and a list at b, item by item, in new pairs -/
def Itm (K : PySem.W.Frag) (a b : Addr) : It :=
  ⟨fun i H => ∃ (xs ys : List V) (x y : V), SqT K H a xs ∧ SqL K H b ys ∧ xs[i]? = some x ∧ ys[i]? = some y,
    fun i H v H' => ∃ T x y, v = .ref T ∧ H T = none ∧ H' = upd H T (.tup [x, y]) ∧ (∀ xs, SqT K H a xs → xs[i]? = some x) ∧ ∀ ys, SqL K H b ys → ys[i]? = some y,
    fun i H => ∃ xs ys : List V, SqT K H a xs ∧ SqL K H b ys ∧ i ≤ xs.length ∧ i ≤ ys.length ∧ (i = xs.length ∨ i = ys.length)⟩
theorem sep_of {z TI TO i1 i2 a b : Addr} (D : ZipApart z TI TO i1 i2 a b) : ZipSep2 z TI TO i1 i2 [i1, a] [i2, b] where
  TIz := D.TIz
  TOz := D.TOz
  TITO := D.TITO
  TIi1 := D.TIi1
  mem1 := by simp
  zf1 := by simpa using ⟨D.i1z.symm, D.l1z.symm⟩
  Tf1 := by simpa using ⟨D.TOi1, D.l1TO.symm⟩
  TIi2 := D.TIi2
  mem2 := by simp
  zf2 := by simpa using ⟨D.i2z.symm, D.l2z.symm⟩
  Tf2 := by simpa using ⟨D.TOi2, D.l2TO.symm⟩
  sep1_2 := by simpa using ⟨D.i12, D.l2i1.symm⟩
  sep2_1 := by simpa using ⟨D.i12.symm, D.l1i2.symm⟩
/-- how the five new cells stand at turn i -/
def Cells (z TI TO i1 i2 a b : Addr) (i : Nat) (h : Heap) : Prop := IsZip h z TI TO .none ∧ IsPair h TI (.ref i1) (.ref i2) ∧ (∃ x y, IsPair h TO x y) ∧ h.IsTupleIter i1 a i ∧ h.IsListIter i2 b i
theorem five {z TI TO i1 i2 a b : Addr} {i : Nat} {h : Heap} (st : Cells z TI TO i1 i2 a b i h) : ∀ c ∈ [z, TI, TO, i1, i2], ∃ o, h.get? c = some o ∧ ∀ v, o.data ≠ .cell v := by
  obtain ⟨hz, hTI, ⟨x, y, hTO⟩, ⟨o1, e1, _, d1⟩, ⟨o2, e2, _, d2⟩⟩ := st
  intro c hc
  simp only [List.mem_cons, List.not_mem_nil, or_false] at hc
  rcases hc with rfl | rfl | rfl | rfl | rfl
  · exact ⟨_, hz, fun v q => nomatch q⟩
  · exact ⟨_, hTI, fun v q => nomatch q⟩
  · exact ⟨_, hTO, fun v q => nomatch q⟩
  · exact ⟨o1, e1, fun v q => by rw [d1] at q; cases q⟩
  · exact ⟨o2, e2, fun v q => by rw [d2] at q; cases q⟩
theorem turn_zipQ {P : Program} {w : World} {K : PySem.W.Frag} {elts : List Expr} {kk : Nat} {tpos : Pos} {a b z TI TO i1 i2 : Addr} (D : ZipApart z TI TO i1 i2 a b) :
    Turn P w K (.Tuple elts kk tpos) (Itm K a b) [z, TI, TO, i1, i2] z (Cells z TI TO i1 i2 a b) where
  mem := by simp
  obj := fun i h st => five st
  keep := fun i h h' ⟨hz, hTI, ⟨x, y, hTO⟩, h1, h2⟩ k =>
    ⟨k z (by simp) _ hz, k TI (by simp) _ hTI, ⟨x, y, k TO (by simp) _ hTO⟩, h1.at fun o q => k i1 (by simp) o q, h2.at fun o q => k i2 (by simp) o q⟩
  item := by
    intro X hP hw hK hc i pins s σ H E I hf st hg
    subst hP hw hK
    have old := five st
    obtain ⟨hz, hTI, ⟨x0, y0, hTO⟩, h1, h2⟩ := st
    obtain ⟨xs, ys, x, y, hqx, hqy, hx, hy⟩ := hg
    obtain ⟨its, rv, p, _⟩ := I.tuple hqx
    obtain ⟨its2, rv2, p2, _⟩ := I.list hqy
    obtain ⟨u, hu, ru⟩ := rv.get hx
    obtain ⟨u2, hu2, ru2⟩ := rv2.get hy
    have k1 : i < its.toArray.size := by
      have := (List.getElem?_eq_some_iff.mp hu).1
      simpa using this
    have k2 : i < its2.toArray.size := by
      have := (List.getElem?_eq_some_iff.mp hu2).1
      simpa using this
    have hh : X.A.in1.handled = none := I.ok.hd hc
    have hzl : z < s.heap.objs.size := Heap.lt_size hz
    refine wpAny_pyNext_zipD2_item (sep_of D) (Draws.tuple hh i1 a D.l1i1 its.toArray) (Draws.list hh i2 b D.l2i2 its2.toArray) hz hTI hTO ⟨h1, p⟩ ⟨h2, p2.isList⟩ k1 k2 fun v1 v2 h' tk y1 y2 z' TO' s1 s2 hT hsz hk => ?_
    obtain rfl : v1 = u := by
      have e : its[i]? = some v1 := by simpa using y1
      rw [hu] at e
      exact (Option.some.inj e).symm
    obtain rfl : v2 = u2 := by
      have e : its2[i]? = some v2 := by simpa using y2
      rw [hu2] at e
      exact (Option.some.inj e).symm
    refine ⟨_, rfl, wpAny_letOwnedTupleGo_zip (s := { s with heap := h', toks := tk }) z' fun h'' z'' sb => ?_⟩
    have hT2 : h''.get? s.heap.objs.size = some { cls := .type "tuple", data := .seq #[v1, v2] } := (sb.2 _ (Nat.ne_of_gt hzl)).trans hT
    have new : ObjOk X.prog X.w (upd H s.heap.objs.size (.tup [x, y])) h'' s.heap.objs.size (.tup [x, y]) := ⟨show 2 ≤ sizeLine by decide, [v1, v2], .cons ru (.cons ru2 .nil), ⟨_, hT2, rfl, _, rfl⟩⟩
    have I1 : Inv X pins σ (upd H s.heap.objs.size (.tup [x, y])) { s with heap := h'', toks := tk } :=
      I.turnedNew (t' := tk) (ch := [z, TI, TO, i1, i2]) (fun c o hb q => by
        simp only [List.mem_cons, List.not_mem_nil, or_false, not_or] at hb
        exact (sb.2 c hb.1).trans (hk c o hb.1 hb.2.2.1 hb.2.2.2.1 hb.2.2.2.2 q)) hf (Nat.le_refl _) new
    refine ⟨.ref s.heap.objs.size, _, I1, rfl, ⟨_, x, y, rfl, I.hok.fresh (Nat.le_refl _), rfl, fun l hl => by rw [I.tuple_inj hl hqx]; exact hx, fun l hl => by rw [I.list_inj hl hqy]; exact hy⟩,
      ⟨z'', (sb.2 _ D.TIz).trans (hk _ _ D.TIz D.TITO D.TIi1 D.TIi2 hTI), ⟨v1, v2, (sb.2 _ D.TOz).trans TO'⟩, s1.1.at fun o q => (sb.2 _ D.i1z).trans q, s2.1.at fun o q => (sb.2 _ D.i2z).trans q⟩, fun c hcm => ?_⟩
    obtain ⟨o, eo, _⟩ := old c hcm
    rw [upd_ne (Nat.ne_of_lt (Heap.lt_size eo))]
    exact (hf c hcm).1
  done := by
    intro X hP hw hK hc i pins s σ H E I hf st hg
    subst hP hw hK
    obtain ⟨hz, hTI, ⟨x0, y0, hTO⟩, h1, h2⟩ := st
    obtain ⟨xs, ys, hqx, hqy, l1, l2, hend⟩ := hg
    obtain ⟨its, rv, p, _⟩ := I.tuple hqx
    obtain ⟨its2, rv2, p2, _⟩ := I.list hqy
    have e1 : its.toArray.size = xs.length := by simpa using rv.length.symm
    have e2 : its2.toArray.size = ys.length := by simpa using rv2.length.symm
    have hh : X.A.in1.handled = none := I.ok.hd hc
    exact wpAny_pyNext_zipD2_end (sep_of D) (Draws.tuple hh i1 a D.l1i1 its.toArray) (Draws.list hh i2 b D.l2i2 its2.toArray) hz hTI hTO ⟨h1, p⟩ ⟨h2, p2.isList⟩ (by omega) (by omega) (by rw [e1, e2]; exact hend) fun h' tk hk =>
      ⟨rfl, I.turnedL (t' := tk) (ch := [z, TI, TO, i1, i2]) (fun c o hb q => by
        simp only [List.mem_cons, List.not_mem_nil, or_false, not_or] at hb
        exact hk c o hb.1 hb.2.2.1 hb.2.2.2.1 hb.2.2.2.2 q) hf⟩
  self := fun A i s Q E st h => wpAny_pyIter_zip st.1 h
def iZipQ (K : PySem.W.Frag) (ta : TA) : TI := fun σ H R => ta σ H fun vs H1 => ∃ a b xs ys, vs = [.ref a, .ref b] ∧ SqT K H1 a xs ∧ SqL K H1 b ys ∧ R (Itm K a b) H1
theorem pi_zipQ {X : Cx} {e e2 : Expr} {ta : TA} {p pos tpos : Pos} {elts : List Expr} {kk : Nat} (hg : Gl X "zip") (hm : X.mg "zip" = none) (ha : PA X [e, e2] ta)
    (hs : starEach [e, e2] X.env = (false, eval e X.env) :: starEach [e2] X.env := by rfl) (hpl : (backTo pos (starEach [e2] X.env)).any (·.1) = false := by rfl) :
    PI X (.Tuple elts kk tpos) (.Call (.Name "zip" p) [e, e2] [] pos) (iZipQ X.K ta) := by
  refine ⟨fun pins s σ H R I h => ?_⟩
  refine Call_ (ld_blt I hg hm PyProof.Rows.boot_zip (PyProof.Rows.callWith_type1 (thn (ha.run pos pins s σ H _ I h) fun us s1 ⟨vs, H1, I1, r1, q1⟩ => ?_) hs hpl))
  obtain ⟨a, b, xs, ys, ex, hqx, hqy, q⟩ := q1
  subst ex
  obtain _ | ⟨rfl, _ | ⟨rfl, _ | _⟩⟩ := r1
  obtain ⟨its, rv, p1, _⟩ := I1.tuple hqx
  obtain ⟨its2, rv2, p2, _⟩ := I1.list hqy
  have la : a < s1.heap.objs.size := by
    obtain ⟨o, e, _⟩ := id p1
    exact Heap.lt_size e
  refine zip_begins2 (begins_tuple a its.toArray) (begins_list b its2.toArray) p1 p2.isList fun h' hz hTI hTO h1 h2 hsz hk => wpAny_pyIter_zip hz ?_
  have I2 : Inv X pins σ H1 { s1 with heap := h' } := I1.kept (t' := s1.toks) hk
  refine ⟨s1.heap.objs.size + 4, [s1.heap.objs.size + 4, s1.heap.objs.size + 2, s1.heap.objs.size + 3, s1.heap.objs.size, s1.heap.objs.size + 1], _, _, H1, rfl, I2, turn_zipQ (PySem.W.ktu_apart s1.heap.objs.size a b la p2.lt), ⟨hz, hTI, ⟨_, _, hTO⟩, ⟨_, h1, rfl, rfl⟩, ⟨_, h2, rfl, rfl⟩⟩, fun c hcm => ?_, q⟩
  have hle : s1.heap.objs.size ≤ c := by
    simp only [List.mem_cons, List.not_mem_nil, or_false] at hcm
    rcases hcm with rfl | rfl | rfl | rfl | rfl <;> first | exact Nat.le_add_right _ _ | exact Nat.le_refl _
  exact I1.fpOk hle (I1.hok.fresh hle)
theorem walk_zipQ {K : PySem.W.Frag} {a b : Addr} {xs ys : List V} {n : Nat} (h1 : n = xs.length) (h2 : n = ys.length) : Walk (Itm K a b) n (fun H => SqT K H a xs ∧ SqL K H b ys) (YPair (fun i => xs[i]?) (fun i => ys[i]?)) := by
  refine ⟨fun i _ hi q => ?_, fun _ q => ⟨xs, ys, q.1, q.2, by omega, by omega, .inl h1⟩, fun i H v H' _ q y => ?_⟩
  · have k1 : i < xs.length := by omega
    have k2 : i < ys.length := by omega
    exact ⟨xs, ys, xs[i], ys[i], q.1, q.2, List.getElem?_eq_getElem k1, List.getElem?_eq_getElem k2⟩
  · obtain ⟨T, x, z, h1, h2, h3, h4, h5⟩ := y
    exact ⟨T, x, z, h1, h2, h3, h4 xs q.1, h5 ys q.2⟩
end Zq

set_option Elab.async false
set_option linter.all false
set_option maxRecDepth 100000
set_option maxHeartbeats 8000000
namespace K67
open PySem PySem.Spec PyProof.Rows L2 BX EXB Co Ru
open Dz Cs Hr Gs Nt
open Rs (Rsp Rv Ret tYes_of dV datR Flat Okr spShares spRowsL spTotal spCopied eqv_dR)
open Fr (Bd)
open TL (tl numL)
def topS (i : Nat) : Stmt := PySem.Challenge.pw_besttelling_k67_cases_written.main.body.getD i (.Pass ⟨0, 0, 0, 0⟩)
abbrev sNcInit : Stmt := inClass (topS 3) 0
abbrev sWhole : Stmt := topS 5
abbrev sIsR : Stmt := topS 6
abbrev sPlus : Stmt := topS 7
abbrev sTimes : Stmt := topS 8
abbrev sTotal : Stmt := topS 9
abbrev sLowest : Stmt := topS 10
abbrev sDiv : Stmt := topS 11
abbrev sListOf : Stmt := topS 15
abbrev sShare : Stmt := topS 16
abbrev sRRow : Stmt := topS 17
abbrev sWrong : Stmt := topS 18
abbrev sCopied : Stmt := topS 19
abbrev sCInit : Stmt := inClass (topS 21) 0
abbrev sCWorlds : Stmt := inClass (topS 21) 1
abbrev sCDeeds : Stmt := inClass (topS 21) 2
abbrev sCShares : Stmt := inClass (topS 21) 3
abbrev sCHearer : Stmt := inClass (topS 21) 4
abbrev sCTeller : Stmt := inClass (topS 21) 5
abbrev sCWith : Stmt := inClass (topS 21) 6
abbrev sCLen : Stmt := inClass (topS 21) 7
abbrev sCEq : Stmt := inClass (topS 21) 8
abbrev sCStr : Stmt := inClass (topS 21) 9
abbrev sCRepr : Stmt := inClass (topS 21) 10
abbrev sChkS : Stmt := topS 22
abbrev sChkG : Stmt := topS 23
abbrev sShR : Stmt := topS 25
abbrev sRatOf : Stmt := topS 26
abbrev sFig : Stmt := topS 27
abbrev sShRw : Stmt := topS 28
abbrev sRowOf : Stmt := topS 29
abbrev sShown : Stmt := topS 32
abbrev sRead67 : Stmt := topS 33
abbrev sShRws : Stmt := topS 34
abbrev sRowsIn : Stmt := topS 35
abbrev sLeft : Stmt := topS 37
abbrev sDigit : Stmt := topS 38
abbrev sLow : Stmt := topS 39
abbrev sLPlus : Stmt := topS 40
abbrev sLTimes : Stmt := topS 41
abbrev sLSum : Stmt := topS 42
abbrev sParted : Stmt := topS 43
abbrev sGain : Stmt := topS 44
abbrev sGains : Stmt := topS 45
abbrev sParts : Stmt := topS 46
abbrev sRows : Stmt := topS 47
abbrev sLRatT : Stmt := topS 48
abbrev sLRowT : Stmt := topS 49
abbrev sLRowsT : Stmt := topS 50
abbrev sLText : Stmt := topS 51
abbrev sRight67 : Stmt := topS 52
abbrev sGso67 : Stmt := topS 53
abbrev sLaw : Stmt := topS 54
structure NcT (K : PySem.W.Frag) (mg : Str → Option Value) (C fI : Addr) : Prop where
  g : mg "NoCase" = some (.ref C)
  i : PySem.W.findIn K (.ref C) "__init__" = some (some (.ref fI))
  t : PySem.W.typeIn K (.ref fI) = some (.type "function")
  xf : XfC K C
  ex : ExcC K C
  o : OexC K C
  n1 : PySem.W.findIn K (.ref C) "part" = some none
  n2 : PySem.W.findIn K (.ref C) "number" = some none
  vV : PySem.W.findCls K (.type "ValueError") (.type "type") "__init__" = some (.val (.builtin "ValueError.__init__"))
  nn : PySem.W.exmOne K (.ref C) (.ref C) = some true
  kV : PySem.W.kitOne K (.ref C) (.type "ValueError") = some true
structure CaT (K : PySem.W.Frag) (mg : Str → Option Value) (C fI : Addr) : Prop where
  cl : Cls K C
  gC : mg "Case" = some (.ref C)
  n1 : NoAttr K C "own_shares"
  n2 : NoAttr K C "own_hearer"
  n3 : NoAttr K C "own_teller"
  mkC : Mk K C fI
  g5 : ∃ t, mg "MOST_WORLDS" = some (.int 5 t)
  g6 : ∃ t, mg "MOST_DEEDS" = some (.int 6 t)
section
variable {P : Program} {w : World} {K : PySem.W.Frag} {mg : Str → Option Value} {base : Heap}
theorem scDiv : FnScope ["one", "other"] ["one", "other"] (defScope sDiv) := ⟨rfl, rfl, rfl, by decide +kernel, rfl, by decide +kernel, by decide +kernel⟩
theorem ok_div {f : Addr} {fd : FuncData} {k : Nat} (F : Fun K "divisor" "divisor" sDiv f fd) (B : Blt mg) : FnOk P w K mg base CX0 (k + 1) f fd ["one", "other"] spDiv := by
  refine F.ok scDiv (fun vs H Q E h => ?_) (fun cdv A outer s H vs Q E hr h => ?_)
  · obtain ⟨a, b, rfl, _⟩ := h
    rfl
  · obtain ⟨a, b, rfl, q⟩ := h
    refine ⟨_, pss_cons (ps_while PassesOwn.never (pt_cmpR op_ne (pv 1) pe_int (nomark _))
        (pss_one (ps_par (i := 0) (j := 1) (by rfl) scDiv.nd rfl rfl (by decide) rfl rfl (pa_cons (pv 1) (pa_cons (pe_op op_modN (pv 0) (pv 1)) pa_nil)) (by rfl))))
      (pss_one (ps_ret (pe_callB call_abs (by rfl) B.abs_ (by decide +kernel) (pa_cons (pv 0) pa_nil)))), ?_⟩
    refine ⟨fun m σ H' => ∃ x y : Int, σ = [some (.int x), some (.int y)] ∧ m = y.natAbs ∧ Int.gcd x y = Int.gcd a b ∧ H' = H, ⟨_, a, b, rfl, rfl, rfl, rfl⟩, ?_⟩
    rintro m σ H' ⟨x, y, rfl, rfl, hg, rfl⟩
    refine ⟨.int y, rfl, rfl, _, rfl, ite2 (fun c => ?_) (fun c => ?_)⟩
    · have hy : y ≠ 0 := fun e => by
        subst e
        exact absurd c (by decide)
      refine ⟨fun σ' H'' => ∃ x' y' : Int, σ' = [some (.int x'), some (.int y')] ∧ y'.natAbs < y.natAbs ∧ Int.gcd x' y' = Int.gcd a b ∧ H'' = H', ?_, ?_⟩
      · rintro σ' H'' ⟨x', y', e1, e2, e3, e4⟩
        exact ⟨y'.natAbs, e2, x', y', e1, rfl, e3, e4⟩
      · refine ⟨.int y, rfl, .int x, rfl, .int y, rfl, x, y, rfl, rfl, hy, _, _, rfl, y, _, rfl, Fr.fmod_abs x hy, ?_, rfl⟩
        rw [Fr.gcd_step]
        exact hg
    · have hy : y = 0 := by
        by_cases e : y = 0
        · exact e
        · exact absurd (by simp [e]) c
      subst hy
      rw [Int.gcd_zero_right] at hg
      refine ⟨.int x, rfl, x, rfl, ?_⟩
      have e : (if x < 0 then -x else x) = (Int.gcd a b : Int) := by
        rw [← hg]
        split <;> omega
      rw [e]
      exact q
theorem scLowest : FnScope ["top", "bottom", "by"] ["top", "bottom"] (defScope sLowest) := ⟨rfl, rfl, rfl, by decide +kernel, rfl, by decide +kernel, by decide +kernel⟩
theorem ok_lowest {f fD : Addr} {fd fdD : FuncData} {k : Nat} (F : Fun K "lowest" "lowest" sLowest f fd) (GD : FnOk P w K mg base CX0 k fD fdD ["one", "other"] spDiv) (kD : PySem.W.keepIn K (.ref fD) = true) (bD : Binds K fdD ["one", "other"] []) (gD : mg "divisor" = some (.ref fD)) : FnOk P w K mg base CX0 (k + 1) f fd ["top", "bottom"] spLow := by
  refine F.ok scLowest (fun vs H Q E h => ?_) (fun cdv A outer s H vs Q E hr h => ?_)
  · obtain ⟨a, b, n, rfl, _⟩ := h
    rfl
  · obtain ⟨t, b, n, rfl, ht, hb, h0, hn, q⟩ := h
    refine ⟨_, pss_cons (ps_set (i := 2) scLowest.nd rfl (.inl rfl) (pe_call GD hr (by rfl) gD kD bD .nil pass0 (pa_cons (pv 0) (pa_cons (pv 1) pa_nil))))
      (pss_cons (ps_if (pt_cmpR op_lt (pv 1) pe_int (nomark _)) (pss_one (ps_set (i := 2) scLowest.nd rfl (.inl rfl) (pe_un un_neg (pv 2)))) pss_nil)
      (pss_one (ps_ret (pe_tup (pa_cons (pe_op op_fdivZ (pv 0) (pv 2)) (pa_cons (pe_op op_fdivZ (pv 1) (pv 2)) pa_nil)))))), ?_⟩
    have hg := Fr.gcd_pos (t := t) h0
    have hgb := gcd_bd (t := t) h0 hb
    have hn0 : 0 < n := by
      cases n with
      | zero => simp at hb; omega
      | succ n => omega
    refine ⟨_, rfl, _, rfl, t, b, rfl, ?_⟩
    refine ⟨_, rfl, b, 0, rfl, rfl, _, rfl, ite2 (fun c => ?_) (fun c => ?_)⟩
    · have hb0 : b < 0 := of_decide_eq_true c
      refine ⟨_, rfl, _, rfl, ?_⟩
      have d : ∀ i : Int, CDivZ i (-(Int.gcd t b : Int)) := fun i => divZ (n := n) (by omega) (by rw [Int.natAbs_neg]; exact hgb) hn0 (by omega)
      refine ⟨_, rfl, _, rfl, t, _, rfl, rfl, d _, _, rfl, _, rfl, b, _, rfl, rfl, d _, (by show 2 ≤ sizeLine; decide), fun p hp => ?_⟩
      have z := q p hp
      rw [rp, ← Fr.lowN_num hb0, ← Fr.lowN_den hb0] at z
      exact z
    · have hb0 : 0 < b := by
        have : ¬ b < 0 := of_decide_eq_false (Bool.eq_false_iff.mpr c)
        omega
      have d : ∀ i : Int, CDivZ i (Int.gcd t b : Int) := fun i => divZ (n := n) (by omega) hgb hn0 (by omega)
      refine ⟨_, rfl, _, rfl, t, _, rfl, rfl, d _, _, rfl, _, rfl, b, _, rfl, rfl, d _, (by show 2 ≤ sizeLine; decide), fun p hp => ?_⟩
      have z := q p hp
      rw [rp, ← Fr.low_num hb0, ← Fr.low_den hb0] at z
      exact z

theorem scPlus : FnScope ["one", "other"] ["one", "other"] (defScope sPlus) := ⟨rfl, rfl, rfl, by decide +kernel, rfl, by decide +kernel, by decide +kernel⟩
theorem ok_Plus {f fC : Addr} {fd fdC : FuncData} {k : Nat} (F : Fun K "plus" "plus" sPlus f fd) (GC : FnOk P w K mg base CX0 k fC fdC ["top", "bottom"] spLow) (kC : PySem.W.keepIn K (.ref fC) = true) (bC : Binds K fdC ["top", "bottom"] []) (gC : mg "lowest" = some (.ref fC)) :
    FnOk P w K mg base CX0 (k + 1) f fd ["one", "other"] (spBin K (· + ·)) := by
  refine F.ok scPlus (fun vs H Q E h => ?_) (fun cdv A outer s H vs Q E hr h => ?_)
  · obtain ⟨a, b, x, y, n, m, rfl, _⟩ := h
    rfl
  · obtain ⟨a, b, x, y, n, m, rfl, hx, hy, bx, by_, hn, q⟩ := h
    refine ⟨_, pss_one (ps_ret (pe_call GC hr (by rfl) gC kC bC .nil pass0 (pa_cons (pe_op op_add (pe_op op_mulW (pe_ix ix_tup (pv 0) pe_int (fun _ _ => rfl)) (pe_ix ix_tup (pv 1) pe_int (fun _ _ => rfl))) (pe_op op_mulW (pe_ix ix_tup (pv 1) pe_int (fun _ _ => rfl)) (pe_ix ix_tup (pv 0) pe_int (fun _ _ => rfl)))) (pa_cons (pe_op op_mulW (pe_ix ix_tup (pv 0) pe_int (fun _ _ => rfl)) (pe_ix ix_tup (pv 1) pe_int (fun _ _ => rfl))) pa_nil)))), ?_⟩
    refine ⟨.ref a, rfl, a, rp x, 0, .int x.num, rfl, rfl, hx, at0 x, .ref b, rfl, b, rp y, 1, .int (y.den : Int), rfl, rfl, hy, at1 y, _, _, rfl, rfl, wmul bx.1 by_.dn (by omega), .ref b, rfl, b, rp y, 0, .int y.num, rfl, rfl, hy, at0 y, .ref a, rfl, a, rp x, 1, .int (x.den : Int), rfl, rfl, hx, at1 x, _, _, rfl, rfl, wmul by_.1 bx.dn (by omega), _, _, rfl, rfl, .ref a, rfl, a, rp x, 1, .int (x.den : Int), rfl, rfl, hx, at1 x, .ref b, rfl, b, rp y, 1, .int (y.den : Int), rfl, rfl, hy, at1 y, _, _, rfl, rfl, wmul bx.dn by_.dn (by omega), _, _, n + m + 1, rfl, Fr.add_bd (Fr.mul_bd bx.1 by_.dn) (by rw [Nat.add_comm n m]; exact Fr.mul_bd by_.1 bx.dn), Fr.up (Fr.mul_bd bx.dn by_.dn) (Nat.le_succ _), Fr.dd_ne x y, by omega, fun p hp => ?_⟩
    have z := q p hp
    rw [Fr.add_eq]
    exact z

theorem scTimes : FnScope ["one", "other"] ["one", "other"] (defScope sTimes) := ⟨rfl, rfl, rfl, by decide +kernel, rfl, by decide +kernel, by decide +kernel⟩
theorem ok_Times {f fC : Addr} {fd fdC : FuncData} {k : Nat} (F : Fun K "times" "times" sTimes f fd) (GC : FnOk P w K mg base CX0 k fC fdC ["top", "bottom"] spLow) (kC : PySem.W.keepIn K (.ref fC) = true) (bC : Binds K fdC ["top", "bottom"] []) (gC : mg "lowest" = some (.ref fC)) :
    FnOk P w K mg base CX0 (k + 1) f fd ["one", "other"] (spBin K (· * ·)) := by
  refine F.ok scTimes (fun vs H Q E h => ?_) (fun cdv A outer s H vs Q E hr h => ?_)
  · obtain ⟨a, b, x, y, n, m, rfl, _⟩ := h
    rfl
  · obtain ⟨a, b, x, y, n, m, rfl, hx, hy, bx, by_, hn, q⟩ := h
    refine ⟨_, pss_one (ps_ret (pe_call GC hr (by rfl) gC kC bC .nil pass0 (pa_cons (pe_op op_mulW (pe_ix ix_tup (pv 0) pe_int (fun _ _ => rfl)) (pe_ix ix_tup (pv 1) pe_int (fun _ _ => rfl))) (pa_cons (pe_op op_mulW (pe_ix ix_tup (pv 0) pe_int (fun _ _ => rfl)) (pe_ix ix_tup (pv 1) pe_int (fun _ _ => rfl))) pa_nil)))), ?_⟩
    refine ⟨.ref a, rfl, a, rp x, 0, .int x.num, rfl, rfl, hx, at0 x, .ref b, rfl, b, rp y, 0, .int y.num, rfl, rfl, hy, at0 y, _, _, rfl, rfl, wmul bx.1 by_.1 (by omega), .ref a, rfl, a, rp x, 1, .int (x.den : Int), rfl, rfl, hx, at1 x, .ref b, rfl, b, rp y, 1, .int (y.den : Int), rfl, rfl, hy, at1 y, _, _, rfl, rfl, wmul bx.dn by_.dn (by omega), _, _, n + m, rfl, Fr.mul_bd bx.1 by_.1, Fr.mul_bd bx.dn by_.dn, Fr.dd_ne x y, by omega, fun p hp => ?_⟩
    have z := q p hp
    rw [Fr.mul_eq]
    exact z
theorem scTotal : FnScope ["some", "start", "whole", "one"] ["some", "start"] (defScope sTotal) := ⟨rfl, rfl, rfl, by decide +kernel, rfl, by decide +kernel, by decide +kernel⟩
theorem ok_Total {f fP : Addr} {fd fdP : FuncData} {k : Nat} (F : FunD K "total" "total" (defArgs sTotal) (defBody sTotal) (defScope sTotal) [.non] [] f fd) (GP : FnOk P w K mg base CX0 k fP fdP ["one", "other"] (spBin K (· + ·))) (kP : PySem.W.keepIn K (.ref fP) = true) (bP : Binds K fdP ["one", "other"] []) (gP : mg "plus" = some (.ref fP)) :
    FnOk P w K mg base CX0 (k + 1) f fd ["some", "start"] (spTotal K) := by
  refine F.ok scTotal (fun vs H Q E h => ?_) (fun cdv A outer s H vs Q E hr h => ?_)
  · obtain ⟨l, cs, qs, n, rfl, _⟩ := h
    rfl
  · obtain ⟨l, cs, qs, n, rfl, hl, hf, hn, q⟩ := h
    refine ⟨_, PSs.nox (pss_cons (ps_set (i := 2) scTotal.nd rfl (.inl rfl) (pe_ifExp (pt_cmpR op_isN (pv 1) pe_non (nomark _)) (pe_tup (pa_cons pe_int (pa_cons pe_int pa_nil))) (pv 1)))
      (pss_cons (ps_for PassesOwn.never rfl (pi_list (pv 0)) (pg_name (i := 3) scTotal.nd rfl (.inl rfl)) (pss_one (ps_set (i := 2) scTotal.nd rfl (.inl rfl) (pe_call GP hr (by rfl) gP kP bP .nil pass0 (pa_cons (pv 2) (pa_cons (pv 3) pa_nil))))))
      (pss_one (ps_ret (pv 2))))), ?_⟩
    refine ⟨_, rfl, rfl, _, rfl, iteT ⟨(by show 2 ≤ sizeLine; decide), fun p hp => ?_⟩⟩
    have s1 := same_new hp (.tup (rp 0))
    refine ⟨_, rfl, l, rfl, ⟨_, s1.seq hl⟩, for_list (K := K) (a := l) (xs := cs) (fun i σ H' => ∃ (c : Addr) (y : Option V), σ = [some (.ref l), some .non, some (.ref c), y] ∧ Same H H' ∧ SqT K H' c (rp (qs.take i).sum) ∧ Bd ((n + 1) * i + 1) (qs.take i).sum)
      ⟨p, none, rfl, s1, SqT.of upd_same, ⟨by show (0 : Int).natAbs < 2 ^ 1; decide, by show 1 < 2 ^ 1; decide⟩⟩ (fun i σ H' _ ⟨_, _, _, s5, _⟩ => s5.seq hl) ?_ ?_⟩
    · rintro i v σ H' hi ⟨c, y, rfl, s5, hc5, hb5⟩
      obtain ⟨a, z, e1, rfl, e3, e4⟩ := hf.at_ i v hi
      have hil : i < qs.length := by
        rw [← hf.len]
        exact (List.getElem?_eq_some_iff.mp hi).1
      have hm : (n + 1) * i + (n + 1) ≤ (n + 1) * qs.length := by
        have := Nat.mul_le_mul_left (n + 1) (Nat.succ_le_of_lt hil)
        rw [Nat.mul_succ] at this
        exact this
      refine ⟨_, rfl, _, rfl, c, a, _, z, _, n, rfl, hc5, seqT s5 e3, hb5, e4, by omega, fun p hp => ?_⟩
      refine ⟨p, _, rfl, s5.trans (same_new hp _), ?_, ?_⟩
      · rw [Rs.sum_snoc' e1]
        exact SqT.of upd_same
      · rw [Rs.sum_snoc' e1]
        exact (Fr.bd_add hb5 e4).mono (by rw [Nat.mul_succ]; omega)
    · rintro σ H' ⟨c, y, rfl, s5, hc5, _⟩
      rw [hf.len, List.take_length] at hc5
      exact ⟨_, rfl, q c H' s5 hc5⟩
theorem scWhole : FnScope ["thing"] ["thing"] (defScope sWhole) := ⟨rfl, rfl, rfl, by decide +kernel, rfl, by decide +kernel, by decide +kernel⟩
theorem ok_WholeZ {f  : Addr} {fd  : FuncData} {k : Nat} (F : Fun K "is_whole" "is_whole" sWhole f fd)  (B : Blt mg) : FnOk P w K mg base CX0 (k + 1) f fd ["thing"] (spWholeZ K) := by
  refine F.ok scWhole (fun vs H Q E h => ?_) (fun cdv A outer s H vs Q E hr h => ?_)
  · obtain ⟨ex, v, d, rfl, _⟩ := h
    rfl
  · obtain ⟨ex, v, d, rfl, hv, q⟩ := h
    refine ⟨_, (pss_one (ps_ret (pe_and (pe_callB call_isi (by rfl) B.isinstance_ (by decide +kernel) (pa_cons (pv 0) (pa_cons (pe_bltn (v := .ty "int") (by rfl) B.int_ (by decide +kernel) rfl) pa_nil))) (pe_one (pe_not (pe_callB call_isi (by rfl) B.isinstance_ (by decide +kernel) (pa_cons (pv 0) (pa_cons (pe_bltn (v := .ty "bool") (by rfl) B.bool_ (by decide +kernel) rfl) pa_nil)))))))), ?_⟩
    refine ⟨_, rfl, _, _, _, _, isIB d, rfl, .ty "int", hv.ty, kit_ty (kit_isIB d), _, rfl, ?_⟩
    cases d with
    | int i => exact iteT ⟨_, rfl, _, _, _, _, isB (.int i), rfl, .ty "bool", hv.ty, kit_ty (kit_isB _), _, rfl, q⟩
    | bool b => exact iteT ⟨_, rfl, _, _, _, _, isB (.bool b), rfl, .ty "bool", hv.ty, kit_ty (kit_isB _), _, rfl, q⟩
    | none => exact iteF q
    | str x => exact iteF q
    | list x => exact iteF q
    | tuple x => exact iteF q
    | dict x => exact iteF q
theorem scIsR : FnScope ["thing", "top", "bottom"] ["thing"] (defScope sIsR) := ⟨rfl, rfl, rfl, by decide +kernel, rfl, by decide +kernel, by decide +kernel⟩
theorem ok_IsRZ {f fW fD : Addr} {fd fdW fdD : FuncData} {k : Nat} (F : Fun K "is_ratio" "is_ratio" sIsR f fd) (GW : FnOk P w K mg base CX0 k fW fdW ["thing"] (spWholeZ K)) (kW : PySem.W.keepIn K (.ref fW) = true) (bW : Binds K fdW ["thing"] []) (gW : mg "is_whole" = some (.ref fW)) (GD : FnOk P w K mg base CX0 k fD fdD ["one", "other"] spDiv) (kD : PySem.W.keepIn K (.ref fD) = true) (bD : Binds K fdD ["one", "other"] []) (gD : mg "divisor" = some (.ref fD)) (B : Blt mg) : FnOk P w K mg base CX0 (k + 1) f fd ["thing"] (spIsRZ K) := by
  refine F.ok scIsR (fun vs H Q E h => ?_) (fun cdv A outer s H vs Q E hr h => ?_)
  · obtain ⟨ex, v, d, rfl, _⟩ := h
    rfl
  · obtain ⟨ex, v, d, rfl, hv, q⟩ := h
    refine ⟨_, (pss_cons (ps_if (PW.pt (pw_or (pt_not (pt_val (pe_callB call_isi (by rfl) B.isinstance_ (by decide +kernel) (pa_cons (pv 0) (pa_cons (pe_bltn (v := .ty "tuple") (by rfl) B.tuple_ (by decide +kernel) rfl) pa_nil))))) (pw_or1 (pt_cmpR op_ne (pe_callB call_len_seq (by rfl) B.len_ PySem.boot_len (pa_cons (pv 0) pa_nil)) pe_int (nomark _))))) (pss_one (ps_ret pe_bl)) pss_nil)
      (pss_cons (ps_asg (pv 0) (pg_tup (by rfl) (pgs_cons (pg_name (i := 1) scIsR.nd rfl (.inl rfl)) (pgs_cons (pg_name (i := 2) scIsR.nd rfl (.inl rfl)) pgs_nil))))
      (pss_cons (ps_if (PW.pt (pw_or (pt_not (pt_val (pe_call GW hr (by rfl) gW kW bW .nil pass0 (pa_cons (pv 1) pa_nil)))) (pw_or1 (pt_not (pt_val (pe_call GW hr (by rfl) gW kW bW .nil pass0 (pa_cons (pv 2) pa_nil))))))) (pss_one (ps_ret pe_bl)) pss_nil)
      (pss_one (ps_ret (pe_and (pe_cmpR op_ge (pv 2) pe_int (nomark _)) (pe_one (pe_cmpR op_eq (pe_call GD hr (by rfl) gD kD bD .nil pass0 (pa_cons (pv 1) (pa_cons (pv 2) pa_nil))) pe_int (nomark _))))))))), ?_⟩
    cases d with
    | none => exact ⟨_, rfl, _, _, _, _, isT _, rfl, .ty "tuple", hv.ty, kit_ty (kit_isT _), _, rfl, iteT (iteT q)⟩
    | bool b => exact ⟨_, rfl, _, _, _, _, isT _, rfl, .ty "tuple", hv.ty, kit_ty (kit_isT _), _, rfl, iteT (iteT q)⟩
    | int i => exact ⟨_, rfl, _, _, _, _, isT _, rfl, .ty "tuple", hv.ty, kit_ty (kit_isT _), _, rfl, iteT (iteT q)⟩
    | str x => exact ⟨_, rfl, _, _, _, _, isT _, rfl, .ty "tuple", hv.ty, kit_ty (kit_isT _), _, rfl, iteT (iteT q)⟩
    | list x => exact ⟨_, rfl, _, _, _, _, isT _, rfl, .ty "tuple", hv.ty, kit_ty (kit_isT _), _, rfl, iteT (iteT q)⟩
    | dict x => exact ⟨_, rfl, _, _, _, _, isT _, rfl, .ty "tuple", hv.ty, kit_ty (kit_isT _), _, rfl, iteT (iteT q)⟩
    | tuple ds =>
      refine ⟨_, rfl, _, _, _, _, isT (.tuple ds), rfl, .ty "tuple", hv.ty, kit_ty (kit_isT _), _, rfl, iteF ?_⟩
      cases hv with
      | @tup a xs _ ha ts =>
        have hl := ts.len
        refine ⟨_, rfl, a, xs, rfl, .inr ha, rfl, _, rfl, ?_⟩
        by_cases h2 : xs.length = 2
        rotate_left
        · rw [decide_eq_false (fun z => h2 (by have := V.int.inj z; omega))]
          refine iteT ?_
          have e : ratD (.tuple ds) = none := by
            unfold ratD
            split
            · rename_i heq
              injection heq with heq
              rw [heq] at hl
              exact absurd hl h2
            · rfl
          rw [e] at q
          exact q
        have e2 : V.int (xs.length : Int) = V.int 2 := by rw [h2]; rfl
        rw [decide_eq_true e2]
        refine iteF ?_
        obtain ⟨x, y, rfl⟩ : ∃ x y, xs = [x, y] := by
          match xs, h2 with
          | [x, y], _ => exact ⟨x, y, rfl⟩
        cases ts with
        | @cons _ _ dx _ hx ts =>
          cases ts with
          | @cons _ _ dy _ hy ts =>
            cases ts
            refine ⟨_, rfl, a, _, rfl, ha, rfl, _, _, rfl, _, _, rfl, rfl, ?_⟩
            refine ⟨_, rfl, ex, x, dx, rfl, hx, _, rfl, ?_⟩
            have no : ∀ {b : PyData}, isI dx = false → ratD (.tuple [dx, b]) = none := fun {b} h => by cases dx <;> first | rfl | cases h
            cases c1 : isI dx with
            | false =>
              rw [no c1] at q
              exact iteT (iteT q)
            | true =>
              refine iteF ?_
              refine ⟨_, rfl, ex, y, dy, rfl, hy, _, rfl, ?_⟩
              cases dx with
              | int t =>
                cases c2 : isI dy with
                | false =>
                  have e : ratD (.tuple [.int t, dy]) = none := by cases dy <;> first | rfl | cases c2
                  rw [e] at q
                  exact iteT q
                | true =>
                  refine iteF ?_
                  cases dy with
                  | int b =>
                    cases hx
                    cases hy
                    have e : ratD (.tuple [.int t, .int b]) = if 1 ≤ b ∧ Int.gcd t b = 1 then some (Rat.divInt t b) else none := rfl
                    refine ⟨_, rfl, _, _, rfl, rfl, _, rfl, ?_⟩
                    by_cases h1 : 1 ≤ b
                    · rw [if_pos (decide_eq_true h1)]
                      refine ⟨_, rfl, _, rfl, _, _, rfl, rfl, ?_⟩
                      by_cases hg : Int.gcd t b = 1
                      · rw [e, if_pos ⟨h1, hg⟩] at q
                        rw [hg]
                        exact q
                      · rw [e, if_neg (fun z => hg z.2)] at q
                        rw [decide_eq_false (fun z => hg (by have := V.int.inj z; omega))]
                        exact q
                    · rw [e, if_neg (fun z => h1 z.1)] at q
                      rw [if_neg (by rw [decide_eq_false h1]; decide)]
                      exact q
                  | _ => cases c2
              | _ => cases c1
theorem scShare : FnScope ["thing"] ["thing"] (defScope sShare) := ⟨rfl, rfl, rfl, by decide +kernel, rfl, by decide +kernel, by decide +kernel⟩
theorem ok_ShareZ {f fR : Addr} {fd fdR : FuncData} {k : Nat} (F : Fun K "is_share" "is_share" sShare f fd) (GR : FnOk P w K mg base CX0 k fR fdR ["thing"] (spIsRZ K)) (kR : PySem.W.keepIn K (.ref fR) = true) (bR : Binds K fdR ["thing"] []) (gR : mg "is_ratio" = some (.ref fR)) : FnOk P w K mg base CX0 (k + 1) f fd ["thing"] (spShareZ K) := by
  refine F.ok scShare (fun vs H Q E h => ?_) (fun cdv A outer s H vs Q E hr h => ?_)
  · obtain ⟨ex, v, d, rfl, _⟩ := h
    rfl
  · obtain ⟨ex, v, d, rfl, hv, q⟩ := h
    refine ⟨_, (pss_one (ps_ret (pe_and (pe_call GR hr (by rfl) gR kR bR .nil pass0 (pa_cons (pv 0) pa_nil)) (pe_one (pe_cmpR op_ge (pe_ix ix_tup (pv 0) pe_int (fun _ _ => rfl)) pe_int (nomark _)))))), ?_⟩
    refine ⟨_, rfl, ex, v, d, rfl, hv, _, rfl, ?_⟩
    unfold shD at q
    cases e : ratD d with
    | none =>
      rw [e] at q
      exact iteF q
    | some r =>
      rw [e] at q
      obtain ⟨a, rfl, ha, _⟩ := hv.rat e
      exact iteT ⟨_, rfl, a, rp r, 0, .int r.num, rfl, rfl, ha, at0 r, _, _, rfl, rfl, q⟩
theorem scListOf : FnScope ["thing", "least", "most"] ["thing", "least", "most"] (defScope sListOf) := ⟨rfl, rfl, rfl, by decide +kernel, rfl, by decide +kernel, by decide +kernel⟩
theorem ok_ListOfZ {f  : Addr} {fd  : FuncData} {k : Nat} (F : Fun K "is_list_of" "is_list_of" sListOf f fd)  (B : Blt mg) : FnOk P w K mg base CX0 (k + 1) f fd ["thing", "least", "most"] (spListOfZ K) := by
  refine F.ok scListOf (fun vs H Q E h => ?_) (fun cdv A outer s H vs Q E hr h => ?_)
  · obtain ⟨ex, v, d, lo, hi, rfl, _⟩ := h
    rfl
  · obtain ⟨ex, v, d, lo, hi, rfl, hv, q⟩ := h
    refine ⟨_, (pss_one (ps_ret (pe_and (pe_callB call_isi (by rfl) B.isinstance_ (by decide +kernel) (pa_cons (pv 0) (pa_cons (pe_bltn (v := .ty "list") (by rfl) B.list_ (by decide +kernel) rfl) pa_nil))) (pe_one (pe_chain op_le op_le (pv 1) (pe_callB call_len_seq (by rfl) B.len_ PySem.boot_len (pa_cons (pv 0) pa_nil)) (pv 2)))))), ?_⟩
    cases d with
    | none => exact ⟨_, rfl, _, _, _, _, isL _, rfl, .ty "list", hv.ty, kit_ty (kit_isL _), _, rfl, iteF q⟩
    | bool b => exact ⟨_, rfl, _, _, _, _, isL _, rfl, .ty "list", hv.ty, kit_ty (kit_isL _), _, rfl, iteF q⟩
    | int i => exact ⟨_, rfl, _, _, _, _, isL _, rfl, .ty "list", hv.ty, kit_ty (kit_isL _), _, rfl, iteF q⟩
    | str x => exact ⟨_, rfl, _, _, _, _, isL _, rfl, .ty "list", hv.ty, kit_ty (kit_isL _), _, rfl, iteF q⟩
    | tuple x => exact ⟨_, rfl, _, _, _, _, isL _, rfl, .ty "list", hv.ty, kit_ty (kit_isL _), _, rfl, iteF q⟩
    | dict x => exact ⟨_, rfl, _, _, _, _, isL _, rfl, .ty "list", hv.ty, kit_ty (kit_isL _), _, rfl, iteF q⟩
    | list ds =>
      refine ⟨_, rfl, _, _, _, _, isL (.list ds), rfl, .ty "list", hv.ty, kit_ty (kit_isL _), _, rfl, iteT ?_⟩
      cases hv with
      | @lst a xs _ ha hn ts =>
        have q' : Q (.bl (decide (lo ≤ (ds.length : Int)) && decide ((ds.length : Int) ≤ hi))) H := q
        rw [← ts.len] at q'
        refine ⟨_, rfl, _, rfl, a, xs, rfl, .inl (SqL.of ha), lo, _, rfl, rfl, _, rfl, ?_⟩
        by_cases h1 : lo ≤ (xs.length : Int)
        · rw [decide_eq_true h1] at q' ⊢
          refine iteT ⟨_, rfl, _, hi, rfl, rfl, ?_⟩
          rw [Bool.true_and] at q'
          exact q'
        · rw [decide_eq_false h1] at q' ⊢
          exact iteF q'
theorem scRRow : FnScope ["thing", "least", "most", "one"] ["thing", "least", "most"] (defScope sRRow) := ⟨rfl, rfl, rfl, by decide +kernel, rfl, by decide +kernel, by decide +kernel⟩
theorem all_mapZ (p : PyData → Bool) (os : List PyData) : (os.map p).all id = os.all p := by
  induction os with
  | nil => rfl
  | cons o os ih => rw [List.map_cons, List.all_cons, List.all_cons, ih]; rfl
theorem ok_RRowZ {f fL fR : Addr} {fd fdL fdR : FuncData} {k : Nat} (F : Fun K "is_ratio_row" "is_ratio_row" sRRow f fd) (GL : FnOk P w K mg base CX0 k fL fdL ["thing", "least", "most"] (spListOfZ K)) (kL : PySem.W.keepIn K (.ref fL) = true) (bL : Binds K fdL ["thing", "least", "most"] []) (gL : mg "is_list_of" = some (.ref fL)) (GR : FnOk P w K mg base CX0 k fR fdR ["thing"] (spIsRZ K)) (kR : PySem.W.keepIn K (.ref fR) = true) (bR : Binds K fdR ["thing"] []) (gR : mg "is_ratio" = some (.ref fR)) (B : Blt mg) : FnOk P w K mg base CX0 (k + 1) f fd ["thing", "least", "most"] (spRowZ K) := by
  refine F.ok scRRow (fun vs H Q E h => ?_) (fun cdv A outer s H vs Q E hr h => ?_)
  · obtain ⟨ex, v, d, lo, hi, rfl, _⟩ := h
    rfl
  · obtain ⟨ex, v, d, lo, hi, rfl, hv, h6, q⟩ := h
    refine ⟨_, (pss_one (ps_ret (pe_and (pe_call GL hr (by rfl) gL kL bL .nil pass0 (pa_cons (pv 0) (pa_cons (pv 1) (pa_cons (pv 2) pa_nil)))) (pe_one (pe_callB (cr_all rfl) (by rfl) B.all_ (by decide +kernel) (pa_cons (pe_lc (own := [("one", 3)]) (g := gName 3) (tt := tYes) (te := (tCall (spIsRZ K) [] E0 (tCons (tVar 3) tNil))) rfl scRRow.nd (pi_list (pv 0)) (blkOk_by (N := ["thing", "least", "most", "one"]) (sc := defScope sRRow) (by decide +kernel)) (fun _ _ _ _ _ => (pg_name (i := 3) scRRow.nd rfl (Or.inl rfl))) (fun _ _ _ _ _ => pts_nil) (fun _ _ _ _ _ => (pe_call GR hr (by rfl) gR kR bR .nil pass0 (pa_cons (pv 3) pa_nil)))) pa_nil)))))), ?_⟩
    refine ⟨_, rfl, _, rfl, _, rfl, ex, v, d, lo, hi, rfl, hv, _, rfl, ?_⟩
    unfold rowOkZ at q
    cases c0 : lenOk (lenD d) lo hi with
    | false =>
      rw [c0] at q
      exact iteF (q _ (Same.refl _))
    | true =>
      rw [c0, Bool.true_and] at q
      refine iteT ?_
      obtain ⟨ds, rfl, l1, l2⟩ := lenOk_list c0
      cases hv with
      | @lst r cs _ hr0 hn hc =>
        refine ⟨_, rfl, r, rfl, ⟨_, SqL.of hr0⟩, fun D hD => lc_list (K := K) (a := r) (xs := cs) (fun i H' => H' = upd H D (.lst (((ds.take i).map fun e => (ratD e).isSome).map V.bl))) rfl (fun i H' _ e => by rw [e]; exact SqL.of (same_new hD _ _ _ hr0)) ?_ ?_⟩
        · rintro i v H' hi' rfl
          obtain ⟨d, e1, e2⟩ := hc.at_ hi'
          refine ⟨rfl, tYes_of ?_⟩
          refine ⟨_, rfl, ex, v, d, rfl, e2.same (same_new hD _), _, upd_same, ?_, ?_⟩
          · rw [List.length_map, List.length_map, List.length_take]
            exact small1000 (by omega)
          · rw [upd_upd, List.take_add_one, e1, List.map_append, List.map_append]
            rfl
        · rintro H' rfl
          rw [hc.len, List.take_length]
          refine ⟨D, ds.map fun e => (ratD e).isSome, rfl, SqL.of upd_same, ?_⟩
          rw [all_mapZ]
          exact q _ (same_new hD _)
theorem scWrong : FnScope ["rows", "is_row", "least", "most", "number", "row"] ["rows", "is_row", "least", "most"] (defScope sWrong) := ⟨rfl, rfl, rfl, by decide +kernel, rfl, by decide +kernel, by decide +kernel⟩
theorem ok_WrongZ {f fR : Addr} {fd fdR : FuncData} {k : Nat} (F : Fun K "wrong_row" "wrong_row" sWrong f fd) (GR : FnOk P w K mg base CX0 k fR fdR ["thing", "least", "most"] (spRowZ K)) (kR : PySem.W.keepIn K (.ref fR) = true) (bR : Binds K fdR ["thing", "least", "most"] []) (B : Blt mg) : FnOk P w K mg base CX0 (k + 1) f fd ["rows", "is_row", "least", "most"] (spWrongZ K fR) := by
  refine F.ok scWrong (fun vs H Q E h => ?_) (fun cdv A outer s H vs Q E hr h => ?_)
  · obtain ⟨ex, a, rs, ds, lo, hi, rfl, _⟩ := h
    rfl
  · obtain ⟨ex, a, rs, ds, lo, hi, rfl, ha, hw, h6, q⟩ := h
    refine ⟨_, (pss_cons (ps_for PassesOwn.never rfl (pi_enum (by rfl) B.enumerate_ (pa_cons (pv 0) pa_nil)) (pg_tup rfl (pgs_cons (pg_name (i := 4) scWrong.nd rfl (.inl rfl)) (pgs_cons (pg_name (i := 5) scWrong.nd rfl (.inl rfl)) pgs_nil))) (pss_cons (ps_if (pt_not (pt_val (pe_callL (i := 1) GR hr rfl (.inl rfl) kR bR .nil pass0 (pa_cons (pv 5) (pa_cons (pv 2) (pa_cons (pv 3) pa_nil)))))) (pss_one (ps_ret (pv 4))) pss_nil)
      (pss_one (ps_asg2 (pe_callB call_len_seq (by rfl) B.len_ PySem.boot_len (pa_cons (pv 5) pa_nil)) (pg_name (i := 2) scWrong.nd rfl (.inl rfl)) (pg_name (i := 3) scWrong.nd rfl (.inl rfl))))))
      (pss_one (ps_ret pe_non))), ?_⟩
    refine ⟨_, rfl, a, _, rfl, SqL.of ha, for_it (walk_enum (K := K) (a := a) (xs := rs)) (fun i σ H' => ∃ (lo' hi' : Int) (y4 y5 : Option V), σ = [some (.ref a), some (.ref fR), some (.int lo'), some (.int hi'), y4, y5] ∧ Same H H' ∧ hi' ≤ 6 ∧ firstWrongZ ds 0 lo hi = firstWrongZ (ds.drop i) i lo' hi')
      ⟨lo, hi, none, none, rfl, Same.refl _, h6, by rw [List.drop_zero]⟩ (fun i σ H' _ ⟨_, _, _, _, _, s5, _⟩ => SqL.of (s5 _ _ ha)) ?_ ?_⟩
    · rintro i x σ H1 H2 hi1 ⟨lo', hi', y4, y5, rfl, s5, h6', fw⟩ ⟨T, u, v, rfl, nT, rfl, e1, e2⟩
      have eu : u = .int (i : Nat) := (Option.some.inj e1).symm
      subst eu
      obtain ⟨d, f1, f2⟩ := hw.at_ e2
      have s6 := s5.trans (same_new nT (.tup [.int (i : Nat), v]))
      refine ⟨T, _, rfl, SqT.of upd_same, rfl, _, _, rfl, _, _, rfl, rfl, ?_⟩
      refine ⟨rfl, _, rfl, _, rfl, _, rfl, ex, v, d, lo', hi', rfl, f2.same s6, h6', fun H3 s7 => ?_⟩
      rw [firstWrongZ_drop f1] at fw
      cases c : rowOkZ d lo' hi' with
      | false =>
        rw [if_neg (by rw [c]; decide)] at fw
        rw [fw] at q
        exact ⟨_, rfl, iteT ⟨_, rfl, q _ (s6.trans s7)⟩⟩
      | true =>
        rw [if_pos c] at fw
        refine ⟨_, rfl, iteF ?_⟩
        unfold rowOkZ at c
        rw [Bool.and_eq_true] at c
        obtain ⟨es, rfl, l1, l2⟩ := lenOk_list c.1
        cases f2 with
        | @lst r cs _ hr0 hn hc =>
          refine ⟨_, rfl, r, cs, rfl, .inl (SqL.of ((s6.trans s7) _ _ hr0)), ?_⟩
          rw [hc.len]
          exact ⟨_, _, _, _, rfl, s6.trans s7, by omega, fw⟩
    · rintro σ H1 ⟨lo', hi', y4, y5, rfl, s5, _, fw⟩
      rw [hw.len, List.drop_length] at fw
      rw [fw] at q
      exact q H1 s5
theorem scCopied : FnScope ["rows", "row"] ["rows"] (defScope sCopied) := ⟨rfl, rfl, rfl, by decide +kernel, rfl, by decide +kernel, by decide +kernel⟩
theorem ok_Copied {f : Addr} {fd : FuncData} {k : Nat} (F : Fun K "copied_rows" "copied_rows" sCopied f fd) (B : Blt mg) : FnOk P w K mg base CX0 (k + 1) f fd ["rows"] (spCopied K) := by
  refine F.ok scCopied (fun vs H Q E h => ?_) (fun cdv A outer s H vs Q E hr h => ?_)
  · obtain ⟨a, rs, rss, n, rfl, _⟩ := h
    rfl
  · obtain ⟨a, rs, rss, n, rfl, hw, hlen, q⟩ := h
    refine ⟨_, pss_one (ps_ret (pe_lc (own := [("row", 1)]) (g := gName 1) (tt := tYes) (te := tCB (rListOf K) (tCons (tVar 1) tNil)) rfl scCopied.nd (pi_list (pv 0)) (blkOk_by (N := ["rows", "row"]) (sc := defScope sCopied) (by decide +kernel)) (fun _ _ _ _ _ => pg_name (i := 1) scCopied.nd rfl (Or.inl rfl)) (fun _ _ _ _ _ => pts_nil)
      (fun _ _ _ _ _ => pe_callTy (T := "list") call_list_of (by rfl) B.list_ (by decide +kernel) (pa_cons (pv 1) pa_nil)))), ?_⟩
    -- an address that stays out of the way: D itself
    refine ⟨_, rfl, a, rfl, ⟨_, SqL.of hw.1⟩, fun D hD => lc_list (K := K) (a := a) (xs := rs.map V.ref) (fun i H' => ∃ rs', rs'.length = i ∧ H' D = some (.lst (rs'.map V.ref)) ∧ rs'.Nodup ∧ D ∉ rs' ∧ (∀ x ∈ rs', H x = none) ∧ Same H H' ∧ RowsAt K H' n rs' (rss.take i))
      ⟨[], rfl, upd_same, List.nodup_nil, by simp, fun x hx => by simp at hx, same_new hD _, RowsAt.nil⟩ (fun i H' _ ⟨_, _, _, _, _, _, s5, _⟩ => SqL.of (s5 _ _ hw.1)) ?_ ?_⟩
    · rintro i v H' hi ⟨rs', hl', hD', nd', ne', fr', s5, ra⟩
      obtain ⟨r, er, rfl⟩ : ∃ r, rs[i]? = some r ∧ v = .ref r := by
        rw [List.getElem?_map] at hi
        cases e : rs[i]? with
        | none => rw [e] at hi; cases hi
        | some r => rw [e] at hi; exact ⟨r, rfl, (Option.some.inj hi).symm⟩
      obtain ⟨cs, qs, e3, e4, e5⟩ := hw.2.2 i r er
      refine ⟨rfl, ?_⟩
      unfold tYes
      dsimp only
      refine iteT ?_
      refine ⟨_, rfl, r, cs, rfl, .inl (SqL.of (s5 _ _ e4)), fun l hl => ?_⟩
      have s6 := same_new hl (.lst cs)
      have hlD : l ≠ D := fun e => by
        rw [e, hD'] at hl
        cases hl
      have hil : i < rss.length := (List.getElem?_eq_some_iff.mp e3).1
      refine ⟨_, s6 _ _ hD', ?_, rs' ++ [l], ?_, ?_, ?_, ?_, ?_, ?_, ?_⟩
      · rw [List.length_map]
        exact small1000 (by omega)
      · rw [List.length_append, hl']
        rfl
      · rw [upd_same, List.map_append]
        rfl
      · rw [List.nodup_append]
        refine ⟨nd', by simp, fun x hx y hy => ?_⟩
        have ey : y = l := by simpa using hy
        rw [ey]
        intro e
        obtain ⟨j, hj, ej⟩ := List.getElem_of_mem hx
        obtain ⟨c', q', _, z2, _⟩ := ra.2 j x (by rw [List.getElem?_eq_getElem hj, ej])
        rw [e, hl] at z2
        cases z2
      · intro hm
        rcases List.mem_append.mp hm with hm | hm
        · exact ne' hm
        · exact hlD (by simpa using hm : D = l).symm
      · intro x hx
        rcases List.mem_append.mp hx with hx | hx
        · exact fr' x hx
        · have ex : x = l := by simpa using hx
          rw [ex]
          exact s5.free hl
      · intro b u e
        rw [upd_ne (ne_of_none e hD)]
        exact s6 _ _ (s5 _ _ e)
      · have sD : SameB D (upd H' l (.lst cs)) (upd (upd H' l (.lst cs)) D (.lst (rs'.map V.ref ++ [V.ref l]))) := SameB.upd
        have t := ((ra.same s6).keep sD (s6 _ _ hD') ne').snoc (r := l) (cs := cs) (qs := qs) (by rw [upd_ne hlD, upd_same]) ((e5.same (s5.trans s6)).keep (sD.tup (s6 _ _ hD')))
        rw [List.take_add_one, e3]
        exact t
    · rintro H' ⟨rs', hl', hD', nd', ne', fr', s5, ra⟩
      rw [List.length_map, hw.2.1, List.take_length] at ra
      exact q D rs' H' ⟨⟨hD', ra⟩, nd', ne', hD, fr', s5⟩
theorem scNcInit : FnScope ["self", "part", "number"] ["self", "part", "number"] (defScope sNcInit) := ⟨rfl, rfl, rfl, by decide +kernel, rfl, by decide +kernel, by decide +kernel⟩
theorem ok_NcInit {CN fN : Addr} {fd : FuncData} {k : Nat} (F : Fun K "__init__" "NoCase.__init__" sNcInit fN fd) (T : NcT K mg CN fN) (B : Blt mg) : FnOk P w K mg base CX0 (k + 1) fN fd ["self", "part", "number"] (spE2 CN "part" "number") := by
  refine F.ok scNcInit (fun vs H Q E h => ?_) (fun cdv A outer s H vs Q E hr h => ?_)
  · obtain ⟨a, v, u, rfl, _⟩ := h
    rfl
  · obtain ⟨a, v, u, rfl, ha, q⟩ := h
    refine ⟨_, pss_cons (ps_expr (pe_veinit (by rfl) B.ValueError_ T.vV (pa_cons (pv 0) (pa_cons pe_str pa_nil)))) (pss_cons (ps_ost (pv 0) (pv 1)) (pss_one (ps_ost (pv 0) (pv 2)))), ?_⟩
    refine ⟨_, rfl, a, CN, _, rfl, (by show 1 ≤ 1000; decide), T.o, ha, ?_⟩
    refine ⟨_, rfl, _, rfl, a, CN, rfl, T.o, T.n1, .inl ⟨ha, fun dx hdx hne => ?_⟩⟩
    refine ⟨_, rfl, _, rfl, a, CN, rfl, T.o, T.n2, .inr ⟨dx, _, upd_same, by rw [upd_ne hne, upd_same], (by show 1 ≤ 900; decide), ?_⟩⟩
    rw [Rs.upd_swap hne]
    exact q dx hdx hne
theorem scChkS : FnScope ["shares", "number", "share"] ["shares"] (defScope sChkS) := ⟨rfl, rfl, rfl, by decide +kernel, rfl, by decide +kernel, by decide +kernel⟩
theorem ok_ChkS {f fL fS fT CN fN C fI : Addr} {fd fdL fdS fdT fdN : FuncData} {k : Nat} (F : Fun K "check_shares" "check_shares" sChkS f fd) (T : CaT K mg C fI) (N : NcT K mg CN fN) (GN : FnOk P w K mg base CX0 k fN fdN ["self", "part", "number"] (spE2 CN "part" "number")) (bN : Binds K fdN ["self", "part", "number"] [])
    (GL : FnOk P w K mg base CX0 k fL fdL ["thing", "least", "most"] (spListOfZ K)) (kL : PySem.W.keepIn K (.ref fL) = true) (bL : Binds K fdL ["thing", "least", "most"] []) (gL : mg "is_list_of" = some (.ref fL)) (GS : FnOk P w K mg base CX0 k fS fdS ["thing"] (spShareZ K)) (kS : PySem.W.keepIn K (.ref fS) = true) (bS : Binds K fdS ["thing"] []) (gS : mg "is_share" = some (.ref fS))
    (GT : FnOk P w K mg base CX0 k fT fdT ["some", "start"] (spTotal K)) (kT : PySem.W.keepIn K (.ref fT) = true) (bT : ∃ ds, Vals [V.non] ds ∧ Binds K fdT ["some", "start"] ds) (gT : mg "total" = some (.ref fT)) (B : Blt mg) : FnOk P w K mg base (L2.CX P w) (k + 2) f fd ["shares"] (spChkS K CN) := by
  obtain ⟨t5, g5⟩ := T.g5
  obtain ⟨dft, vd, bTd⟩ := bT
  refine F.okX scChkS (fun vs H Q E h => ?_) (fun cdv A outer s H vs Q E hr h => ?_)
  · obtain ⟨ex, v, d, rfl, _⟩ := h
    rfl
  · obtain ⟨ex, v, d, rfl, hv, few, qE, q⟩ := h
    have hk : Room k _ := hr.mono (by omega)
    refine ⟨_, (pss_cons (ps_if (pt_not (pt_val (pe_call GL hk (by rfl) gL kL bL .nil pass0 (pa_cons (pv 0) (pa_cons pe_int (pa_cons (pe_glob (v := .int 5) (by rfl) g5 ⟨_, rfl⟩) pa_nil)))))) (pss_one (ps_raise (W := fun cls d _ H' => E cls d H') rfl (takes_of rfl rfl rfl rfl) (pmk_oex N.o N.i N.t GN hr bN .nil pass0 (by rfl) N.g (pa_cons pe_str (pa_cons pe_non pa_nil))))) pss_nil)
      (pss_cons (ps_for (passes_of rfl) rfl (pi_enum (by rfl) B.enumerate_ (pa_cons (pv 0) pa_nil)) (pg_tup rfl (pgs_cons (pg_name (i := 1) scChkS.nd rfl (.inl rfl)) (pgs_cons (pg_name (i := 2) scChkS.nd rfl (.inl rfl)) pgs_nil))) (pss_one (ps_if (pt_not (pt_val (pe_call GS hk (by rfl) gS kS bS .nil pass0 (pa_cons (pv 2) pa_nil)))) (pss_one (ps_raise (W := fun cls d _ H' => E cls d H') rfl (takes_of rfl rfl rfl rfl) (pmk_oex N.o N.i N.t GN hr bN .nil pass0 (by rfl) N.g (pa_cons pe_str (pa_cons (pv 1) pa_nil))))) pss_nil)))
      (pss_one (ps_if (pt_cmpR (op_neD hk.units) (pe_call GT hk (by rfl) gT kT bTd vd pass0 (pa_cons (pv 0) pa_nil)) (pe_tup (pa_cons pe_int (pa_cons pe_int pa_nil))) (nomark _)) (pss_one (ps_raise (W := fun cls d _ H' => E cls d H') rfl (takes_of rfl rfl rfl rfl) (pmk_oex N.o N.i N.t GN hr bN .nil pass0 (by rfl) N.g (pa_cons pe_str (pa_cons pe_non pa_nil))))) pss_nil)))), ?_⟩
    refine ⟨_, rfl, ex, v, d, 1, 5, rfl, hv, _, rfl, ?_⟩
    unfold badS at qE q
    cases c0 : lenOk (lenD d) 1 5 with
    | false =>
      rw [c0] at qE
      exact iteT (mk2 fun dd hdd => qE .non rfl _ dd (same_new hdd _) upd_same)
    | true =>
      rw [c0, if_pos rfl] at qE q
      refine iteF ?_
      obtain ⟨ds, rfl, l1, l2⟩ := lenOk_list c0
      cases hv with
      | @lst a xs _ ha hn ts =>
        have hxl := ts.len
        refine ⟨_, rfl, a, _, rfl, SqL.of ha, for_it (walk_enum (K := K) (a := a) (xs := xs)) (fun i σ H' => ∃ y1 y2 : Option V, σ = [some (.ref a), y1, y2] ∧ Same H H' ∧ firstNot shD ds 0 = firstNot shD (ds.drop i) i)
          ⟨none, none, rfl, Same.refl _, by rw [List.drop_zero]⟩ (fun i σ H' _ ⟨_, _, _, s5, _⟩ => SqL.of (s5 _ _ ha)) ?_ ?_⟩
        · rintro i x σ H1 H2 hi ⟨y1, y2, rfl, s5, fb⟩ ⟨TT, u, vv, rfl, nT, rfl, e1, e2⟩
          cases (Option.some.inj e1)
          obtain ⟨d, f1, f2⟩ := ts.at_ e2
          have sT := same_new nT (.tup [V.int (i : Nat), vv])
          refine ⟨TT, _, rfl, SqT.of upd_same, rfl, _, _, rfl, _, _, rfl, rfl, ?_⟩
          refine ⟨_, rfl, ex, vv, d, rfl, f2.same (s5.trans sT), _, rfl, ?_⟩
          rw [firstNot_drop f1] at fb
          cases c : shD d with
          | true =>
            rw [if_pos c] at fb
            exact iteF ⟨_, _, rfl, s5.trans sT, fb⟩
          | false =>
            rw [if_neg (by rw [c]; decide)] at fb
            refine iteT ⟨_, rfl, mk2 fun dx hdx => qE (V.int (i : Nat)) ?_ _ dx (s5.trans (sT.trans (same_new hdx _))) upd_same⟩
            show numS (firstNot shD ds 0) (sumD ds) = _
            rw [fb]
            rfl
        · rintro σ H1 ⟨y1, y2, rfl, s5, fb⟩
          rw [ts.len, List.drop_length] at fb
          have hall := firstNot_all (show firstNot shD ds 0 = none from fb)
          have hrat : ds.all (fun e => (ratD e).isSome) = true := by
            rw [List.all_eq_true] at hall ⊢
            intro e he
            have := hall e he
            unfold shD at this
            cases z : ratD e with
            | none => rw [z] at this; cases this
            | some q => rfl
          obtain ⟨qs, g1, g2⟩ := ts.rats (n := 1000) few hrat
          have hql : qs.length ≤ 5 := by
            have : ds.length = qs.length := by rw [g1, List.length_map]
            omega
          have eqE : numS (firstNot shD (itemsD (.list ds)) 0) (sumD (itemsD (.list ds))) = if qs.sum = 1 then none else some .non := by
            show numS (firstNot shD ds 0) (sumD ds) = _
            rw [show firstNot shD ds 0 = none from fb, g1, sumD_dR]
            rfl
          rw [eqE] at qE q
          refine ⟨_, rfl, a, xs, qs, 1000, rfl, SqL.of (s5 _ _ ha), g2.same s5, ?_, fun rt H2 s6 e6 => ?_⟩
          · have : (1000 + 1) * qs.length ≤ 1001 * 5 := Nat.mul_le_mul_left _ hql
            omega
          refine ⟨(by show 2 ≤ sizeLine; decide), fun p hp => ?_⟩
          have s7 := same_new hp (.tup (rp 1))
          refine ⟨dR qs.sum, dR 1, dp_r (seqT s7 e6), dp_r (q := 1) (SqT.of upd_same), dR_shaped _, dR_shaped _, _, rfl, ?_⟩
          rw [eqv_dR]
          by_cases c5 : qs.sum = 1
          · rw [decide_eq_true c5]
            rw [if_pos c5] at q
            exact iteF (q rfl _ ((s5.trans s6).trans s7))
          · rw [decide_eq_false c5]
            rw [if_neg c5] at qE
            exact iteT (mk2 fun dx hdx => qE .non rfl _ dx ((s5.trans s6).trans (s7.trans (same_new hdx _))) upd_same)
theorem scChkG : FnScope ["part", "rows", "worlds", "least", "most", "wrong"] ["part", "rows", "worlds", "least", "most"] (defScope sChkG) := ⟨rfl, rfl, rfl, by decide +kernel, rfl, by decide +kernel, by decide +kernel⟩
theorem ok_ChkG {f fL fW fR CN fN : Addr} {fd fdL fdW fdN : FuncData} {k : Nat} (F : Fun K "check_gains" "check_gains" sChkG f fd) (N : NcT K mg CN fN) (GN : FnOk P w K mg base CX0 k fN fdN ["self", "part", "number"] (spE2 CN "part" "number")) (bN : Binds K fdN ["self", "part", "number"] [])
    (GL : FnOk P w K mg base CX0 k fL fdL ["thing", "least", "most"] (spListOfZ K)) (kL : PySem.W.keepIn K (.ref fL) = true) (bL : Binds K fdL ["thing", "least", "most"] []) (gL : mg "is_list_of" = some (.ref fL)) (GW : FnOk P w K mg base CX0 k fW fdW ["rows", "is_row", "least", "most"] (spWrongZ K fR)) (kW : PySem.W.keepIn K (.ref fW) = true) (bW : Binds K fdW ["rows", "is_row", "least", "most"] []) (gW : mg "wrong_row" = some (.ref fW)) (gR : mg "is_ratio_row" = some (.ref fR)) : FnOk P w K mg base (L2.CX P w) (k + 2) f fd ["part", "rows", "worlds", "least", "most"] (spChkG K CN) := by
  refine F.okX scChkG (fun vs H Q E h => ?_) (fun cdv A outer s H vs Q E hr h => ?_)
  · obtain ⟨ex, pt, v, d, ww, lo, hi, rfl, _⟩ := h
    rfl
  · obtain ⟨ex, pt, v, d, ww, lo, hi, rfl, hv, h6, qE, q⟩ := h
    have hk : Room k _ := hr.mono (by omega)
    refine ⟨_, (pss_cons (ps_if (pt_not (pt_val (pe_call GL hk (by rfl) gL kL bL .nil pass0 (pa_cons (pv 1) (pa_cons (pv 2) (pa_cons (pv 2) pa_nil)))))) (pss_one (ps_raise (W := fun cls d _ H' => E cls d H') rfl (takes_of rfl rfl rfl rfl) (pmk_oex N.o N.i N.t GN hr bN .nil pass0 (by rfl) N.g (pa_cons (pv 0) (pa_cons pe_non pa_nil))))) pss_nil)
      (pss_cons (ps_set (i := 5) scChkG.nd rfl (.inl rfl) (pe_call GW hk (by rfl) gW kW bW .nil pass0 (pa_cons (pv 1) (pa_cons (pe_glob (v := .ref fR) (by rfl) gR rfl) (pa_cons (pv 3) (pa_cons (pv 4) pa_nil))))))
      (pss_one (ps_if (pt_cmpR op_notN (pv 5) pe_non (nomark _)) (pss_one (ps_raise (W := fun cls d _ H' => E cls d H') rfl (takes_of rfl rfl rfl rfl) (pmk_oex N.o N.i N.t GN hr bN .nil pass0 (by rfl) N.g (pa_cons (pv 0) (pa_cons (pv 5) pa_nil))))) pss_nil)))), ?_⟩
    refine ⟨_, rfl, _, rfl, _, rfl, ex, v, d, ww, ww, rfl, hv, _, rfl, ?_⟩
    unfold badG at qE q
    cases c0 : lenOk (lenD d) ww ww with
    | false =>
      rw [c0] at qE
      exact iteT ⟨_, rfl, mk2 fun dd hdd => qE .non rfl _ dd (same_new hdd _) upd_same⟩
    | true =>
      rw [c0, if_pos rfl] at qE q
      refine iteF ?_
      obtain ⟨ds, rfl, l1, l2⟩ := lenOk_list c0
      cases hv with
      | @lst a xs _ ha hn ts =>
        refine ⟨_, rfl, _, rfl, _, rfl, ex, a, xs, ds, lo, hi, rfl, ha, ts, h6, fun H1 s1 => ?_⟩
        have qE' : ∀ r, (firstWrongZ ds 0 lo hi).map (fun j => V.int (j : Nat)) = some r → _ := qE
        have q' : (firstWrongZ ds 0 lo hi).map (fun j => V.int (j : Nat)) = none → _ := q
        cases fw : firstWrongZ ds 0 lo hi with
        | none =>
          rw [fw] at q'
          exact ⟨_, rfl, rfl, _, rfl, iteF (q' rfl _ s1)⟩
        | some j =>
          rw [fw] at qE'
          refine ⟨_, rfl, rfl, _, rfl, iteT ?_⟩
          exact ⟨_, rfl, _, rfl, mk2 fun dd hdd => qE' _ rfl _ dd (s1.trans (same_new hdd _)) upd_same⟩
theorem scCInit : FnScope ["self", "shares", "hearer", "teller", "deeds"] ["self", "shares", "hearer", "teller"] (defScope sCInit) := ⟨rfl, rfl, rfl, by decide +kernel, rfl, by decide +kernel, by decide +kernel⟩
theorem ok_CInit {fS fG fC CN C fI : Addr} {fd fdS fdG fdC : FuncData} {k : Nat} (F : Fun K "__init__" "Case.__init__" sCInit fI fd) (T : CaT K mg C fI)
    (GS : FnOk P w K mg base (L2.CX P w) k fS fdS ["shares"] (spChkS K CN)) (kS : PySem.W.keepIn K (.ref fS) = true) (bS : Binds K fdS ["shares"] []) (gS : mg "check_shares" = some (.ref fS)) (GG : FnOk P w K mg base (L2.CX P w) k fG fdG ["part", "rows", "worlds", "least", "most"] (spChkG K CN)) (kG : PySem.W.keepIn K (.ref fG) = true) (bG : Binds K fdG ["part", "rows", "worlds", "least", "most"] []) (gG : mg "check_gains" = some (.ref fG)) (GC : FnOk P w K mg base CX0 k fC fdC ["rows"] (spCopied K)) (kC : PySem.W.keepIn K (.ref fC) = true) (bC : Binds K fdC ["rows"] []) (gC : mg "copied_rows" = some (.ref fC)) (B : Blt mg) : FnOk P w K mg base (L2.CX P w) (k + 1) fI fd ["self", "shares", "hearer", "teller"] (spCInit K C CN) := by
  obtain ⟨t6, g6⟩ := T.g6
  refine F.okX scCInit (fun vs H Q E h => ?_) (fun cdv A outer s H vs Q E hr h => ?_)
  · obtain ⟨ex, n, x, dx, vs0, vh, vt, ds, dh, dt, rfl, _⟩ := h
    rfl
  · obtain ⟨ex, n, x, dx, vs0, vh, vt, ds, dh, dt, rfl, hx, hs, hh, ht, hn, fs, fh, ft, qE, q⟩ := h
    have hk := hr
    refine ⟨_, (pss_cons (ps_expr (pe_call GS hk (by rfl) gS kS bS .nil (passes_call (W := fun cls d _ H' => E cls d H') (takes_of rfl rfl rfl rfl) (fun _ _ _ _ h => h)) (pa_cons (pv 1) pa_nil)))
      (pss_cons (ps_expr (pe_call GG hk (by rfl) gG kG bG .nil (passes_call (W := fun cls d _ H' => E cls d H') (takes_of rfl rfl rfl rfl) (fun _ _ _ _ h => h)) (pa_cons pe_str (pa_cons (pv 2) (pa_cons (pe_callB call_len_seq (by rfl) B.len_ PySem.boot_len (pa_cons (pv 1) pa_nil)) (pa_cons pe_int (pa_cons (pe_glob (v := .int 6) (by rfl) g6 ⟨_, rfl⟩) pa_nil)))))))
      (pss_cons (ps_set (i := 4) scCInit.nd rfl (.inl rfl) (pe_callB call_len_seq (by rfl) B.len_ PySem.boot_len (pa_cons (pe_ix ix_list (pv 2) pe_int (fun _ _ => rfl)) pa_nil)))
      (pss_cons (ps_expr (pe_call GG hk (by rfl) gG kG bG .nil (passes_call (W := fun cls d _ H' => E cls d H') (takes_of rfl rfl rfl rfl) (fun _ _ _ _ h => h)) (pa_cons pe_str (pa_cons (pv 3) (pa_cons (pe_callB call_len_seq (by rfl) B.len_ PySem.boot_len (pa_cons (pv 1) pa_nil)) (pa_cons (pv 4) (pa_cons (pv 4) pa_nil)))))))
      (pss_cons (ps_fld (pv 0) (pe_callTy (T := "list") call_list_of (by rfl) B.list_ (by decide +kernel) (pa_cons (pv 1) pa_nil)) rfl)
      (pss_cons (ps_fld (pv 0) (pe_call GC hk (by rfl) gC kC bC .nil pass0 (pa_cons (pv 2) pa_nil)) rfl)
      (pss_one (ps_fld (pv 0) (pe_call GC hk (by rfl) gC kC bC .nil pass0 (pa_cons (pv 3) pa_nil)) rfl)))))))), ?_⟩
    refine ⟨_, rfl, ex, vs0, ds, rfl, hs, fun d hd r e => (fs d hd r e).mono hn, fun r er => ?_, fun eS H1 s1 => ?_⟩
    · have e : badC ds dh dt = some (("shares" : Str), r) := by unfold badC; rw [er]; rfl
      exact qE _ _ e
    have c0 : lenOk (lenD ds) 1 5 = true := by
      unfold badS at eS
      split at eS
      · assumption
      · cases eS
    obtain ⟨es, rfl, l1, l5⟩ := lenOk_list c0
    have hs1 := hs.same s1
    cases hs with
    | @lst a0 xs0 _ ha0 _ ts0 =>
      have hl0 : xs0.length = es.length := ts0.len
      refine ⟨_, rfl, _, rfl, a0, xs0, rfl, .inl (SqL.of (s1 _ _ ha0)), ex, "hearer", vh, dh, _, 1, 6, rfl, hh.same s1, by decide, fun r er H' dd s' hdd => ?_, fun eH H2 s2 => ?_⟩
      · refine qE "hearer" r ?_ H' dd (s1.trans s') hdd
        unfold badC
        rw [eS]
        show orP "hearer" (badG dh (es.length : Int) 1 6) _ = _
        rw [← hl0, er]
        rfl
      have eH' : badG dh (es.length : Int) 1 6 = none := by rw [← hl0]; exact eH
      have ch : lenOk (lenD dh) (es.length : Int) (es.length : Int) = true := by
        unfold badG at eH'
        split at eH'
        · assumption
        · cases eH'
      obtain ⟨hs', rfl, m1, m2⟩ := lenOk_list ch
      have fwH : firstWrongZ hs' 0 1 6 = none := by
        unfold badG at eH'
        rw [if_pos ch] at eH'
        cases z : firstWrongZ hs' 0 1 6 with
        | none => rfl
        | some j =>
          have : (firstWrongZ hs' 0 1 6).map (fun j => V.int (j : Nat)) = none := eH'
          rw [z] at this
          cases this
      cases hh with
      | @lst a1 xs1 _ ha1 _ ts1 =>
        obtain ⟨rh, hss, w1, w2, w3⟩ := rows_of ts1 fh fwH
        have hl1 : rh.length = es.length := by
          have := ts1.len
          rw [w1, List.length_map] at this
          omega
        have h0 : 0 < rh.length := by omega
        have er0 : rh[0]? = some rh[0] := List.getElem?_eq_getElem h0
        obtain ⟨cs0, q0, z1, z2, z3⟩ := w3.2 0 _ er0
        have s12 := s1.trans s2
        have hd : (cs0.length : Int) = (deedsD (.list hs') : Int) := by
          have : deedsD (.list hs') = cs0.length := by
            unfold deedsD
            show (itemsD (hs'.headD .none)).length = _
            rw [w2]
            cases hss with
            | nil => simp at z1
            | cons r hss =>
              have er : r = q0 := Option.some.inj z1
              show (r.map dR).length = _
              rw [List.length_map, z3.len, er]
          rw [this]
        have hd6 : (cs0.length : Int) ≤ 6 := by
          cases hs' with
          | nil =>
            have : es.length ≤ 0 := by simpa using m1
            omega
          | cons r hs' =>
            rw [firstWrongZ] at fwH
            split at fwH
            · rename_i c
              unfold rowOkZ at c
              rw [Bool.and_eq_true] at c
              obtain ⟨es', e, _, l6⟩ := lenOk_list c.1
              rw [hd]
              subst e
              exact l6
            · cases fwH
        refine ⟨_, rfl, a1, _, 0, .ref rh[0], rfl, rfl, SqL.of (s12 _ _ ha1), atI_nat (j := 0) (by rw [w1, List.getElem?_map, er0]; rfl), rh[0], cs0, rfl, .inl (SqL.of (s12 _ _ z2)), ?_⟩
        refine ⟨_, rfl, _, rfl, a0, xs0, rfl, .inl (SqL.of (s12 _ _ ha0)), _, rfl, _, rfl, ex, "teller", vt, dt, _, _, _, rfl, ht.same s12, hd6, fun r er H' dd s' hdd => ?_, fun eT H3 s3 => ?_⟩
        · refine qE "teller" r ?_ H' dd (s12.trans s') hdd
          unfold badC
          rw [eS]
          show orP "hearer" (badG (.list hs') (es.length : Int) 1 6) (orP "teller" (badG dt (es.length : Int) (deedsD (.list hs') : Int) (deedsD (.list hs') : Int)) none) = _
          rw [eH', ← hd, ← hl0, er]
          rfl
        have eT' : badG dt (es.length : Int) (deedsD (.list hs') : Int) (deedsD (.list hs') : Int) = none := by rw [← hd, ← hl0]; exact eT
        have ct : lenOk (lenD dt) (es.length : Int) (es.length : Int) = true := by
          unfold badG at eT'
          split at eT'
          · assumption
          · cases eT'
        obtain ⟨ts', rfl, n1, n2⟩ := lenOk_list ct
        have fwT : firstWrongZ ts' 0 (deedsD (.list hs') : Int) (deedsD (.list hs') : Int) = none := by
          unfold badG at eT'
          rw [if_pos ct] at eT'
          cases z : firstWrongZ ts' 0 (deedsD (.list hs') : Int) (deedsD (.list hs') : Int) with
          | none => rfl
          | some j =>
            have : (firstWrongZ ts' 0 (deedsD (.list hs') : Int) (deedsD (.list hs') : Int)).map (fun j => V.int (j : Nat)) = none := eT'
            rw [z] at this
            cases this
        have good : badC (.list es) (.list hs') (.list ts') = none := by
          unfold badC
          rw [eS]
          show orP "hearer" (badG (.list hs') (es.length : Int) 1 6) (orP "teller" (badG (.list ts') (es.length : Int) (deedsD (.list hs') : Int) (deedsD (.list hs') : Int)) none) = _
          rw [eH', eT']
          rfl
        cases ht with
        | @lst a2 xs2 _ ha2 _ ts2 =>
          obtain ⟨rt, tss, v1, v2, v3⟩ := rows_of ts2 ft fwT
          have hrat : es.all (fun e => (ratD e).isSome) = true := by
            have z : firstNot shD es 0 = none := by
              unfold badS at eS
              rw [if_pos c0] at eS
              have eS' : numS (firstNot shD es 0) (sumD es) = none := eS
              cases z : firstNot shD es 0 with
              | none => rfl
              | some j => rw [z] at eS'; cases eS'
            have hall := firstNot_all z
            rw [List.all_eq_true] at hall ⊢
            intro e he
            have := hall e he
            unfold shD at this
            cases z : ratD e with
            | none => rw [z] at this; cases this
            | some q => rfl
          obtain ⟨qs, g1, g2⟩ := ts0.rats (n := n) fs hrat
          have s123 := s12.trans s3
          have hhl : hss.length ≤ 100 := by have := w3.1; omega
          have htl : tss.length ≤ 100 := by
            have := v3.1
            have z := ts2.len
            rw [v1, List.length_map] at z
            omega
          -- the fields
          refine ⟨_, rfl, a0, xs0, rfl, .inl (SqL.of (s123 _ _ ha0)), fun sa nsa => ?_⟩
          have t1 := same_new nsa (.lst xs0)
          have esa : (upd H3 sa (.lst xs0)) sa = some (.lst xs0) := upd_same
          generalize upd H3 sa (.lst xs0) = H4 at t1 esa ⊢
          have s4 := s123.trans t1
          refine ⟨_, rfl, x, C, dx, [], rfl, s4 _ _ hx, T.cl, T.n1, by decide, ?_⟩
          have kx : ∀ {H1 : Hp} {fs gs : List (Str × V)}, H1 x = some (.ins C dx fs) → ∀ b xs, SqT K H1 b xs → SqT K (upd H1 x (.ins C dx gs)) b xs := fun {H1 fs gs} hx b xs z => by
            rcases z with (z | ⟨o, z⟩) | z
            · exact .inl (.inl (by rw [upd_ne (ne_of z hx (by intro w; cases w))]; exact z))
            · exact .inl (.inr ⟨o, by rw [upd_ne (ne_of z hx (by intro w; cases w))]; exact z⟩)
            · exact .inr z
          have wh : RwL K H4 a1 rh hss n := RwL.same ⟨by rw [← w1]; exact ha1, w3⟩ s4
          have wt : RwL K H4 a2 rt tss n := RwL.same ⟨by rw [← v1]; exact ha2, v3⟩ s4
          have hx4 := s4 _ _ hx
          have hx5 : (upd H4 x (.ins C dx (putF "own_shares" (.ref sa) []))) x = some (.ins C dx [("own_shares", .ref sa)]) := upd_same
          have wh5 := Rs.RwL.ins (gs := putF "own_shares" (.ref sa) []) wh hx4
          have wt5 := Rs.RwL.ins (gs := putF "own_shares" (.ref sa) []) wt hx4
          have sa5 : (upd H4 x (.ins C dx (putF "own_shares" (.ref sa) []))) sa = some (.lst xs0) := by rw [upd_ne (ne_of esa hx4 (by intro w; cases w))]; exact esa
          have fr5 : FrN K (upd H4 x (.ins C dx (putF "own_shares" (.ref sa) []))) n xs0 qs := (g2.same s4).keep (kx hx4)
          have k5 : ∀ b ob, b ≠ x → H b = some ob → (upd H4 x (.ins C dx (putF "own_shares" (.ref sa) []))) b = some ob := fun b ob hb e => by rw [upd_ne hb]; exact s4 _ _ e
          generalize upd H4 x (.ins C dx (putF "own_shares" (.ref sa) [])) = H5 at hx5 wh5 wt5 sa5 fr5 k5 ⊢
          refine ⟨_, rfl, a1, rh, hss, n, rfl, wh5, hhl, fun hA rh' H6 fr6 => ?_⟩
          have s6 := fr6.2.2.2.2.2
          have hx6 := s6 _ _ hx5
          refine ⟨_, rfl, x, C, dx, _, rfl, hx6, T.cl, T.n2, (by show 1 < 1000; decide), ?_⟩
          have hx7 : (upd H6 x (.ins C dx (putF "own_hearer" (.ref hA) [("own_shares", .ref sa)]))) x = some (.ins C dx [("own_shares", .ref sa), ("own_hearer", .ref hA)]) := upd_same
          have wA7 := Rs.RwL.ins (gs := putF "own_hearer" (.ref hA) [("own_shares", .ref sa)]) fr6.1 hx6
          have wt7 := Rs.RwL.ins (gs := putF "own_hearer" (.ref hA) [("own_shares", .ref sa)]) (wt5.same s6) hx6
          have sa7 : (upd H6 x (.ins C dx (putF "own_hearer" (.ref hA) [("own_shares", .ref sa)]))) sa = some (.lst xs0) := by rw [upd_ne (ne_of (s6 _ _ sa5) hx6 (by intro w; cases w))]; exact s6 _ _ sa5
          have fr7 : FrN K (upd H6 x (.ins C dx (putF "own_hearer" (.ref hA) [("own_shares", .ref sa)]))) n xs0 qs := (fr5.same s6).keep (kx hx6)
          have k7 : ∀ b ob, b ≠ x → H b = some ob → (upd H6 x (.ins C dx (putF "own_hearer" (.ref hA) [("own_shares", .ref sa)]))) b = some ob := fun b ob hb e => by rw [upd_ne hb]; exact s6 _ _ (k5 b ob hb e)
          generalize upd H6 x (.ins C dx (putF "own_hearer" (.ref hA) [("own_shares", .ref sa)])) = H7 at hx7 wA7 wt7 sa7 fr7 k7 ⊢
          refine ⟨_, rfl, a2, rt, tss, n, rfl, wt7, htl, fun tA rt' H8 fr8 => ?_⟩
          have s8 := fr8.2.2.2.2.2
          have hx8 := s8 _ _ hx7
          refine ⟨_, rfl, x, C, dx, _, rfl, hx8, T.cl, T.n3, (by show 2 < 1000; decide), ?_⟩
          refine q good sa hA tA xs0 rh' rt' qs hss tss _ (fun b ob hb e => ?_) upd_same ?_ ((fr7.same s8).keep (kx hx8)) (Rs.RwL.ins (wA7.same s8) hx8) (Rs.RwL.ins fr8.1 hx8) (by rw [g1]) (by rw [w2]; rfl) (by rw [v2]; rfl)
          · rw [upd_ne hb]
            exact s8 _ _ (k7 b ob hb e)
          · rw [upd_ne (ne_of (s8 _ _ sa7) hx8 (by intro w; cases w))]
            exact s8 _ _ sa7
end
end K67

set_option Elab.async false
set_option linter.all false
set_option maxRecDepth 100000
set_option maxHeartbeats 16000000
namespace K67
open PySem PySem.Spec PyProof.Rows L2 BX EXB Co Ru
open Dz Cs Hr Gs Nt
open Rs (Rsp Rv Ret tYes_of dV datR Flat Okr spShares spRowsL spTotal spCopied eqv_dR)
open Fr (Bd)
open TL (tl numL)
def spCInitF (K : PySem.W.Frag) (C CN : Addr) : Sp := fun vs H Q E => ∃ (ex : Addr → Prop) (n : Nat) (x dx : Addr) (vs0 vh vt : V) (ds dh dt : PyData), vs = [.ref x, vs0, vh, vt] ∧ H x = some (.ins C dx []) ∧ Dz.Dz K H ex vs0 ds ∧ Dz.Dz K H ex vh dh ∧ Dz.Dz K H ex vt dt ∧
  n ≤ 1000 ∧ Few n (itemsD ds) ∧ (∀ d ∈ itemsD dh, Few n (itemsD d)) ∧ (∀ d ∈ itemsD dt, Few n (itemsD d)) ∧
  (∀ p r, badC ds dh dt = some (p, r) → ∀ H' dd, Same H H' → H' dd = some (.xd [("number", r), ("part", .str p)]) → E (.ref CN) (some dd) H') ∧
  (badC ds dh dt = none → ∀ sa ha ta cs rh rt qs hss tss H', (∀ b ob, b ≠ x → H b = some ob → H' b = some ob) → H' x = some (.ins C dx [("own_shares", .ref sa), ("own_hearer", .ref ha), ("own_teller", .ref ta)]) → H' sa = some (.lst cs) → FrN K H' n cs qs → RwL K H' ha rh hss n → RwL K H' ta rt tss n →
    ds = dS qs → dh = dRows hss → dt = dRows tss → H sa = none → H ha = none → (∀ r ∈ rh, H r = none) → H ta = none → (∀ r ∈ rt, H r = none) → Q .non H')
theorem mk_caseF {K : PySem.W.Frag} {n : Nat} (hn : n ≤ 1000) {C CN A B' C' : Addr} {H : Hp} {cs : List V} {rh rt : List Addr} {qs : List Rat} {hss tss : List (List Rat)} {ww dd : Nat} {Q : Addr → Hp → Prop} (e2 : H A = some (.lst cs)) (e3 : FrN K H n cs qs) (e4 : RwL K H B' rh hss n) (e5 : RwL K H C' rt tss n) (g : GoodC qs hss tss ww dd) (q : ∀ x dx sa ha ta cs rh rt H', Same H H' → H x = none → H' x = some (.ins C dx [("own_shares", .ref sa), ("own_hearer", .ref ha), ("own_teller", .ref ta)]) → H' sa = some (.lst cs) → FrN K H' n cs qs → RwL K H' ha rh hss n → RwL K H' ta rt tss n → H sa = none → H ha = none → (∀ r ∈ rh, H r = none) → H ta = none → (∀ r ∈ rt, H r = none) → Q x H') :
    ∀ x dx, H x = none → H dx = none → dx ≠ x → spCInitF K C CN [.ref x, .ref A, .ref B', .ref C'] (upd (upd H dx (.own x)) x (.ins C dx [])) (fun v H2 => v = .non ∧ Q x H2) E0 := by
  intro x dx hx hdx hne
  have s1 := same_new hdx (.own x)
  have hx1 : (upd H dx (.own x)) x = none := by rw [upd_ne (Ne.symm hne)]; exact hx
  have s2 := s1.trans (same_new hx1 (.ins C dx []))
  refine ⟨fun _ => False, n, x, dx, .ref A, .ref B', .ref C', dS qs, dRows hss, dRows tss, rfl, upd_same, .lst (s2 _ _ e2) (fun z => z) ((frn_dz e3).same s2), .lst (s2 _ _ e4.1) (fun z => z) ((rows_dz e4.2 fun _ _ z => z).same s2), .lst (s2 _ _ e5.1) (fun z => z) ((rows_dz e5.2 fun _ _ z => z).same s2), hn, few_dR e3, few_rows e4.2, few_rows e5.2, fun p r er => ?_, fun _ sa ha ta cs' rh' rt' qs' hss' tss' H' kp hx' g1 g2 g3 g4 i1 i2 i3 f1 f2 f3 f4 f5 => ⟨rfl, ?_⟩⟩
  · rw [badC_good g] at er
    cases er
  · have j1 := dS_inj i1
    have j2 := dRows_inj i2
    have j3 := dRows_inj i3
    subst j1 j2 j3
    exact q x dx sa ha ta cs' rh' rt' H' (fun b ob e => kp b ob (ne_of_none e hx) (s2 _ _ e)) hx hx' g1 g2 g3 g4 (s2.free f1) (s2.free f2) (fun r hr => s2.free (f3 r hr)) (s2.free f4) (fun r hr => s2.free (f5 r hr))
/-- a case made of lists, apart from all that was there -/
theorem mk_caseG {K : PySem.W.Frag} {G : Hp} {C CN S hA tA : Addr} {cs : List V} {qs : List Rat} {hss tss : List (List Rat)} {rh rt : List Addr} {n ww dd : Nat} {H : Hp} {Q : Addr → Hp → Prop} (hn : n ≤ 1000) (fr : Frz K G H) (hS : H S = some (.lst cs)) (hf : FrN K H n cs qs) (hh : RwL K H hA rh hss n) (ht : RwL K H tA rt tss n) (g : GoodC qs hss tss ww dd)
    (q : ∀ z H', Same H H' → H z = none → IsCase K (ext G H H') C z qs hss tss n → Q z H') :
    ∀ x dx, H x = none → H dx = none → dx ≠ x → spCInitF K C CN [.ref x, .ref S, .ref hA, .ref tA] (upd (upd H dx (.own x)) x (.ins C dx [])) (fun v H2 => v = .non ∧ Q x H2) E0 :=
  mk_caseF (n := n) hn (CN := CN) hS hf hh ht g fun z dz sz hz tz cz rhz rtz H9 s9 nz hz1 hz2 hz3 hz4 hz5 f1 f2 f3 f4 f5 => by
    have f9 := fr.more s9
    exact q z H9 s9 nz ⟨dz, sz, hz, tz, cz, rhz, rtz, by rw [ext_new nz]; exact hz1, by rw [ext_new f1]; exact hz2, frn_ext f9 hz3, rwl_ext f9 hz4 f2 f3, rwl_ext f9 hz5 f4 f5⟩
/-- of another kind than cases -/
def Odd (K : PySem.W.Frag) (H : Hp) (C : Addr) (y : V) : Prop := ∃ t, TyX K H y t ∧ PySem.W.kitOne K t (.ref C) = some false
def spCEq (K : PySem.W.Frag) (C : Addr) : Sp := fun vs H Q _ => ∃ (x : Addr) (y : V) (qs : List Rat) (hss tss : List (List Rat)) (n : Nat), vs = [.ref x, y] ∧ IsCase K H C x qs hss tss n ∧
  ((Odd K H C y ∧ Q (.bl false) H) ∨ ∃ (y' : Addr) (us : List Rat) (iss kss : List (List Rat)) (m : Nat), y = .ref y' ∧ IsCase K H C y' us iss kss m ∧ Q (.bl (decide (qs = us ∧ hss = iss ∧ tss = kss))) H)
theorem eqv_ratsA : ∀ t u : List Rat, PyData.eqvAll (t.map dR) (u.map dR) = decide (t = u)
  | [], [] => rfl
  | [], _ :: _ => rfl
  | _ :: _, [] => rfl
  | a :: t, b :: u => by
    rw [List.map_cons, List.map_cons, PyData.eqvAll, eqv_ratsA t u, Rs.eqv_dR, ← Bool.decide_and]
    exact decide_eq_decide.mpr ⟨fun ⟨x, y⟩ => by rw [x, y], fun z => by cases z; exact ⟨rfl, rfl⟩⟩
theorem eqv_rats (t u : List Rat) : PyData.eqv (.list (t.map dR)) (.list (u.map dR)) = decide (t = u) := by
  rw [PyData.eqv]
  exact eqv_ratsA t u
theorem eqv_rowsA : ∀ t u : List (List Rat), PyData.eqvAll (t.map fun qs => PyData.list (qs.map dR)) (u.map fun qs => PyData.list (qs.map dR)) = decide (t = u)
  | [], [] => rfl
  | [], _ :: _ => rfl
  | _ :: _, [] => rfl
  | a :: t, b :: u => by
    rw [List.map_cons, List.map_cons, PyData.eqvAll, eqv_rowsA t u, eqv_rats, ← Bool.decide_and]
    exact decide_eq_decide.mpr ⟨fun ⟨x, y⟩ => by rw [x, y], fun z => by cases z; exact ⟨rfl, rfl⟩⟩
theorem eqv_rows (t u : List (List Rat)) : PyData.eqv (dRows t) (dRows u) = decide (t = u) := by
  unfold dRows
  rw [PyData.eqv]
  exact eqv_rowsA t u
section
variable {P : Program} {w : World} {K : PySem.W.Frag} {mg : Str → Option Value} {base : Heap}
theorem ok_CInitF {fS fG fC CN C fI : Addr} {fd fdS fdG fdC : FuncData} {k : Nat} (F : Fun K "__init__" "Case.__init__" sCInit fI fd) (T : CaT K mg C fI)
    (GS : FnOk P w K mg base (L2.CX P w) k fS fdS ["shares"] (spChkS K CN)) (kS : PySem.W.keepIn K (.ref fS) = true) (bS : Binds K fdS ["shares"] []) (gS : mg "check_shares" = some (.ref fS)) (GG : FnOk P w K mg base (L2.CX P w) k fG fdG ["part", "rows", "worlds", "least", "most"] (spChkG K CN)) (kG : PySem.W.keepIn K (.ref fG) = true) (bG : Binds K fdG ["part", "rows", "worlds", "least", "most"] []) (gG : mg "check_gains" = some (.ref fG)) (GC : FnOk P w K mg base CX0 k fC fdC ["rows"] (spCopied K)) (kC : PySem.W.keepIn K (.ref fC) = true) (bC : Binds K fdC ["rows"] []) (gC : mg "copied_rows" = some (.ref fC)) (B : Blt mg) : FnOk P w K mg base (L2.CX P w) (k + 1) fI fd ["self", "shares", "hearer", "teller"] (spCInitF K C CN) := by
  obtain ⟨t6, g6⟩ := T.g6
  refine F.okX scCInit (fun vs H Q E h => ?_) (fun cdv A outer s H vs Q E hr h => ?_)
  · obtain ⟨ex, n, x, dx, vs0, vh, vt, ds, dh, dt, rfl, _⟩ := h
    rfl
  · obtain ⟨ex, n, x, dx, vs0, vh, vt, ds, dh, dt, rfl, hx, hs, hh, ht, hn, fs, fh, ft, qE, q⟩ := h
    have hk := hr
    refine ⟨_, (pss_cons (ps_expr (pe_call GS hk (by rfl) gS kS bS .nil (passes_call (W := fun cls d _ H' => E cls d H') (takes_of rfl rfl rfl rfl) (fun _ _ _ _ h => h)) (pa_cons (pv 1) pa_nil)))
      (pss_cons (ps_expr (pe_call GG hk (by rfl) gG kG bG .nil (passes_call (W := fun cls d _ H' => E cls d H') (takes_of rfl rfl rfl rfl) (fun _ _ _ _ h => h)) (pa_cons pe_str (pa_cons (pv 2) (pa_cons (pe_callB call_len_seq (by rfl) B.len_ PySem.boot_len (pa_cons (pv 1) pa_nil)) (pa_cons pe_int (pa_cons (pe_glob (v := .int 6) (by rfl) g6 ⟨_, rfl⟩) pa_nil)))))))
      (pss_cons (ps_set (i := 4) scCInit.nd rfl (.inl rfl) (pe_callB call_len_seq (by rfl) B.len_ PySem.boot_len (pa_cons (pe_ix ix_list (pv 2) pe_int (fun _ _ => rfl)) pa_nil)))
      (pss_cons (ps_expr (pe_call GG hk (by rfl) gG kG bG .nil (passes_call (W := fun cls d _ H' => E cls d H') (takes_of rfl rfl rfl rfl) (fun _ _ _ _ h => h)) (pa_cons pe_str (pa_cons (pv 3) (pa_cons (pe_callB call_len_seq (by rfl) B.len_ PySem.boot_len (pa_cons (pv 1) pa_nil)) (pa_cons (pv 4) (pa_cons (pv 4) pa_nil)))))))
      (pss_cons (ps_fld (pv 0) (pe_callTy (T := "list") call_list_of (by rfl) B.list_ (by decide +kernel) (pa_cons (pv 1) pa_nil)) rfl)
      (pss_cons (ps_fld (pv 0) (pe_call GC hk (by rfl) gC kC bC .nil pass0 (pa_cons (pv 2) pa_nil)) rfl)
      (pss_one (ps_fld (pv 0) (pe_call GC hk (by rfl) gC kC bC .nil pass0 (pa_cons (pv 3) pa_nil)) rfl)))))))), ?_⟩
    refine ⟨_, rfl, ex, vs0, ds, rfl, hs, fun d hd r e => (fs d hd r e).mono hn, fun r er => ?_, fun eS H1 s1 => ?_⟩
    · have e : badC ds dh dt = some (("shares" : Str), r) := by unfold badC; rw [er]; rfl
      exact qE _ _ e
    have c0 : lenOk (lenD ds) 1 5 = true := by
      unfold badS at eS
      split at eS
      · assumption
      · cases eS
    obtain ⟨es, rfl, l1, l5⟩ := lenOk_list c0
    have hs1 := hs.same s1
    cases hs with
    | @lst a0 xs0 _ ha0 _ ts0 =>
      have hl0 : xs0.length = es.length := ts0.len
      refine ⟨_, rfl, _, rfl, a0, xs0, rfl, .inl (SqL.of (s1 _ _ ha0)), ex, "hearer", vh, dh, _, 1, 6, rfl, hh.same s1, by decide, fun r er H' dd s' hdd => ?_, fun eH H2 s2 => ?_⟩
      · refine qE "hearer" r ?_ H' dd (s1.trans s') hdd
        unfold badC
        rw [eS]
        show orP "hearer" (badG dh (es.length : Int) 1 6) _ = _
        rw [← hl0, er]
        rfl
      have eH' : badG dh (es.length : Int) 1 6 = none := by rw [← hl0]; exact eH
      have ch : lenOk (lenD dh) (es.length : Int) (es.length : Int) = true := by
        unfold badG at eH'
        split at eH'
        · assumption
        · cases eH'
      obtain ⟨hs', rfl, m1, m2⟩ := lenOk_list ch
      have fwH : firstWrongZ hs' 0 1 6 = none := by
        unfold badG at eH'
        rw [if_pos ch] at eH'
        cases z : firstWrongZ hs' 0 1 6 with
        | none => rfl
        | some j =>
          have : (firstWrongZ hs' 0 1 6).map (fun j => V.int (j : Nat)) = none := eH'
          rw [z] at this
          cases this
      cases hh with
      | @lst a1 xs1 _ ha1 _ ts1 =>
        obtain ⟨rh, hss, w1, w2, w3⟩ := rows_of ts1 fh fwH
        have hl1 : rh.length = es.length := by
          have := ts1.len
          rw [w1, List.length_map] at this
          omega
        have h0 : 0 < rh.length := by omega
        have er0 : rh[0]? = some rh[0] := List.getElem?_eq_getElem h0
        obtain ⟨cs0, q0, z1, z2, z3⟩ := w3.2 0 _ er0
        have s12 := s1.trans s2
        have hd : (cs0.length : Int) = (deedsD (.list hs') : Int) := by
          have : deedsD (.list hs') = cs0.length := by
            unfold deedsD
            show (itemsD (hs'.headD .none)).length = _
            rw [w2]
            cases hss with
            | nil => simp at z1
            | cons r hss =>
              have er : r = q0 := Option.some.inj z1
              show (r.map dR).length = _
              rw [List.length_map, z3.len, er]
          rw [this]
        have hd6 : (cs0.length : Int) ≤ 6 := by
          cases hs' with
          | nil =>
            have : es.length ≤ 0 := by simpa using m1
            omega
          | cons r hs' =>
            rw [firstWrongZ] at fwH
            split at fwH
            · rename_i c
              unfold rowOkZ at c
              rw [Bool.and_eq_true] at c
              obtain ⟨es', e, _, l6⟩ := lenOk_list c.1
              rw [hd]
              subst e
              exact l6
            · cases fwH
        refine ⟨_, rfl, a1, _, 0, .ref rh[0], rfl, rfl, SqL.of (s12 _ _ ha1), atI_nat (j := 0) (by rw [w1, List.getElem?_map, er0]; rfl), rh[0], cs0, rfl, .inl (SqL.of (s12 _ _ z2)), ?_⟩
        refine ⟨_, rfl, _, rfl, a0, xs0, rfl, .inl (SqL.of (s12 _ _ ha0)), _, rfl, _, rfl, ex, "teller", vt, dt, _, _, _, rfl, ht.same s12, hd6, fun r er H' dd s' hdd => ?_, fun eT H3 s3 => ?_⟩
        · refine qE "teller" r ?_ H' dd (s12.trans s') hdd
          unfold badC
          rw [eS]
          show orP "hearer" (badG (.list hs') (es.length : Int) 1 6) (orP "teller" (badG dt (es.length : Int) (deedsD (.list hs') : Int) (deedsD (.list hs') : Int)) none) = _
          rw [eH', ← hd, ← hl0, er]
          rfl
        have eT' : badG dt (es.length : Int) (deedsD (.list hs') : Int) (deedsD (.list hs') : Int) = none := by rw [← hd, ← hl0]; exact eT
        have ct : lenOk (lenD dt) (es.length : Int) (es.length : Int) = true := by
          unfold badG at eT'
          split at eT'
          · assumption
          · cases eT'
        obtain ⟨ts', rfl, n1, n2⟩ := lenOk_list ct
        have fwT : firstWrongZ ts' 0 (deedsD (.list hs') : Int) (deedsD (.list hs') : Int) = none := by
          unfold badG at eT'
          rw [if_pos ct] at eT'
          cases z : firstWrongZ ts' 0 (deedsD (.list hs') : Int) (deedsD (.list hs') : Int) with
          | none => rfl
          | some j =>
            have : (firstWrongZ ts' 0 (deedsD (.list hs') : Int) (deedsD (.list hs') : Int)).map (fun j => V.int (j : Nat)) = none := eT'
            rw [z] at this
            cases this
        have good : badC (.list es) (.list hs') (.list ts') = none := by
          unfold badC
          rw [eS]
          show orP "hearer" (badG (.list hs') (es.length : Int) 1 6) (orP "teller" (badG (.list ts') (es.length : Int) (deedsD (.list hs') : Int) (deedsD (.list hs') : Int)) none) = _
          rw [eH', eT']
          rfl
        cases ht with
        | @lst a2 xs2 _ ha2 _ ts2 =>
          obtain ⟨rt, tss, v1, v2, v3⟩ := rows_of ts2 ft fwT
          have hrat : es.all (fun e => (ratD e).isSome) = true := by
            have z : firstNot shD es 0 = none := by
              unfold badS at eS
              rw [if_pos c0] at eS
              have eS' : numS (firstNot shD es 0) (sumD es) = none := eS
              cases z : firstNot shD es 0 with
              | none => rfl
              | some j => rw [z] at eS'; cases eS'
            have hall := firstNot_all z
            rw [List.all_eq_true] at hall ⊢
            intro e he
            have := hall e he
            unfold shD at this
            cases z : ratD e with
            | none => rw [z] at this; cases this
            | some q => rfl
          obtain ⟨qs, g1, g2⟩ := ts0.rats (n := n) fs hrat
          have s123 := s12.trans s3
          have hhl : hss.length ≤ 100 := by have := w3.1; omega
          have htl : tss.length ≤ 100 := by
            have := v3.1
            have z := ts2.len
            rw [v1, List.length_map] at z
            omega
          -- the fields
          refine ⟨_, rfl, a0, xs0, rfl, .inl (SqL.of (s123 _ _ ha0)), fun sa nsa => ?_⟩
          have t1 := same_new nsa (.lst xs0)
          have esa : (upd H3 sa (.lst xs0)) sa = some (.lst xs0) := upd_same
          generalize upd H3 sa (.lst xs0) = H4 at t1 esa ⊢
          have s4 := s123.trans t1
          refine ⟨_, rfl, x, C, dx, [], rfl, s4 _ _ hx, T.cl, T.n1, by decide, ?_⟩
          have kx : ∀ {H1 : Hp} {fs gs : List (Str × V)}, H1 x = some (.ins C dx fs) → ∀ b xs, SqT K H1 b xs → SqT K (upd H1 x (.ins C dx gs)) b xs := fun {H1 fs gs} hx b xs z => by
            rcases z with (z | ⟨o, z⟩) | z
            · exact .inl (.inl (by rw [upd_ne (ne_of z hx (by intro w; cases w))]; exact z))
            · exact .inl (.inr ⟨o, by rw [upd_ne (ne_of z hx (by intro w; cases w))]; exact z⟩)
            · exact .inr z
          have wh : RwL K H4 a1 rh hss n := RwL.same ⟨by rw [← w1]; exact ha1, w3⟩ s4
          have wt : RwL K H4 a2 rt tss n := RwL.same ⟨by rw [← v1]; exact ha2, v3⟩ s4
          have hx4 := s4 _ _ hx
          have hx5 : (upd H4 x (.ins C dx (putF "own_shares" (.ref sa) []))) x = some (.ins C dx [("own_shares", .ref sa)]) := upd_same
          have wh5 := Rs.RwL.ins (gs := putF "own_shares" (.ref sa) []) wh hx4
          have wt5 := Rs.RwL.ins (gs := putF "own_shares" (.ref sa) []) wt hx4
          have sa5 : (upd H4 x (.ins C dx (putF "own_shares" (.ref sa) []))) sa = some (.lst xs0) := by rw [upd_ne (ne_of esa hx4 (by intro w; cases w))]; exact esa
          have fr5 : FrN K (upd H4 x (.ins C dx (putF "own_shares" (.ref sa) []))) n xs0 qs := (g2.same s4).keep (kx hx4)
          have k5 : ∀ b ob, b ≠ x → H b = some ob → (upd H4 x (.ins C dx (putF "own_shares" (.ref sa) []))) b = some ob := fun b ob hb e => by rw [upd_ne hb]; exact s4 _ _ e
          generalize upd H4 x (.ins C dx (putF "own_shares" (.ref sa) [])) = H5 at hx5 wh5 wt5 sa5 fr5 k5 ⊢
          have frA : ∀ b, H5 b = none → H b = none := fun b z => by
            cases e : H b with
            | none => rfl
            | some ob =>
              have hbx : b ≠ x := fun w => by
                rw [w, hx5] at z
                cases z
              have := k5 b ob hbx e
              rw [z] at this
              cases this
          refine ⟨_, rfl, a1, rh, hss, n, rfl, wh5, hhl, fun hA rh' H6 fr6 => ?_⟩
          have s6 := fr6.2.2.2.2.2
          have hx6 := s6 _ _ hx5
          refine ⟨_, rfl, x, C, dx, _, rfl, hx6, T.cl, T.n2, (by show 1 < 1000; decide), ?_⟩
          have hx7 : (upd H6 x (.ins C dx (putF "own_hearer" (.ref hA) [("own_shares", .ref sa)]))) x = some (.ins C dx [("own_shares", .ref sa), ("own_hearer", .ref hA)]) := upd_same
          have wA7 := Rs.RwL.ins (gs := putF "own_hearer" (.ref hA) [("own_shares", .ref sa)]) fr6.1 hx6
          have wt7 := Rs.RwL.ins (gs := putF "own_hearer" (.ref hA) [("own_shares", .ref sa)]) (wt5.same s6) hx6
          have sa7 : (upd H6 x (.ins C dx (putF "own_hearer" (.ref hA) [("own_shares", .ref sa)]))) sa = some (.lst xs0) := by rw [upd_ne (ne_of (s6 _ _ sa5) hx6 (by intro w; cases w))]; exact s6 _ _ sa5
          have fr7 : FrN K (upd H6 x (.ins C dx (putF "own_hearer" (.ref hA) [("own_shares", .ref sa)]))) n xs0 qs := (fr5.same s6).keep (kx hx6)
          have k7 : ∀ b ob, b ≠ x → H b = some ob → (upd H6 x (.ins C dx (putF "own_hearer" (.ref hA) [("own_shares", .ref sa)]))) b = some ob := fun b ob hb e => by rw [upd_ne hb]; exact s6 _ _ (k5 b ob hb e)
          generalize upd H6 x (.ins C dx (putF "own_hearer" (.ref hA) [("own_shares", .ref sa)])) = H7 at hx7 wA7 wt7 sa7 fr7 k7 ⊢
          have frB : ∀ b, H7 b = none → H b = none := fun b z => by
            cases e : H b with
            | none => rfl
            | some ob =>
              have hbx : b ≠ x := fun w => by
                rw [w, hx7] at z
                cases z
              have := k7 b ob hbx e
              rw [z] at this
              cases this
          refine ⟨_, rfl, a2, rt, tss, n, rfl, wt7, htl, fun tA rt' H8 fr8 => ?_⟩
          have s8 := fr8.2.2.2.2.2
          have hx8 := s8 _ _ hx7
          refine ⟨_, rfl, x, C, dx, _, rfl, hx8, T.cl, T.n3, (by show 2 < 1000; decide), ?_⟩
          refine q good sa hA tA xs0 rh' rt' qs hss tss _ (fun b ob hb e => ?_) upd_same ?_ ((fr7.same s8).keep (kx hx8)) (Rs.RwL.ins (wA7.same s8) hx8) (Rs.RwL.ins fr8.1 hx8) (by rw [g1]) (by rw [w2]; rfl) (by rw [v2]; rfl) (s123.free nsa) (frA hA fr6.2.2.2.1) (fun r hr => frA r (fr6.2.2.2.2.1 r hr)) (frB tA fr8.2.2.2.1) (fun r hr => frB r (fr8.2.2.2.2.1 r hr))
          · rw [upd_ne hb]
            exact s8 _ _ (k7 b ob hb e)
          · rw [upd_ne (ne_of (s8 _ _ sa7) hx8 (by intro w; cases w))]
            exact s8 _ _ sa7
theorem scCWorlds : FnScope ["self"] ["self"] (defScope sCWorlds) := ⟨rfl, rfl, rfl, by decide +kernel, rfl, by decide +kernel, by decide +kernel⟩
theorem ok_CWorlds {f  : Addr} {fd  : FuncData} {k : Nat} {C fI : Addr} (F : Fun K "worlds" "Case.worlds" sCWorlds f fd) (T : CaT K mg C fI)  (B : Blt mg) : FnOk P w K mg base CX0 (k + 1) f fd ["self"] (spCWorlds K C) := by
  refine F.ok scCWorlds (fun vs H Q E h => ?_) (fun cdv A outer s H vs Q E hr h => ?_)
  · obtain ⟨x, qs, hss, tss, n, rfl, _⟩ := h
    rfl
  · obtain ⟨x, qs, hss, tss, n, rfl, hc, q⟩ := h
    refine ⟨_, (pss_one (ps_ret (pe_callB call_len_seq (by rfl) B.len_ PySem.boot_len (pa_cons (pe_fld (pv 0) rfl) pa_nil)))), ?_⟩
    obtain ⟨dx, sa, ha, ta, cs0, rh, rt, e1, e2, e3, e4, e5⟩ := id hc
    refine ⟨_, rfl, x, C, dx, _, .ref sa, rfl, e1, T.cl, T.n1, rfl, sa, cs0, rfl, .inl (SqL.of e2), ?_⟩
    rw [e3.len]
    exact q
theorem scCDeeds : FnScope ["self"] ["self"] (defScope sCDeeds) := ⟨rfl, rfl, rfl, by decide +kernel, rfl, by decide +kernel, by decide +kernel⟩
theorem ok_CDeeds {f  : Addr} {fd  : FuncData} {k : Nat} {C fI : Addr} (F : Fun K "deeds" "Case.deeds" sCDeeds f fd) (T : CaT K mg C fI)  (B : Blt mg) : FnOk P w K mg base CX0 (k + 1) f fd ["self"] (spCDeeds K C) := by
  refine F.ok scCDeeds (fun vs H Q E h => ?_) (fun cdv A outer s H vs Q E hr h => ?_)
  · obtain ⟨x, qs, hss, tss, n, ww, dd, rfl, _⟩ := h
    rfl
  · obtain ⟨x, qs, hss, tss, n, ww, dd, rfl, hc, g, q⟩ := h
    refine ⟨_, (pss_one (ps_ret (pe_callB call_len_seq (by rfl) B.len_ PySem.boot_len (pa_cons (pe_ix ix_list (pe_fld (pv 0) rfl) pe_int (fun _ _ => rfl)) pa_nil)))), ?_⟩
    obtain ⟨dx, sa, ha, ta, cs0, rh, rt, e1, e2, e3, e4, e5⟩ := id hc
    have w1 := g.w1
    have hl : 0 < rh.length := by rw [e4.2.1, g.hl]; omega
    obtain ⟨c0, q0, f1, f2, f3⟩ := e4.2.2 0 rh[0] (List.getElem?_eq_getElem hl)
    refine ⟨_, rfl, x, C, dx, _, .ref ha, rfl, e1, T.cl, T.n2, rfl, ha, _, 0, .ref rh[0], rfl, rfl, SqL.of e4.1, atI_nat (j := 0) (by rw [List.getElem?_map, List.getElem?_eq_getElem hl]; rfl), rh[0], c0, rfl, .inl (SqL.of f2), ?_⟩
    rw [f3.len, g.hr q0 (List.mem_of_getElem? f1)]
    exact q
theorem scCShares : FnScope ["self"] ["self"] (defScope sCShares) := ⟨rfl, rfl, rfl, by decide +kernel, rfl, by decide +kernel, by decide +kernel⟩
theorem ok_CShares {f  : Addr} {fd  : FuncData} {k : Nat} {C fI : Addr} (F : Fun K "shares" "Case.shares" sCShares f fd) (T : CaT K mg C fI)  (B : Blt mg) : FnOk P w K mg base CX0 (k + 1) f fd ["self"] (spCShares K C) := by
  refine F.ok scCShares (fun vs H Q E h => ?_) (fun cdv A outer s H vs Q E hr h => ?_)
  · obtain ⟨x, qs, hss, tss, n, rfl, _⟩ := h
    rfl
  · obtain ⟨x, qs, hss, tss, n, rfl, hc, q⟩ := h
    refine ⟨_, (pss_one (ps_ret (pe_callTy (T := "list") call_list_of (by rfl) B.list_ (by decide +kernel) (pa_cons (pe_fld (pv 0) rfl) pa_nil)))), ?_⟩
    obtain ⟨dx, sa, ha, ta, cs0, rh, rt, e1, e2, e3, e4, e5⟩ := id hc
    exact ⟨_, rfl, x, C, dx, _, .ref sa, rfl, e1, T.cl, T.n1, rfl, sa, cs0, rfl, .inl (SqL.of e2), fun p hp => q p cs0 hp e3⟩
theorem scCHearer : FnScope ["self"] ["self"] (defScope sCHearer) := ⟨rfl, rfl, rfl, by decide +kernel, rfl, by decide +kernel, by decide +kernel⟩
theorem ok_CHearer {f fP : Addr} {fd fdP : FuncData} {k : Nat} {C fI : Addr} (F : Fun K "hearer" "Case.hearer" sCHearer f fd) (T : CaT K mg C fI) (GP : FnOk P w K mg base CX0 k fP fdP ["rows"] (spCopied K)) (kP : PySem.W.keepIn K (.ref fP) = true) (bP : Binds K fdP ["rows"] []) (gP : mg "copied_rows" = some (.ref fP)) : FnOk P w K mg base CX0 (k + 1) f fd ["self"] (spCHearer K C) := by
  refine F.ok scCHearer (fun vs H Q E h => ?_) (fun cdv A outer s H vs Q E hr h => ?_)
  · obtain ⟨x, qs, hss, tss, n, rfl, _⟩ := h
    rfl
  · obtain ⟨x, qs, hss, tss, n, rfl, hc, h1, q⟩ := h
    refine ⟨_, (pss_one (ps_ret (pe_call GP hr (by rfl) gP kP bP .nil pass0 (pa_cons (pe_fld (pv 0) rfl) pa_nil)))), ?_⟩
    obtain ⟨dx, sa, ha, ta, cs0, rh, rt, e1, e2, e3, e4, e5⟩ := id hc
    exact ⟨_, rfl, x, C, dx, _, .ref ha, rfl, e1, T.cl, T.n2, rfl, ha, rh, hss, n, rfl, e4, h1, q⟩
theorem scCTeller : FnScope ["self"] ["self"] (defScope sCTeller) := ⟨rfl, rfl, rfl, by decide +kernel, rfl, by decide +kernel, by decide +kernel⟩
theorem ok_CTeller {f fP : Addr} {fd fdP : FuncData} {k : Nat} {C fI : Addr} (F : Fun K "teller" "Case.teller" sCTeller f fd) (T : CaT K mg C fI) (GP : FnOk P w K mg base CX0 k fP fdP ["rows"] (spCopied K)) (kP : PySem.W.keepIn K (.ref fP) = true) (bP : Binds K fdP ["rows"] []) (gP : mg "copied_rows" = some (.ref fP)) : FnOk P w K mg base CX0 (k + 1) f fd ["self"] (spCTeller K C) := by
  refine F.ok scCTeller (fun vs H Q E h => ?_) (fun cdv A outer s H vs Q E hr h => ?_)
  · obtain ⟨x, qs, hss, tss, n, rfl, _⟩ := h
    rfl
  · obtain ⟨x, qs, hss, tss, n, rfl, hc, h1, q⟩ := h
    refine ⟨_, (pss_one (ps_ret (pe_call GP hr (by rfl) gP kP bP .nil pass0 (pa_cons (pe_fld (pv 0) rfl) pa_nil)))), ?_⟩
    obtain ⟨dx, sa, ha, ta, cs0, rh, rt, e1, e2, e3, e4, e5⟩ := id hc
    exact ⟨_, rfl, x, C, dx, _, .ref ta, rfl, e1, T.cl, T.n3, rfl, ta, rt, tss, n, rfl, e5, h1, q⟩
theorem scCEq : FnScope ["self", "other"] ["self", "other"] (defScope sCEq) := ⟨rfl, rfl, rfl, by decide +kernel, rfl, by decide +kernel, by decide +kernel⟩
theorem ok_CEq {f  : Addr} {fd  : FuncData} {k : Nat} {C fI : Addr} (F : Fun K "__eq__" "Case.__eq__" sCEq f fd) (T : CaT K mg C fI) (I : IsT K C)  (B : Blt mg) : FnOk P w K mg base CX0 (k + 1) f fd ["self", "other"] (spCEq K C) := by
  refine F.ok scCEq (fun vs H Q E h => ?_) (fun cdv A outer s H vs Q E hr h => ?_)
  · obtain ⟨x, y, qs, hss, tss, n, rfl, _⟩ := h
    rfl
  · obtain ⟨x, y, qs, hss, tss, n, rfl, hc, q⟩ := h
    refine ⟨_, (pss_one (ps_ret (pe_and (pe_callB call_isi (by rfl) B.isinstance_ (by decide +kernel) (pa_cons (pv 1) (pa_cons (pe_glob (v := .ref C) (by rfl) T.gC rfl) pa_nil))) (pe_and (pe_cmpR (op_eqD hr.units) (pe_fld (pv 0) rfl) (pe_fld (pv 1) rfl) (nomark _)) (pe_and (pe_cmpR (op_eqD hr.units) (pe_fld (pv 0) rfl) (pe_fld (pv 1) rfl) (nomark _)) (pe_one (pe_cmpR (op_eqD hr.units) (pe_fld (pv 0) rfl) (pe_fld (pv 1) rfl) (nomark _)))))))), ?_⟩
    rcases q with ⟨⟨tv, ty, kt⟩, q⟩ | ⟨y', us, iss, kss, m, rfl, hd, q⟩
    · exact ⟨_, rfl, _, _, _, _, false, rfl, .own C, ty, kt, _, rfl, iteF q⟩
    obtain ⟨dx, sa, ha, ta, cs, rh, rt, e1, e2, e3, e4, e5⟩ := hc
    obtain ⟨dy, sb, hb, tb, cs', rh', rt', i1, i2, i3, i4, i5⟩ := hd
    refine ⟨_, rfl, _, _, _, _, true, rfl, .own C, .base (.ins i1 T.cl I.ha I.hn I.ht I.hm), I.kt, _, rfl, iteT ?_⟩
    refine ⟨_, rfl, x, C, dx, _, .ref sa, rfl, e1, T.cl, T.n1, rfl, _, rfl, y', C, dy, _, .ref sb, rfl, i1, T.cl, T.n1, rfl, .list (qs.map dR), .list (us.map dR), .lst (SqL.of e2) e3.dp, .lst (SqL.of i2) i3.dp, list_shaped _, list_shaped _, _, rfl, ?_⟩
    rw [eqv_rats]
    by_cases c1 : qs = us
    · rw [decide_eq_true c1]
      refine iteT ?_
      refine ⟨_, rfl, x, C, dx, _, .ref ha, rfl, e1, T.cl, T.n2, rfl, _, rfl, y', C, dy, _, .ref hb, rfl, i1, T.cl, T.n2, rfl, dRows hss, dRows iss, e4.dp, i4.dp, dRows_shaped _, dRows_shaped _, _, rfl, ?_⟩
      rw [eqv_rows]
      by_cases c2 : hss = iss
      · rw [decide_eq_true c2]
        refine iteT ?_
        refine ⟨_, rfl, x, C, dx, _, .ref ta, rfl, e1, T.cl, T.n3, rfl, _, rfl, y', C, dy, _, .ref tb, rfl, i1, T.cl, T.n3, rfl, dRows tss, dRows kss, e5.dp, i5.dp, dRows_shaped _, dRows_shaped _, ?_⟩
        rw [eqv_rows]
        rw [show decide (qs = us ∧ hss = iss ∧ tss = kss) = decide (tss = kss) from decide_eq_decide.mpr ⟨fun z => z.2.2, fun z => ⟨c1, c2, z⟩⟩] at q
        exact q
      · rw [decide_eq_false c2]
        rw [decide_eq_false (fun z => c2 z.2.1)] at q
        exact iteF q
    · rw [decide_eq_false c1]
      rw [decide_eq_false (fun z => c1 z.1)] at q
      exact iteF q
end
end K67

set_option Elab.async false
set_option linter.all false
set_option maxRecDepth 100000
set_option maxHeartbeats 4000000
/-! the text of a case: its three parts -/
namespace Nt
open PySem PySem.Spec PyProof.Rows L2 BX EXB Co Ru
open TL (tl numL)
open Fr (Bd)
theorem subAt_app (a y : Str) : Builtin.Str.subAt (a ++ y) a 0 = true := by
  rw [StrLaws.subAt_eq]
  show (((tl (a ++ y)).drop 0).take a.length == tl a) = true
  rw [TL.tl_append, List.drop_zero, TL.len_tl, List.take_left]
  exact beq_self_eq_true _
theorem starts_app (a y : Str) : Txt.startswith (a ++ y) a = true := by
  unfold Txt.startswith
  rw [subAt_app, Bool.and_true]
  exact decide_eq_true (by rw [app_len]; omega)
theorem rmp_app (a y : Str) (h : 0 < a.length) : Txt.removeprefix (a ++ y) a = y := by
  unfold Txt.removeprefix
  rw [subAt_app, if_pos rfl]
  unfold Txt.affix
  dsimp only
  rw [if_neg (by rw [beq_iff_eq, app_len]; omega)]
  refine TL.ext_tl ?_
  rw [TL.tl_strSub_end, TL.tl_append, TL.len_tl a, List.drop_left]
theorem app_inj {a x y : Str} (h : a ++ x = a ++ y) : x = y := by
  have := congrArg tl h
  rw [TL.tl_append, TL.tl_append] at this
  exact tl_inj (List.append_cancel_left this)
def hS : Str := Str.ofString "shares "
def hH : Str := Str.ofString "hearer "
def hT : Str := Str.ofString "teller "
def ptC (qs : List Rat) (hss tss : List (List Rat)) : List Str := [hS ++ rowS qs, hH ++ wrS hss, hT ++ wrS tss]
def wrC (qs : List Rat) (hss tss : List (List Rat)) : Str := Txt.join (Str.ofString "; ") (ptC qs hss tss)
theorem split_wrC (qs : List Rat) (hss tss : List (List Rat)) : Txt.split (wrC qs hss tss) (Str.ofString "; ") = ptC qs hss tss := by
  unfold wrC
  refine TL.split_join (y := Str.ofString "; ") (s := 59) (S := [32]) (by rfl) (by decide +kernel) (parts := ptC qs hss tss) (by unfold ptC; simp) fun p hp => ?_
  unfold ptC at hp
  simp only [List.mem_cons, List.not_mem_nil, or_false] at hp
  rcases hp with rfl | rfl | rfl
  · rw [TL.tl_append]
    exact fun h => (List.mem_append.mp h).elim (by show ¬ (59 ∈ [115, 104, 97, 114, 101, 115, 32]); decide) (row_no (by decide) (by decide) (by decide) (by decide) qs)
  · rw [TL.tl_append]
    exact fun h => (List.mem_append.mp h).elim (by show ¬ (59 ∈ [104, 101, 97, 114, 101, 114, 32]); decide) (wr_no (by decide) (by decide) (by decide) (by decide) (by decide) hss)
  · rw [TL.tl_append]
    exact fun h => (List.mem_append.mp h).elim (by show ¬ (59 ∈ [116, 101, 108, 108, 101, 114, 32]); decide) (wr_no (by decide) (by decide) (by decide) (by decide) (by decide) tss)
theorem rowS_inj {a b : List Rat} (ha : a ≠ []) (hb : b ≠ []) (h : rowS a = rowS b) : a = b := by
  have e := split_row ha
  rw [h, split_row hb] at e
  exact (List.map_inj_right (f := shR) (fun _ _ => shR_inj)).mp e.symm
theorem rows_inj : ∀ {a b : List (List Rat)}, (∀ r ∈ a, r ≠ []) → (∀ r ∈ b, r ≠ []) → a.map rowS = b.map rowS → a = b
  | [], [], _, _, _ => rfl
  | [], _ :: _, _, _, h => by cases h
  | _ :: _, [], _, _, h => by cases h
  | x :: a, y :: b, ha, hb, h => by
    rw [List.map_cons, List.map_cons] at h
    obtain ⟨h1, h2⟩ := List.cons.inj h
    rw [rowS_inj (ha x (by simp)) (hb y (by simp)) h1, rows_inj (fun r hr => ha r (List.mem_cons_of_mem _ hr)) (fun r hr => hb r (List.mem_cons_of_mem _ hr)) h2]
theorem wrS_inj {a b : List (List Rat)} (ha : a ≠ []) (hb : b ≠ []) (ra : ∀ r ∈ a, r ≠ []) (rb : ∀ r ∈ b, r ≠ []) (h : wrS a = wrS b) : a = b := by
  have e := split_wr ha
  rw [h, split_wr hb] at e
  exact rows_inj ra rb e.symm
theorem wrC_inj {qs us : List Rat} {hss tss iss kss : List (List Rat)} (n1 : qs ≠ []) (n2 : us ≠ []) (n3 : hss ≠ []) (n4 : iss ≠ []) (n5 : tss ≠ []) (n6 : kss ≠ []) (r1 : ∀ r ∈ hss, r ≠ []) (r2 : ∀ r ∈ iss, r ≠ []) (r3 : ∀ r ∈ tss, r ≠ []) (r4 : ∀ r ∈ kss, r ≠ []) (h : wrC qs hss tss = wrC us iss kss) : qs = us ∧ hss = iss ∧ tss = kss := by
  have e := split_wrC qs hss tss
  rw [h, split_wrC us iss kss] at e
  unfold ptC at e
  obtain ⟨e1, e⟩ := List.cons.inj e
  obtain ⟨e2, e⟩ := List.cons.inj e
  obtain ⟨e3, _⟩ := List.cons.inj e
  exact ⟨(rowS_inj n2 n1 (app_inj e1)).symm, (wrS_inj n4 n3 r2 r1 (app_inj e2)).symm, (wrS_inj n6 n5 r4 r3 (app_inj e3)).symm⟩
theorem wrC_len {qs : List Rat} {hss tss : List (List Rat)} {L : Nat} (h1 : (rowS qs).length ≤ L) (h2 : (wrS hss).length ≤ L) (h3 : (wrS tss).length ≤ L) : (wrC qs hss tss).length ≤ 3 * (L + 9) := by
  have e : ∀ p ∈ ptC qs hss tss, p.length ≤ L + 7 := fun p hp => by
    unfold ptC at hp
    simp only [List.mem_cons, List.not_mem_nil, or_false] at hp
    rcases hp with rfl | rfl | rfl
    · rw [app_len, show hS.length = 7 from rfl]; omega
    · rw [app_len, show hH.length = 7 from rfl]; omega
    · rw [app_len, show hT.length = 7 from rfl]; omega
  have := join_len (y := Str.ofString "; ") e
  rw [show (Str.ofString "; ").length = 2 from rfl] at this
  have l3 : (ptC qs hss tss).length = 3 := rfl
  rw [l3] at this
  exact this
end Nt

set_option Elab.async false
set_option linter.all false
set_option maxRecDepth 100000
set_option maxHeartbeats 16000000
namespace K67
open PySem PySem.Spec PyProof.Rows L2 BX EXB Co Ru
open Dz Cs Hr Gs Nt
open Rs (Rsp Rv Ret tYes_of dV datR Flat Okr spShares spRowsL spTotal spCopied eqv_dR)
open Fr (Bd)
open TL (tl numL)
theorem rw_bd0 {K : PySem.W.Frag} {H : Hp} {a : Addr} {rs : List Addr} {rss : List (List Rat)} {n : Nat} (h : RwL K H a rs rss n) : ∀ r ∈ rss, ∀ q ∈ r, Bd n q := fun r hr => by
  obtain ⟨j, hj, ej⟩ := List.getElem_of_mem hr
  have hj' : j < rs.length := by rw [h.2.1]; exact hj
  obtain ⟨c, q, a1, a2, a3⟩ := h.2.2 j _ (List.getElem?_eq_getElem hj')
  rw [List.getElem?_eq_getElem hj, ej] at a1
  cases a1
  exact frn_bd a3
def spShRws (K : PySem.W.Frag) : Sp := fun vs H Q _ => ∃ (a : Addr) (rs : List Addr) (rss : List (List Rat)) (n : Nat), vs = [.ref a] ∧ RwL K H a rs rss n ∧ rss.length ≤ 5 ∧ (∀ r ∈ rss, r.length ≤ 30) ∧ 0 < n ∧ n ≤ 1900 ∧ ∀ H', Same H H' → Q (.str (wrS rss)) H'
def spShown (K : PySem.W.Frag) (C : Addr) : Sp := fun vs H Q _ => ∃ (x : Addr) (qs : List Rat) (hss tss : List (List Rat)) (n ww dd : Nat), vs = [.ref x] ∧ IsCase K H C x qs hss tss n ∧ GoodC qs hss tss ww dd ∧ 0 < n ∧ n ≤ 1900 ∧ ∀ H', Same H H' → Q (.str (wrC qs hss tss)) H'
def hdI : Nat → Str | 0 => hS | 1 => hH | _ => hT
def spRowsIn (K : PySem.W.Frag) : Sp := fun vs H Q _ => ∃ (P : Addr) (ps : List Str) (i : Nat) (rss : List (List Rat)) (n : Nat), vs = [.ref P, .int (i : Int)] ∧ H P = some (.lst (ps.map V.str)) ∧ i < 3 ∧ ps[i]? = some (hdI i ++ wrS rss) ∧ rss ≠ [] ∧ rss.length ≤ 5 ∧ (∀ r ∈ rss, r ≠ []) ∧ (∀ r ∈ rss, ∀ q ∈ r, Bd n q) ∧ (∀ r ∈ rss, (rowS r).length ≤ 640) ∧ (wrS rss).length ≤ 600000 ∧
  ∀ D rs H', Fresh K H H' D rs rss n → Q (.ref D) H'
def spRead67 (K : PySem.W.Frag) (C : Addr) : Sp := fun vs H Q _ => ∃ (qs : List Rat) (hss tss : List (List Rat)) (n ww dd : Nat), vs = [.str (wrC qs hss tss)] ∧ GoodC qs hss tss ww dd ∧ (∀ q ∈ qs, Bd n q) ∧ (∀ r ∈ hss, ∀ q ∈ r, Bd n q) ∧ (∀ r ∈ tss, ∀ q ∈ r, Bd n q) ∧ 0 < n ∧ n ≤ 1000 ∧ (rowS qs).length ≤ 640 ∧ (∀ r ∈ hss, (rowS r).length ≤ 640) ∧ (∀ r ∈ tss, (rowS r).length ≤ 640) ∧
  ∀ z H', Same H H' → H z = none → IsCase K H' C z qs hss tss n → Q (.ref z) H'
theorem wrS_one (qs : List Rat) : wrS [qs] = rowS qs := by
  unfold wrS
  refine TL.ext_tl ?_
  rw [TL.join_eq, TL.tl_join]
  rfl
theorem any_rows : ∀ rss : List (List Rat), ((rss.map fun qs => PyData.list (qs.map dR)).any fun z => PyData.eqv z .none) = false
  | [] => rfl
  | r :: rss => by
    rw [List.map_cons, List.any_cons, any_rows rss]
    rfl
theorem wrS_len {rss : List (List Rat)} (h5 : rss.length ≤ 5) (h : ∀ r ∈ rss, (rowS r).length ≤ 115000) : (wrS rss).length ≤ 600000 := by
  have := join_len (y := Str.ofString " | ") (ps := rss.map rowS) (L := 115000) fun p hp => by
    obtain ⟨r, hr, rfl⟩ := List.mem_map.mp hp
    exact h r hr
  rw [List.length_map, show (Str.ofString " | ").length = 3 from rfl] at this
  have l : rss.length * (115000 + 3) ≤ 5 * (115000 + 3) := Nat.mul_le_mul_right _ h5
  unfold wrS
  omega
theorem mk_caseS {K : PySem.W.Frag} {C CN S hA tA : Addr} {cs : List V} {qs : List Rat} {hss tss : List (List Rat)} {rh rt : List Addr} {n ww dd : Nat} {H : Hp} {Q : Addr → Hp → Prop} (hn : n ≤ 1000) (hS : H S = some (.lst cs)) (hf : FrN K H n cs qs) (hh : RwL K H hA rh hss n) (ht : RwL K H tA rt tss n) (g : GoodC qs hss tss ww dd)
    (q : ∀ z H', Same H H' → H z = none → IsCase K H' C z qs hss tss n → Q z H') :
    ∀ x dx, H x = none → H dx = none → dx ≠ x → spCInitF K C CN [.ref x, .ref S, .ref hA, .ref tA] (upd (upd H dx (.own x)) x (.ins C dx [])) (fun v H2 => v = .non ∧ Q x H2) E0 :=
  mk_caseG (CN := CN) (G := H) hn Frz.all hS hf hh ht g fun z H' s nz hz => q z H' s nz (hz.same ((Frz.all (K := K) (H := H)).more s).s)
section
variable {P : Program} {w : World} {K : PySem.W.Frag} {mg : Str → Option Value} {base : Heap}
theorem scShR : FnScope ["one", "top", "bottom"] ["one"] (defScope sShR) := ⟨rfl, rfl, rfl, by decide +kernel, rfl, by decide +kernel, by decide +kernel⟩
theorem ok_ShR {f  : Addr} {fd  : FuncData} {k : Nat} (F : Fun K "shown_ratio" "shown_ratio" sShR f fd)  (B : Blt mg) : FnOk P w K mg base CX0 (k + 1) f fd ["one"] (spShR K) := by
  refine F.ok scShR (fun vs H Q E h => ?_) (fun cdv A outer s H vs Q E hr h => ?_)
  · obtain ⟨a, q, n, rfl, _⟩ := h
    rfl
  · obtain ⟨a, q, n, rfl, ha, hb, h0, hn, q0⟩ := h
    refine ⟨_, (pss_cons (ps_asg (pv 0) (pg_tup (by rfl) (pgs_cons (pg_name (i := 1) scShR.nd rfl (.inl rfl)) (pgs_cons (pg_name (i := 2) scShR.nd rfl (.inl rfl)) pgs_nil))))
      (pss_cons (ps_if (pt_cmpR op_eq (pv 2) pe_int (nomark _)) (pss_one (ps_ret (pe_callTy (T := "str") call_str_int (by rfl) B.str_ (by decide +kernel) (pa_cons (pv 1) pa_nil)))) pss_nil)
      (pss_one (ps_ret (pe_joined (.cons (pe_fmt (pv 1)) (.cons pe_str (.cons (pe_fmt (pv 2)) .nil)))))))), ?_⟩
    have zz := szl
    have b1 := sI_len hb.1 h0
    have b2 := sI_len (i := (q.den : Int)) hb.dn h0
    have y1 : (Str.ofString "/").length = 1 := rfl
    have y0 : Str.empty.length = 0 := rfl
    refine ⟨_, rfl, a, _, rfl, ha, rfl, _, _, rfl, _, _, rfl, rfl, ?_⟩
    unfold shR at q0
    refine ⟨_, rfl, rfl, _, rfl, ?_⟩
    by_cases c : q.den = 1
    · rw [decide_eq_true (show V.int (q.den : Int) = V.int 1 by rw [c]; rfl)]
      rw [if_pos c] at q0
      exact iteT ⟨_, rfl, _, rfl, log_of hb.1 h0 hn, q0⟩
    · rw [decide_eq_false (show ¬ V.int (q.den : Int) = V.int 1 from fun z => c (by have := V.int.inj z; omega))]
      rw [if_neg c, ← emp_app (sI q.num)] at q0
      refine iteF ⟨_, rfl, .inr ⟨_, rfl, log_of hb.1 h0 hn, _, rfl, ?_, _, rfl, ?_, _, rfl, .inr ⟨_, rfl, log_of hb.dn h0 hn, _, rfl, ?_, q0⟩⟩⟩
      · simp only [app_len]; unfold sI at b1; omega
      · simp only [app_len]; unfold sI at b1; omega
      · simp only [app_len]; unfold sI at b1 b2; omega
theorem scFig : FnScope ["text"] ["text"] (defScope sFig) := ⟨rfl, rfl, rfl, by decide +kernel, rfl, by decide +kernel, by decide +kernel⟩
theorem ok_Fig {f  : Addr} {fd  : FuncData} {k : Nat} (F : Fun K "is_figures" "is_figures" sFig f fd)  : FnOk P w K mg base CX0 (k + 1) f fd ["text"] spFig := by
  refine F.ok scFig (fun vs H Q E h => ?_) (fun cdv A outer s H vs Q E hr h => ?_)
  · obtain ⟨a, rfl, _⟩ := h
    rfl
  · obtain ⟨a, rfl, q⟩ := h
    refine ⟨_, (pss_cons (ps_if (PW.pt (pw_or (pt_not (pt_val (pe_m0 PySem.F.slot_str_isascii PySem.F.type_str_isascii mt_isascii (pv 0)))) (pw_or1 (pt_not (pt_val (pe_m0 PySem.F.slot_str_isdigit PySem.F.type_str_isdigit mt_isdigit (pv 0))))))) (pss_one (ps_ret pe_bl)) pss_nil)
      (pss_one (ps_ret (pe_or (pe_cmpR op_eq (pv 0) pe_str (nomark _)) (pe_one (pe_not (pe_m1 PySem.F.slot_str_startswith PySem.F.type_str_startswith mt_startswith (pv 0) pe_str))))))), ?_⟩
    rw [← fig_lang] at q
    refine ⟨_, rfl, ⟨_, rfl⟩, a, rfl, rfl, trivial, _, rfl, ?_⟩
    cases c1 : Txt.isascii a with
    | false =>
      rw [c1] at q
      exact iteT (iteT q)
    | true =>
      rw [c1, Bool.true_and] at q
      refine iteF ⟨_, rfl, ⟨_, rfl⟩, a, rfl, rfl, trivial, _, rfl, ?_⟩
      cases c2 : Txt.isdigit a with
      | false =>
        rw [c2] at q
        exact iteT q
      | true =>
        rw [c2, Bool.true_and] at q
        refine iteF ⟨_, rfl, rfl, _, rfl, ?_⟩
        by_cases c3 : a = Str.ofString "0"
        · rw [decide_eq_true (show V.str a = V.str (Str.ofString "0") by rw [c3])]
          rw [decide_eq_true c3] at q
          exact iteT q
        · rw [decide_eq_false (show ¬ V.str a = V.str (Str.ofString "0") from fun z => c3 (V.str.inj z))]
          rw [decide_eq_false c3, Bool.false_or] at q
          exact iteF ⟨_, rfl, ⟨_, rfl⟩, a, _, rfl, rfl, _, rfl, q⟩
theorem scRatOf : FnScope ["text", "top", "slash", "bottom", "one"] ["text"] (defScope sRatOf) := ⟨rfl, rfl, rfl, by decide +kernel, rfl, by decide +kernel, by decide +kernel⟩
theorem ok_RatOf {f fFg fR : Addr} {fd fdFg fdR : FuncData} {k : Nat} (F : Fun K "ratio_of" "ratio_of" sRatOf f fd) (GFg : FnOk P w K mg base CX0 k fFg fdFg ["text"] spFig) (kFg : PySem.W.keepIn K (.ref fFg) = true) (bFg : Binds K fdFg ["text"] []) (gFg : mg "is_figures" = some (.ref fFg)) (GR : FnOk P w K mg base CX0 k fR fdR ["thing"] (spIsRZ K)) (kR : PySem.W.keepIn K (.ref fR) = true) (bR : Binds K fdR ["thing"] []) (gR : mg "is_ratio" = some (.ref fR)) (B : Blt mg) : FnOk P w K mg base CX0 (k + 1) f fd ["text"] (spRat K) := by
  refine F.ok scRatOf (fun vs H Q E h => ?_) (fun cdv A outer s H vs Q E hr h => ?_)
  · obtain ⟨a, rfl, _⟩ := h
    rfl
  · obtain ⟨a, rfl, hl, qs, qn⟩ := h
    refine ⟨_, (pss_cons (ps_if (pt_not (pt_val (pe_callB call_isi (by rfl) B.isinstance_ (by decide +kernel) (pa_cons (pv 0) (pa_cons (pe_bltn (v := .ty "str") (by rfl) B.str_ (by decide +kernel) rfl) pa_nil))))) (pss_one (ps_ret pe_non)) pss_nil)
      (pss_cons (ps_asg (pe_partition (pv 0) pe_str) (pg_tup (by rfl) (pgs_cons (pg_name (i := 1) scRatOf.nd rfl (.inl rfl)) (pgs_cons (pg_name (i := 2) scRatOf.nd rfl (.inl rfl)) (pgs_cons (pg_name (i := 3) scRatOf.nd rfl (.inl rfl)) pgs_nil)))))
      (pss_cons (ps_if (PW.pt (pw_or (pt_cmpR op_eq (pv 1) pe_str (nomark _)) (pw_or1 (pt_not (pt_val (pe_call GFg hr (by rfl) gFg kFg bFg .nil pass0 (pa_cons (pe_m1 PySem.F.slot_str_removeprefix PySem.F.type_str_removeprefix mt_removeprefix (pv 1) pe_str) pa_nil))))))) (pss_one (ps_ret pe_non)) pss_nil)
      (pss_cons (ps_if (pt_cmpR op_eq (pv 2) pe_str (nomark _)) (pss_one (ps_ret (pe_tup (pa_cons (pe_callTy (T := "int") call_int_str (by rfl) B.int_ (by decide +kernel) (pa_cons (pv 1) pa_nil)) (pa_cons pe_int pa_nil))))) pss_nil)
      (pss_cons (ps_if (PW.pt (pw_or (pt_cmpR op_eq (pv 3) pe_str (nomark _)) (pw_or1 (pt_not (pt_val (pe_call GFg hr (by rfl) gFg kFg bFg .nil pass0 (pa_cons (pv 3) pa_nil))))))) (pss_one (ps_ret pe_non)) pss_nil)
      (pss_cons (ps_set (i := 4) scRatOf.nd rfl (.inl rfl) (pe_tup (pa_cons (pe_callTy (T := "int") call_int_str (by rfl) B.int_ (by decide +kernel) (pa_cons (pv 1) pa_nil)) (pa_cons (pe_callTy (T := "int") call_int_str (by rfl) B.int_ (by decide +kernel) (pa_cons (pv 3) pa_nil)) pa_nil))))
      (pss_one (ps_ret (pe_ifExp (pt_val (pe_call GR hr (by rfl) gR kR bR .nil pass0 (pa_cons (pv 4) pa_nil))) (pv 4) pe_non))))))))), ?_⟩
    refine ⟨_, rfl, _, _, _, _, true, rfl, .ty "str", .base (.str a), kit_ty (by rfl), _, rfl, iteF ?_⟩
    have zz := szl
    have D1 : (∃ x y : Str, Txt.partition a (Str.ofString "/") = (x, Str.ofString "/", y) ∧ tl a = tl x ++ 47 :: tl y ∧ 47 ∉ tl x) ∨ (Txt.partition a (Str.ofString "/") = (a, Str.empty, Str.empty) ∧ 47 ∉ tl a) := by
      by_cases c : 47 ∈ tl a
      · obtain ⟨x, y, e, n⟩ := first_of c
        refine .inl ⟨⟨x.toArray⟩, ⟨y.toArray⟩, ?_, e, n⟩
        have ea : a = (⟨x.toArray⟩ : Str) ++ Str.ofString "/" ++ ⟨y.toArray⟩ := tl_inj (by rw [TL.tl_append, TL.tl_append, List.append_assoc]; exact e)
        rw [ea]
        exact TL.partition_app (y := Str.ofString "/") (s := 47) (S := []) (by rfl) n
      · exact .inr ⟨TL.partition_none (y := Str.ofString "/") (s := 47) (S := []) (by rfl) c, c⟩
    have tm0 : tl (Str.ofString "-0") = [45, 48] := by rfl
    -- the top's test
    have tst : ∀ (u : Str) (v w : Str) {Q1 : Bool → Hp → Prop} {H1 : Hp}, u.length ≤ 640 → ((∃ i, tl u = iL i) → Q1 false H1) → ((¬ ∃ i, tl u = iL i) → Q1 true H1) → (tOr (tTest (tOp rEq (tVar 1) (tC (.str "-0")))) (tNot (tB (tCall spFig [] E0 (tCons (tM1 (fun x xs H Q => ∃ a b, x = .str a ∧ xs = [.str b] ∧ a.length ≤ sizeLine ∧ Q (.str (Txt.removeprefix a b)) H) (tVar 1) (tC (.str "-"))) tNil))))) [some (.str a), some (.str u), some (.str v), some (.str w), none] H1 Q1 := fun u v w {Q1 H1} ul q1 q2 => by
      refine ⟨_, rfl, rfl, _, rfl, ?_⟩
      by_cases c0 : u = Str.ofString "-0"
      · rw [decide_eq_true (show V.str u = V.str (Str.ofString "-0") by rw [c0])]
        exact iteT (q2 fun z => ((int_iff _).mp z).1 (by rw [c0]; exact tm0))
      · rw [decide_eq_false (show ¬ V.str u = V.str (Str.ofString "-0") from fun z => c0 (V.str.inj z))]
        refine iteF ⟨_, rfl, ⟨_, rfl⟩, u, _, rfl, rfl, by omega, _, rfl, _, rfl, ?_⟩
        rw [tl_rm]
        cases c1 : isFig (rm (tl u)) with
        | true => exact q1 ((int_iff _).mpr ⟨fun z => c0 (tl_inj (z.trans tm0.symm)), c1⟩)
        | false => exact q2 fun z => by have := ((int_iff _).mp z).2; rw [c1] at this; cases this
    rcases D1 with ⟨u, w, eT, ea, nu⟩ | ⟨eT, na⟩
    · have hle : a.length = u.length + (w.length + 1) := by rw [TL.len_tl, TL.len_tl, TL.len_tl, ea, List.length_append, List.length_cons]
      refine ⟨_, rfl, ⟨_, rfl⟩, a, Str.ofString "/", rfl, rfl, rfl, by omega, fun p np => ?_⟩
      rw [eT]
      have s1 := same_new np (.tup [V.str u, V.str (Str.ofString "/"), V.str w])
      refine ⟨p, _, rfl, SqT.of upd_same, rfl, _, _, rfl, _, _, rfl, _, _, rfl, rfl, ?_⟩
      generalize upd H p (.tup [V.str u, V.str (Str.ofString "/"), V.str w]) = H1 at s1 ⊢
      have non : (∀ q : Rat, q.den ≠ 1 → tl u = iL q.num → tl w = numL q.den → False) → Q .non H1 := fun h => qn H1 (rd_none fun q e => by
        obtain ⟨z1, z2, z3⟩ := (of_frac nu).mp (ea.symm.trans (congrArg tl e))
        exact h q z1 z2 z3) s1
      refine tst u _ w (by omega) (fun hi => iteF ?_) (fun hi => iteT (non fun q _ e _ => hi ⟨_, e⟩))
      obtain ⟨i, ei⟩ := hi
      have eu : u = sI i := tl_inj ei
      refine ⟨_, rfl, rfl, _, rfl, ?_⟩
      rw [decide_eq_false (show ¬ V.str (Str.ofString "/") = V.str (Str.ofString "") from fun z => by
        have := congrArg (fun x => (tl x).length) (V.str.inj z)
        exact absurd this (by decide))]
      refine iteF ⟨_, rfl, rfl, _, rfl, ?_⟩
      have t1 : tl (Str.ofString "1") = numL 1 := (TL.numL_lt (n := 1) (by decide)).symm
      by_cases d1 : w = Str.ofString "1"
      · rw [decide_eq_true (show V.str w = V.str (Str.ofString "1") by rw [d1])]
        exact iteT (iteT (non fun q z _ e => z (TL.numL_inj (e.symm.trans (by rw [d1]; exact t1)))))
      rw [decide_eq_false (show ¬ V.str w = V.str (Str.ofString "1") from fun z => d1 (V.str.inj z))]
      refine iteF ⟨_, rfl, _, rfl, _, rfl, ?_⟩
      cases d2 : isFig (tl w) with
      | false => exact iteT (non fun q _ _ e => by rw [e, fig_num] at d2; cases d2)
      | true =>
        obtain ⟨n, en⟩ := (fig_iff _).mp d2
        have ew : w = sI (n : Int) := tl_inj (en.trans (iL_nat n).symm)
        have l1 : (iL i).length ≤ 640 := by rw [← ei, ← TL.len_tl]; omega
        have l2 : (iL (n : Int)).length ≤ 640 := by rw [iL_nat, ← en, ← TL.len_tl]; omega
        refine iteF ⟨_, rfl, u, i, rfl, by rw [eu]; exact int_read l1, by omega, _, rfl, w, n, rfl, by rw [ew]; exact int_read l2, by omega, (by show 2 ≤ sizeLine; decide), fun p2 np2 => ?_⟩
        have s2 := same_new np2 (.tup [V.int i, V.int (n : Int)])
        have e2 : SqT K (upd H1 p2 (.tup [V.int i, V.int (n : Int)])) p2 [V.int i, V.int (n : Int)] := SqT.of upd_same
        generalize upd H1 p2 (.tup [V.int i, V.int (n : Int)]) = H2 at s2 e2 ⊢
        refine ⟨_, rfl, fun _ => False, .ref p2, .tuple [.int i, .int n], rfl, .tup e2 (.cons (.int _) (.cons (.int _) .nil)), _, rfl, ?_⟩
        have er : ratD (.tuple [.int i, .int (n : Int)]) = if 1 ≤ (n : Int) ∧ Int.gcd i n = 1 then some (Rat.divInt i n) else none := rfl
        rw [er]
        by_cases hg : 1 ≤ (n : Int) ∧ Int.gcd i n = 1
        · rw [if_pos hg]
          have hnum : (Rat.divInt i n).num = i := by rw [← Fr.low_num (by omega), hg.2]; exact Int.fdiv_one i
          have hden : ((Rat.divInt i n).den : Int) = n := by rw [← Fr.low_den (by omega), hg.2]; exact Int.fdiv_one _
          have hrp : rp (Rat.divInt i n) = [V.int i, V.int (n : Int)] := by unfold rp; rw [hnum, hden]
          have n1 : (Rat.divInt i n).den ≠ 1 := fun z => d1 (tl_inj (en.trans (by rw [t1]; congr 1; omega)))
          refine iteT ⟨_, rfl, qs (Rat.divInt i n) p2 H2 ?_ (s1.trans s2) (by rw [hrp]; exact e2)⟩
          have : a = shR (Rat.divInt i n) := tl_inj (ea.trans ((of_frac nu).mpr ⟨n1, by rw [hnum]; exact ei, by rw [en]; congr 1; omega⟩))
          rw [this]
          exact rd_sh _
        · rw [if_neg hg]
          refine iteF (qn H2 (rd_none fun q e => ?_) (s1.trans s2))
          obtain ⟨z1, z2, z3⟩ := (of_frac nu).mp (ea.symm.trans (congrArg tl e))
          have h1 : i = q.num := iL_inj (ei.symm.trans z2)
          have h2 : n = q.den := TL.numL_inj (en.symm.trans z3)
          have h3 := q.den_pos
          exact hg ⟨by omega, by rw [h1, h2]; exact Fr.ratio_gcd q⟩
    · refine ⟨_, rfl, ⟨_, rfl⟩, a, Str.ofString "/", rfl, rfl, rfl, by omega, fun p np => ?_⟩
      rw [eT]
      have s1 := same_new np (.tup [V.str a, V.str Str.empty, V.str Str.empty])
      refine ⟨p, _, rfl, SqT.of upd_same, rfl, _, _, rfl, _, _, rfl, _, _, rfl, rfl, ?_⟩
      generalize upd H p (.tup [V.str a, V.str Str.empty, V.str Str.empty]) = H1 at s1 ⊢
      refine tst a _ _ (by omega) (fun hi => iteF ?_) (fun hi => iteT (qn H1 (rd_none fun q e => hi ⟨_, ((of_int na).mp (congrArg tl e)).2⟩) s1))
      obtain ⟨i, ei⟩ := hi
      have eu : a = sI i := tl_inj ei
      have l1 : (iL i).length ≤ 640 := by rw [← ei, ← TL.len_tl]; omega
      refine ⟨_, rfl, rfl, _, rfl, ?_⟩
      rw [decide_eq_true (show V.str Str.empty = V.str (Str.ofString "") from rfl)]
      refine iteT ⟨_, rfl, a, i, rfl, by rw [eu]; exact int_read l1, by omega, (by show 2 ≤ sizeLine; decide), fun p2 np2 => ?_⟩
      have s2 := same_new np2 (.tup [V.int i, V.int 1])
      have : a = shR (i : Rat) := tl_inj ((of_int na).mpr ⟨rfl, ei⟩)
      exact qs (i : Rat) p2 _ (by rw [this]; exact rd_sh _) (s1.trans s2) (SqT.of upd_same)
theorem scShRw : FnScope ["row", "one"] ["row"] (defScope sShRw) := ⟨rfl, rfl, rfl, by decide +kernel, rfl, by decide +kernel, by decide +kernel⟩
theorem ok_ShRw {f fS : Addr} {fd fdS : FuncData} {k : Nat} (F : Fun K "shown_row" "shown_row" sShRw f fd) (GS : FnOk P w K mg base CX0 k fS fdS ["one"] (spShR K)) (kS : PySem.W.keepIn K (.ref fS) = true) (bS : Binds K fdS ["one"] []) (gS : mg "shown_ratio" = some (.ref fS)) : FnOk P w K mg base CX0 (k + 1) f fd ["row"] (spShRw K) := by
  refine F.ok scShRw (fun vs H Q E h => ?_) (fun cdv A outer s H vs Q E hr h => ?_)
  · obtain ⟨r, cs, qs, n, rfl, _⟩ := h
    rfl
  · obtain ⟨r, cs, qs, n, rfl, hr0, hf, h0, hn, h30, q⟩ := h
    refine ⟨_, (pss_one (ps_ret (pe_join pe_str (pe_lc (own := [("one", 1)]) (g := gName 1) (tt := tYes) (te := (tCall (spShR K) [] E0 (tCons (tVar 1) tNil))) rfl scShRw.nd (pi_list (pv 0)) (blkOk_by (N := ["row", "one"]) (sc := defScope sShRw) (by decide +kernel)) (fun _ _ _ _ _ => (pg_name (i := 1) scShRw.nd rfl (Or.inl rfl))) (fun _ _ _ _ _ => pts_nil) (fun _ _ _ _ _ => (pe_call GS hr (by rfl) gS kS bS .nil pass0 (pa_cons (pv 1) pa_nil))))))), ?_⟩
    refine ⟨⟨_, rfl⟩, _, rfl, r, rfl, ⟨_, SqL.of hr0⟩, fun D hD => lc_list (K := K) (a := r) (xs := cs) (fun i H' => H' = upd H D (.lst (((qs.map shR).take i).map V.str))) rfl (fun i H' _ e => by rw [e]; exact SqL.of (same_new hD _ _ _ hr0)) ?_ ?_⟩
    · rintro i v H' hi rfl
      obtain ⟨p, x, e1, rfl, e3, e4⟩ := hf.at_ i v hi
      have hi' : i < qs.length := (List.getElem?_eq_some_iff.mp e1).1
      refine ⟨rfl, tYes_of ?_⟩
      refine ⟨_, rfl, p, x, n, rfl, seqT (same_new hD _) e3, e4, h0, hn, _, upd_same, ?_, ?_⟩
      · rw [List.length_map, List.length_take, List.length_map]
        exact small1000 (Nat.le_trans (Nat.min_le_left _ _) (by omega))
      · rw [upd_upd, take_succ_at (show (qs.map shR)[i]? = some (shR x) by rw [List.getElem?_map, e1]; rfl), List.map_append]
        rfl
    rintro H' rfl
    rw [hf.len, List.take_of_length_le (by rw [List.length_map]; exact Nat.le_refl _)]
    have sz : ∀ y ∈ qs.map shR, y.length ≤ 3803 := fun y hy => by
      obtain ⟨x, hx, rfl⟩ := List.mem_map.mp hy
      have := shR_len (frn_bd hf x hx) h0
      omega
    have s1 := sum_len sz
    rw [List.length_map] at s1
    have s2 : qs.length * 3803 ≤ 30 * 3803 := Nat.mul_le_mul_right _ h30
    refine ⟨_, D, qs.map shR, rfl, rfl, .inl (SqL.of upd_same), ?_, q _ (same_new hD _)⟩
    rw [List.length_map, show (Str.ofString " ").length = 1 from rfl]
    omega
theorem scRowOf : FnScope ["text", "row", "word"] ["text"] (defScope sRowOf) := ⟨rfl, rfl, rfl, by decide +kernel, rfl, by decide +kernel, by decide +kernel⟩
theorem ok_RowOf {f fR : Addr} {fd fdR : FuncData} {k : Nat} (F : Fun K "row_of" "row_of" sRowOf f fd) (GR : FnOk P w K mg base CX0 k fR fdR ["text"] (spRat K)) (kR : PySem.W.keepIn K (.ref fR) = true) (bR : Binds K fdR ["text"] []) (gR : mg "ratio_of" = some (.ref fR)) : FnOk P w K mg base CX0 (k + 1) f fd ["text"] (spRowOf K) := by
  refine F.ok scRowOf (fun vs H Q E h => ?_) (fun cdv A outer s H vs Q E hr h => ?_)
  · obtain ⟨a, rfl, _⟩ := h
    rfl
  · obtain ⟨a, rfl, hl, qs0, qn⟩ := h
    have hu : (A.deeper (envOfC "row_of" (defScope sRowOf) s.heap.objs.size f cdv)).units + 65 < cLine := by have := hr.un; omega
    refine ⟨_, (pss_cons (ps_setLc (i := 1) (own := [("word", 2)]) (g := gName 2) (tt := tYes) (te := (tCall (spRat K) [] E0 (tCons (tVar 2) tNil))) rfl scRowOf.nd rfl rfl (sw_true rfl rfl rfl (by decide +kernel)) (pi_list (pe_split (pv 0) pe_str)) (blkOk_by (N := ["text", "row", "word"]) (sc := defScope sRowOf) (by decide +kernel)) (fun _ _ _ _ _ => (pg_name (i := 2) scRowOf.nd rfl (Or.inl rfl))) (fun _ _ _ _ _ => pts_nil) (fun _ _ _ _ _ => (pe_call GR hr (by rfl) gR kR bR .nil pass0 (pa_cons (pv 2) pa_nil))))
      (pss_one (ps_ret (pe_ifExp (pt_cmpR (op_inD hu) pe_non (pv 1) (by rfl)) pe_non (pv 1))))), ?_⟩
    have zz := szl
    refine ⟨_, rfl, ⟨_, rfl⟩, a, Str.ofString " ", rfl, rfl, rfl, by omega, fun p np => ?_⟩
    have s1 := same_new np (.lst ((Txt.split a (Str.ofString " ")).map V.str))
    have ep : (upd H p (.lst ((Txt.split a (Str.ofString " ")).map V.str))) p = some (.lst ((Txt.split a (Str.ofString " ")).map V.str)) := upd_same
    generalize upd H p (.lst ((Txt.split a (Str.ofString " ")).map V.str)) = H1 at s1 ep ⊢
    have hlen : (Txt.split a (Str.ofString " ")).length ≤ 642 := by have := PyProof.Rows.split_le a (Str.ofString " "); omega
    have hol : (osOf a).length = (Txt.split a (Str.ofString " ")).length := by unfold osOf; rw [List.length_map]
    refine ⟨p, rfl, ⟨_, SqL.of ep⟩, fun D hD => lc_list (K := K) (a := p) (xs := (Txt.split a (Str.ofString " ")).map V.str) (fun i H' => ∃ acc, H' D = some (.lst acc) ∧ Same H1 H' ∧ FrO K H' acc ((osOf a).take i)) ⟨[], upd_same, same_new hD _, FrO.nil⟩ (fun i H' _ ⟨_, _, s, _⟩ => SqL.of (s _ _ ep)) ?_ ?_⟩
    · rintro i v H' hi ⟨acc, ha, s, hf⟩
      rw [List.getElem?_map] at hi
      cases ew : (Txt.split a (Str.ofString " "))[i]? with
      | none => rw [ew] at hi; cases hi
      | some w0 =>
        rw [ew] at hi
        cases hi
        have wl := split_le' (a := a) (b := Str.ofString " ") (by show [32] ≠ []; decide) (by decide +kernel) w0 (List.mem_of_getElem? ew)
        have eo : (osOf a)[i]? = some (rdR w0) := by unfold osOf; rw [List.getElem?_map, ew]; rfl
        have hi' : i < (Txt.split a (Str.ofString " ")).length := (List.getElem?_eq_some_iff.mp ew).1
        have fin : ∀ (v : V) (H2 : Hp), Same H' H2 → ((rdR w0 = none ∧ v = .non) ∨ ∃ q p, rdR w0 = some q ∧ v = .ref p ∧ SqT K H2 p (rp q)) → ∃ acc, H2 D = some (.lst acc) ∧ acc.length < sizeLine ∧ ∃ acc', (upd H2 D (.lst (acc ++ [v]))) D = some (.lst acc') ∧ Same H1 (upd H2 D (.lst (acc ++ [v]))) ∧ FrO K (upd H2 D (.lst (acc ++ [v]))) acc' ((osOf a).take (i + 1)) := fun v H2 s2 hv => by
          refine ⟨acc, s2 _ _ ha, ?_, _, upd_same, fun b u e => ?_, ?_⟩
          · rw [hf.len, List.length_take]
            exact small1000 (Nat.le_trans (Nat.min_le_left _ _) (by omega))
          · rw [upd_ne (ne_of_none e hD)]
            exact s2 _ _ (s _ _ e)
          · rw [take_succ_at eo]
            exact ((hf.same s2).snoc hv).keep (keep_lst (s2 _ _ ha))
        refine ⟨rfl, tYes_of ?_⟩
        exact ⟨_, rfl, w0, rfl, by omega, fun q p2 H2 er s2 hp => fin (.ref p2) H2 s2 (.inr ⟨q, p2, er, rfl, hp⟩), fun H2 er s2 => fin .non H2 s2 (.inl ⟨er, rfl⟩)⟩
    rintro H' ⟨acc, ha, s, hf⟩
    rw [List.length_map, ← hol, List.take_length] at hf
    have sA := s1.trans s
    refine ⟨_, rfl, .none, (osOf a).map dO, .non, .lst (SqL.of ha) hf.dp, rfl, os_shaped _, _, rfl, ?_⟩
    rw [any_none]
    cases c : (osOf a).any Option.isNone with
    | true => exact iteT (qn c _ sA)
    | false =>
      obtain ⟨qs, eq⟩ := no_none c
      rw [eq] at hf
      exact iteF ⟨_, rfl, qs0 qs D acc H' eq sA (s1.free hD) ha (hf.frn (os_bd eq))⟩
theorem scShRws : FnScope ["rows", "row"] ["rows"] (defScope sShRws) := ⟨rfl, rfl, rfl, by decide +kernel, rfl, by decide +kernel, by decide +kernel⟩
theorem ok_ShRws {f fS : Addr} {fd fdS : FuncData} {k : Nat} (F : Fun K "shown_rows" "shown_rows" sShRws f fd) (GS : FnOk P w K mg base CX0 k fS fdS ["row"] (spShRw K)) (kS : PySem.W.keepIn K (.ref fS) = true) (bS : Binds K fdS ["row"] []) (gS : mg "shown_row" = some (.ref fS)) : FnOk P w K mg base CX0 (k + 1) f fd ["rows"] (spShRws K) := by
  refine F.ok scShRws (fun vs H Q E h => ?_) (fun cdv A outer s H vs Q E hr h => ?_)
  · obtain ⟨a, rs, rss, n, rfl, _⟩ := h
    rfl
  · obtain ⟨a, rs, rss, n, rfl, hw, w5, m30, h0, hn, q⟩ := h
    refine ⟨_, (pss_one (ps_ret (pe_join pe_str (pe_lc (own := [("row", 1)]) (g := gName 1) (tt := tYes) (te := (tCall (spShRw K) [] E0 (tCons (tVar 1) tNil))) rfl scShRws.nd (pi_list (pv 0)) (blkOk_by (N := ["rows", "row"]) (sc := defScope sShRws) (by decide +kernel)) (fun _ _ _ _ _ => (pg_name (i := 1) scShRws.nd rfl (Or.inl rfl))) (fun _ _ _ _ _ => pts_nil) (fun _ _ _ _ _ => (pe_call GS hr (by rfl) gS kS bS .nil pass0 (pa_cons (pv 1) pa_nil))))))), ?_⟩
    refine ⟨⟨_, rfl⟩, _, rfl, a, rfl, ⟨_, SqL.of hw.1⟩, fun D hD => lc_list (K := K) (a := a) (xs := rs.map V.ref) (fun i H' => ∃ acc, H' D = some (.lst acc) ∧ acc = ((rss.map rowS).take i).map V.str ∧ Same H H') ⟨_, upd_same, rfl, same_new hD _⟩ (fun i H' _ ⟨_, _, _, s⟩ => SqL.of (s _ _ hw.1)) ?_ ?_⟩
    · rintro i v H' hi ⟨acc, ha, rfl, s⟩
      obtain ⟨r, er, rfl⟩ : ∃ r, rs[i]? = some r ∧ v = .ref r := by
        rw [List.getElem?_map] at hi
        cases e : rs[i]? with
        | none => rw [e] at hi; cases hi
        | some r => rw [e] at hi; exact ⟨r, rfl, (Option.some.inj hi).symm⟩
      obtain ⟨cs, qs, f1, f2, f3⟩ := hw.2.2 i r er
      have hi' : i < rss.length := (List.getElem?_eq_some_iff.mp f1).1
      refine ⟨rfl, tYes_of ?_⟩
      refine ⟨_, rfl, r, cs, qs, n, rfl, s _ _ f2, f3.same s, h0, hn, m30 qs (List.mem_of_getElem? f1), fun H2 s2 => ⟨_, s2 _ _ ha, ?_, _, upd_same, ?_, fun b u e => ?_⟩⟩
      · rw [List.length_map, List.length_take, List.length_map]
        exact small1000 (Nat.le_trans (Nat.min_le_left _ _) (by omega))
      · rw [take_succ_at (show (rss.map rowS)[i]? = some (rowS qs) by rw [List.getElem?_map, f1]; rfl), List.map_append]
        rfl
      · rw [upd_ne (ne_of_none e hD)]
        exact s2 _ _ (s _ _ e)
    rintro H' ⟨acc, ha, rfl, s⟩
    rw [List.length_map, hw.2.1, List.take_of_length_le (by rw [List.length_map]; exact Nat.le_refl _)] at ha
    have sz : ∀ y ∈ rss.map rowS, y.length ≤ 115000 := fun y hy => by
      obtain ⟨x, hx, rfl⟩ := List.mem_map.mp hy
      have l1 := row_len (rw_bd0 hw x hx) h0
      have l2 : x.length * (2 * n + 4) ≤ 30 * (2 * n + 4) := Nat.mul_le_mul_right _ (m30 x hx)
      omega
    have s1 := sum_len sz
    rw [List.length_map] at s1
    have s2 : rss.length * 115000 ≤ 5 * 115000 := Nat.mul_le_mul_right _ w5
    refine ⟨_, D, rss.map rowS, rfl, rfl, .inl (SqL.of ha), ?_, q _ s⟩
    rw [List.length_map, show (Str.ofString " | ").length = 3 from rfl]
    omega
theorem scShown : FnScope ["case", "bodies", "head", "body"] ["case"] (defScope sShown) := ⟨rfl, rfl, rfl, by decide +kernel, rfl, by decide +kernel, by decide +kernel⟩
theorem ok_Shown {f fCS fCH fCE fS fR : Addr} {fd fdCS fdCH fdCE fdS fdR : FuncData} {k : Nat} {C fI : Addr} {Hd : Addr}  (F : Fun K "shown" "shown" sShown f fd) (T : CaT K mg C fI) (mCS : Meth K C "shares" fCS) (mCH : Meth K C "hearer" fCH) (mCE : Meth K C "teller" fCE) (gHd : mg "HEADS" = some (.ref Hd)) (tHd : ∀ H : Hp, SqT K H Hd [.str hS, .str hH, .str hT]) (GCS : FnOk P w K mg base CX0 k fCS fdCS ["self"] (spCShares K C)) (bCS : Binds K fdCS ["self"] []) (GCH : FnOk P w K mg base CX0 k fCH fdCH ["self"] (spCHearer K C)) (bCH : Binds K fdCH ["self"] []) (GCE : FnOk P w K mg base CX0 k fCE fdCE ["self"] (spCTeller K C)) (bCE : Binds K fdCE ["self"] []) (GS : FnOk P w K mg base CX0 k fS fdS ["row"] (spShRw K)) (kS : PySem.W.keepIn K (.ref fS) = true) (bS : Binds K fdS ["row"] []) (gS : mg "shown_row" = some (.ref fS)) (GR : FnOk P w K mg base CX0 k fR fdR ["rows"] (spShRws K)) (kR : PySem.W.keepIn K (.ref fR) = true) (bR : Binds K fdR ["rows"] []) (gR : mg "shown_rows" = some (.ref fR)) (B : Blt mg) : FnOk P w K mg base CX0 (k + 1) f fd ["case"] (spShown K C) := by
  refine F.ok scShown (fun vs H Q E h => ?_) (fun cdv A outer s H vs Q E hr h => ?_)
  · obtain ⟨x, qs, hss, tss, n, ww, dd, rfl, _⟩ := h
    rfl
  · obtain ⟨x, qs, hss, tss, n, ww, dd, rfl, hc, g, h0, hn, q⟩ := h
    refine ⟨_, (pss_cons (ps_set (i := 1) scShown.nd rfl (.inl rfl) (pe_lst (pa_cons (pe_call GS hr (by rfl) gS kS bS .nil pass0 (pa_cons (pe_meth0 (pv 0) T.cl mCS GCS hr bCS .nil pass0) pa_nil)) (pa_cons (pe_call GR hr (by rfl) gR kR bR .nil pass0 (pa_cons (pe_meth0 (pv 0) T.cl mCH GCH hr bCH .nil pass0) pa_nil)) (pa_cons (pe_call GR hr (by rfl) gR kR bR .nil pass0 (pa_cons (pe_meth0 (pv 0) T.cl mCE GCE hr bCE .nil pass0) pa_nil)) pa_nil)))))
      (pss_one (ps_ret (pe_join pe_str (pe_lc (own := [("head", 2), ("body", 3)]) (g := gTup K 2 (gCons (gName 2) (gCons (gName 3) gNil))) (tt := tYes) (te := (tOp (fun x y H Q => ∃ i j, x = .str i ∧ y = .str j ∧ i.length + j.length ≤ sizeLine ∧ Q (.str (i ++ j)) H) (tVar 2) (tVar 3))) rfl scShown.nd (Zq.pi_zipQ (by rfl) B.zip_ (pa_cons (pe_glob (v := .ref Hd) (by rfl) gHd rfl) (pa_cons (pv 1) pa_nil))) (blkOk_by (N := ["case", "bodies", "head", "body"]) (sc := defScope sShown) (by decide +kernel)) (fun _ _ _ _ _ => (pg_tup rfl (pgs_cons (pg_name (i := 2) scShown.nd rfl (Or.inl rfl)) (pgs_cons (pg_name (i := 3) scShown.nd rfl (Or.inl rfl)) pgs_nil)))) (fun _ _ _ _ _ => pts_nil) (fun _ _ _ _ _ => (pe_op op_add_str (pv 2) (pv 3)))))))), ?_⟩
    obtain ⟨dx, sa, ha, ta, cs0, rh0, rt0, e1, e2, e3, e4, e5⟩ := id hc
    have w5 := g.w5
    have d6 := g.d6
    have lq := g.sh.1
    refine ⟨_, rfl, x, dx, _, rfl, e1, rfl, x, qs, hss, tss, n, rfl, hc, fun p1 cs1 np1 hf1 => ?_⟩
    have s1 := same_new np1 (.lst cs1)
    have ep1 : (upd H p1 (.lst cs1)) p1 = some (.lst cs1) := upd_same
    have hf1 := hf1.same s1
    generalize upd H p1 (.lst cs1) = H1 at s1 ep1 hf1 ⊢
    refine ⟨p1, cs1, qs, n, rfl, ep1, hf1, h0, hn, by omega, fun H2 s2 => ?_⟩
    have s12 := s1.trans s2
    refine ⟨_, rfl, x, dx, _, rfl, s12 _ _ e1, rfl, x, qs, hss, tss, n, rfl, hc.same s12, (by rw [g.hl]; omega), fun p2 r2 H3 fr2 => ?_⟩
    have s13 := s12.trans fr2.2.2.2.2.2
    refine ⟨p2, r2, hss, n, rfl, fr2.1, by rw [g.hl]; exact w5, fun r hr => by rw [g.hr r hr]; omega, h0, hn, fun H4 s4 => ?_⟩
    have s14 := s13.trans s4
    refine ⟨_, rfl, x, dx, _, rfl, s14 _ _ e1, rfl, x, qs, hss, tss, n, rfl, hc.same s14, (by rw [g.tl]; omega), fun p3 r3 H5 fr3 => ?_⟩
    have s15 := s14.trans fr3.2.2.2.2.2
    refine ⟨p3, r3, tss, n, rfl, fr3.1, by rw [g.tl]; exact w5, fun r hr => by rw [g.tr r hr]; omega, h0, hn, fun H6 s6 => ?_⟩
    have s16 := s15.trans s6
    refine ⟨(by show 3 ≤ sizeLine; decide), fun B0 nB => ?_⟩
    have sB := same_new nB (.lst [V.str (rowS qs), V.str (wrS hss), V.str (wrS tss)])
    have eB : (upd H6 B0 (.lst [V.str (rowS qs), V.str (wrS hss), V.str (wrS tss)])) B0 = some (.lst [V.str (rowS qs), V.str (wrS hss), V.str (wrS tss)]) := upd_same
    generalize upd H6 B0 (.lst [V.str (rowS qs), V.str (wrS hss), V.str (wrS tss)]) = H7 at sB eB ⊢
    have s17 := s16.trans sB
    have zz := szl
    have r115 : ∀ {r : List Rat}, (∀ q ∈ r, Bd n q) → r.length ≤ 30 → (rowS r).length ≤ 115000 := fun {r} hb hr => by
      have l1 := row_len hb h0
      have l2 : r.length * (2 * n + 4) ≤ 30 * (2 * n + 4) := Nat.mul_le_mul_right _ hr
      omega
    have q1 : (rowS qs).length ≤ 600000 := Nat.le_trans (r115 (frn_bd e3) (by omega)) (by decide)
    have q2 : (wrS hss).length ≤ 600000 := wrS_len (by rw [g.hl]; exact w5) fun r hr => r115 (rw_bd0 e4 r hr) (by rw [g.hr r hr]; omega)
    have q3 : (wrS tss).length ≤ 600000 := wrS_len (by rw [g.tl]; exact w5) fun r hr => r115 (rw_bd0 e5 r hr) (by rw [g.tr r hr]; omega)
    refine ⟨⟨_, rfl⟩, _, rfl, Hd, B0, _, _, rfl, tHd _, SqL.of eB, fun D hD => lc_it (Zq.walk_zipQ (K := K) (a := Hd) (b := B0) (xs := [V.str hS, V.str hH, V.str hT]) (ys := [V.str (rowS qs), V.str (wrS hss), V.str (wrS tss)]) (n := 3) rfl rfl) (fun j H' => H' D = some (.lst (((ptC qs hss tss).take j).map V.str)) ∧ Same H7 H') ⟨upd_same, same_new hD _⟩ (fun j H' _ ⟨_, s⟩ => ⟨tHd _, SqL.of (s _ _ eB)⟩) ?_ ?_⟩
    · rintro j v H2' H3' hj ⟨hD2, s2'⟩ ⟨T', u, v', rfl, nT, rfl, x1, x2⟩
      obtain ⟨a, b, rfl, rfl, ea, la⟩ : ∃ a b : Str, u = .str a ∧ v' = .str b ∧ (ptC qs hss tss)[j]? = some (a ++ b) ∧ a.length + b.length ≤ 600100 := by
        match j, hj, x1, x2 with
        | 0, _, x1, x2 => cases x1; cases x2; exact ⟨_, _, rfl, rfl, rfl, by rw [show hS.length = 7 from rfl]; omega⟩
        | 1, _, x1, x2 => cases x1; cases x2; exact ⟨_, _, rfl, rfl, rfl, by rw [show hH.length = 7 from rfl]; omega⟩
        | 2, _, x1, x2 => cases x1; cases x2; exact ⟨_, _, rfl, rfl, rfl, by rw [show hT.length = 7 from rfl]; omega⟩
      have sT := same_new nT (.tup [V.str a, V.str b])
      refine ⟨T', _, rfl, SqT.of upd_same, rfl, _, _, rfl, _, _, rfl, rfl, rfl, tYes_of ?_⟩
      refine ⟨_, rfl, _, rfl, a, b, rfl, rfl, by omega, _, sT _ _ hD2, ?_, ?_, fun c o e => ?_⟩
      · rw [List.length_map, List.length_take]
        exact small1000 (Nat.le_trans (Nat.min_le_left _ _) (by omega))
      · rw [upd_same, take_succ_at ea, List.map_append]
        rfl
      · rw [upd_ne (ne_of_none e hD)]
        exact sT _ _ (s2' _ _ e)
    rintro H' ⟨hD2, s2'⟩
    have sz : ∀ y ∈ ptC qs hss tss, y.length ≤ 600100 := fun y hy => by
      unfold ptC at hy
      simp only [List.mem_cons, List.not_mem_nil, or_false] at hy
      rcases hy with rfl | rfl | rfl
      · rw [app_len, show hS.length = 7 from rfl]; omega
      · rw [app_len, show hH.length = 7 from rfl]; omega
      · rw [app_len, show hT.length = 7 from rfl]; omega
    have s3' := sum_len sz
    rw [show (ptC qs hss tss).length = 3 from rfl] at s3'
    refine ⟨_, D, ptC qs hss tss, rfl, rfl, .inl (SqL.of hD2), ?_, q _ (s17.trans s2')⟩
    rw [show (ptC qs hss tss).length = 3 from rfl, show (Str.ofString "; ").length = 2 from rfl]
    omega
theorem scRowsIn : FnScope ["parts", "number", "rows", "row"] ["parts", "number"] (defScope sRowsIn) := ⟨rfl, rfl, rfl, by decide +kernel, rfl, by decide +kernel, by decide +kernel⟩
theorem ok_RowsIn {f fR : Addr} {fd fdR : FuncData} {k : Nat} {Hd : Addr}  (F : Fun K "rows_in" "rows_in" sRowsIn f fd) (gHd : mg "HEADS" = some (.ref Hd)) (tHd : ∀ H : Hp, SqT K H Hd [.str hS, .str hH, .str hT]) (GR : FnOk P w K mg base CX0 k fR fdR ["text"] (spRowOf K)) (kR : PySem.W.keepIn K (.ref fR) = true) (bR : Binds K fdR ["text"] []) (gR : mg "row_of" = some (.ref fR)) (B : Blt mg) : FnOk P w K mg base CX0 (k + 1) f fd ["parts", "number"] (spRowsIn K) := by
  refine F.ok scRowsIn (fun vs H Q E h => ?_) (fun cdv A outer s H vs Q E hr h => ?_)
  · obtain ⟨P0, ps, i, rss, n, rfl, _⟩ := h
    rfl
  · obtain ⟨P0, ps, i, rss, n, rfl, hP, i3, hi, ne0, w5, rne, hb, h640, hsz, q⟩ := h
    have hu : (A.deeper (envOfC "rows_in" (defScope sRowsIn) s.heap.objs.size f cdv)).units + 65 < cLine := by have := hr.un; omega
    refine ⟨_, (pss_cons (ps_if (PW.pt (pw_or (pt_cmpR op_le (pe_callB call_len_seq (by rfl) B.len_ PySem.boot_len (pa_cons (pv 0) pa_nil)) (pv 1) (nomark _)) (pw_or1 (pt_not (pt_val (pe_m1 PySem.F.slot_str_startswith PySem.F.type_str_startswith mt_startswith (pe_ix ix_list (pv 0) (pv 1) (fun _ _ => rfl)) (pe_ix ix_tup (pe_glob (v := .ref Hd) (by rfl) gHd rfl) (pv 1) (fun _ _ => rfl)))))))) (pss_one ps_never) pss_nil)
      (pss_cons (ps_setLc (i := 2) (own := [("row", 3)]) (g := gName 3) (tt := tYes) (te := (tCall (spRowOf K) [] E0 (tCons (tVar 3) tNil))) rfl scRowsIn.nd rfl rfl (sw_true rfl rfl rfl (by decide +kernel)) (pi_list (pe_split (pe_m1 PySem.F.slot_str_removeprefix PySem.F.type_str_removeprefix mt_removeprefix (pe_ix ix_list (pv 0) (pv 1) (fun _ _ => rfl)) (pe_ix ix_tup (pe_glob (v := .ref Hd) (by rfl) gHd rfl) (pv 1) (fun _ _ => rfl))) pe_str)) (blkOk_by (N := ["parts", "number", "rows", "row"]) (sc := defScope sRowsIn) (by decide +kernel)) (fun _ _ _ _ _ => (pg_name (i := 3) scRowsIn.nd rfl (Or.inl rfl))) (fun _ _ _ _ _ => pts_nil) (fun _ _ _ _ _ => (pe_call GR hr (by rfl) gR kR bR .nil pass0 (pa_cons (pv 3) pa_nil))))
      (pss_cons (ps_if (pt_cmpR (op_inD hu) pe_non (pv 2) (by rfl)) (pss_one ps_never) pss_nil)
      (pss_one (ps_ret (pv 2)))))), ?_⟩
    have hl : i < ps.length := (List.getElem?_eq_some_iff.mp hi).1
    have ai : atI (ps.map V.str) (i : Int) = some (.str (hdI i ++ wrS rss)) := atI_nat (j := i) (by rw [List.getElem?_map, hi]; rfl)
    have hti : atI [V.str hS, V.str hH, V.str hT] (i : Int) = some (.str (hdI i)) := by
      match i, i3 with
      | 0, _ => rfl
      | 1, _ => rfl
      | 2, _ => rfl
    have hd7 : (hdI i).length = 7 := by
      match i, i3 with
      | 0, _ => rfl
      | 1, _ => rfl
      | 2, _ => rfl
    have zz := szl
    refine ⟨_, rfl, P0, _, rfl, .inl (SqL.of hP), _, rfl, _, _, rfl, rfl, _, rfl, ?_⟩
    rw [List.length_map, decide_eq_false (show ¬ (ps.length : Int) ≤ (i : Int) by omega)]
    refine iteF ?_
    refine ⟨_, rfl, _, rfl, P0, _, (i : Int), _, rfl, rfl, SqL.of hP, ai, ⟨_, rfl⟩, _, rfl, Hd, _, (i : Int), _, rfl, rfl, tHd _, hti, _, _, rfl, rfl, _, rfl, ?_⟩
    rw [Nt.starts_app]
    refine iteF ?_
    refine ⟨_, rfl, _, rfl, P0, _, (i : Int), _, rfl, rfl, SqL.of hP, ai, ⟨_, rfl⟩, _, rfl, Hd, _, (i : Int), _, rfl, rfl, tHd _, hti, _, _, rfl, rfl, (by rw [app_len]; omega), ⟨_, rfl⟩, _, _, rfl, rfl, rfl, ?_, fun p np => ?_⟩
    · rw [rmp_app _ _ (by omega)]; omega
    rw [rmp_app _ _ (by omega), split_wr ne0]
    have s1 := same_new np (.lst ((rss.map rowS).map V.str))
    have ep : (upd H p (.lst ((rss.map rowS).map V.str))) p = some (.lst ((rss.map rowS).map V.str)) := upd_same
    generalize upd H p (.lst ((rss.map rowS).map V.str)) = H1 at s1 ep ⊢
    refine ⟨p, rfl, ⟨_, SqL.of ep⟩, fun D hD => lc_list (K := K) (a := p) (xs := (rss.map rowS).map V.str) (fun i H' => ∃ rs, New K H1 H' D D rs (rss.take i) n ∧ rs.length = i ∧ Same H1 H') ⟨[], New.start hD, rfl, same_new hD _⟩ (fun i H' _ ⟨_, _, _, s⟩ => SqL.of (s _ _ ep)) ?_ ?_⟩
    · rintro i v H' hi ⟨rs, N, hl, s⟩
      rw [List.getElem?_map, List.getElem?_map] at hi
      cases er : rss[i]? with
      | none => rw [er] at hi; cases hi
      | some r =>
        rw [er] at hi
        cases hi
        have hr := List.mem_of_getElem? er
        have hi' : i < rss.length := (List.getElem?_eq_some_iff.mp er).1
        have eo := os_row (rne r hr)
        refine ⟨rfl, tYes_of ?_⟩
        refine ⟨_, rfl, rowS r, rfl, h640 r hr, fun qs D2 cs H2 e2 s2 n2 h2 f2 => ?_, fun z => ?_⟩
        · rw [eo] at e2
          have e3 : qs = r := (List.map_inj_right (fun a b h => Option.some.inj h)).mp e2.symm
          subst e3
          have N2 := N.stepS s2
          have hD2 : D2 ≠ D := fun z => by rw [z, N.at_] at n2; cases n2
          refine ⟨_, N2.at_, ?_, rs ++ [D2], ?_, by rw [List.length_append, hl]; rfl, fun b u e => ?_⟩
          · rw [List.length_map, hl]
            exact small1000 (by omega)
          · rw [take_succ_at er]
            exact New.push N N2 n2 h2 (frn_re f2 (hb qs hr)) hD2
          · rw [upd_ne (ne_of_none e hD)]
            exact s2 _ _ (s _ _ e)
        · rw [eo] at z
          exfalso
          rw [List.any_map] at z
          obtain ⟨x, _, hx⟩ := List.any_eq_true.mp z
          cases hx
    rintro H2 ⟨rs, N, hl, s⟩
    rw [List.length_map, List.length_map] at hl
    rw [List.length_map, List.length_map, List.take_length] at N
    have fr := N.toFresh
    refine ⟨_, rfl, .none, rss.map (fun qs : List Rat => PyData.list (qs.map dR)), .non, fr.1.dp, rfl, dRows_shaped _, _, rfl, ?_⟩
    rw [any_rows]
    refine iteF ⟨_, rfl, ?_⟩
    exact q D rs H2 ⟨fr.1, fr.2.1, fr.2.2.1, s1.free fr.2.2.2.1, fun r hr => s1.free (fr.2.2.2.2.1 r hr), s1.trans fr.2.2.2.2.2⟩
theorem scRead67 : FnScope ["text", "parts", "shares", "hearer", "teller"] ["text"] (defScope sRead67) := ⟨rfl, rfl, rfl, by decide +kernel, rfl, by decide +kernel, by decide +kernel⟩
theorem ok_Read67 {f fR : Addr} {fd fdR : FuncData} {k : Nat} {C fI : Addr} {CN : Addr} {fdI : FuncData} {Hd : Addr}  (F : Fun K "read" "read" sRead67 f fd) (T : CaT K mg C fI) (GI : FnOk P w K mg base (L2.CX P w) k fI fdI ["self", "shares", "hearer", "teller"] (spCInitF K C CN)) (bI : Binds K fdI ["self", "shares", "hearer", "teller"] []) (gHd : mg "HEADS" = some (.ref Hd)) (tHd : ∀ H : Hp, SqT K H Hd [.str hS, .str hH, .str hT]) (GR : FnOk P w K mg base CX0 k fR fdR ["parts", "number"] (spRowsIn K)) (kR : PySem.W.keepIn K (.ref fR) = true) (bR : Binds K fdR ["parts", "number"] []) (gR : mg "rows_in" = some (.ref fR)) (B : Blt mg) : FnOk P w K mg base CX0 (k + 2) f fd ["text"] (spRead67 K C) := by
  refine F.ok scRead67 (fun vs H Q E h => ?_) (fun cdv A outer s H vs Q E hr h => ?_)
  · obtain ⟨qs, hss, tss, n, ww, dd, rfl, _⟩ := h
    rfl
  · obtain ⟨qs, hss, tss, n, ww, dd, rfl, g, b1, b2, b3, h0, hn, l1, l2, l3, q⟩ := h
    have hk : Room k _ := hr.mono (by omega)
    refine ⟨_, (pss_cons (ps_if (pt_not (pt_val (pe_callB call_isi (by rfl) B.isinstance_ (by decide +kernel) (pa_cons (pv 0) (pa_cons (pe_bltn (v := .ty "str") (by rfl) B.str_ (by decide +kernel) rfl) pa_nil))))) (pss_one ps_never) pss_nil)
      (pss_cons (ps_set (i := 1) scRead67.nd rfl (.inl rfl) (pe_split (pv 0) pe_str))
      (pss_cons (ps_set (i := 2) scRead67.nd rfl (.inl rfl) (pe_call GR hk (by rfl) gR kR bR .nil pass0 (pa_cons (pv 1) (pa_cons pe_int pa_nil))))
      (pss_cons (ps_if (pt_cmpR op_ne (pe_callB call_len_seq (by rfl) B.len_ PySem.boot_len (pa_cons (pv 2) pa_nil)) pe_int (nomark _)) (pss_one ps_never) pss_nil)
      (pss_cons (ps_set (i := 3) scRead67.nd rfl (.inl rfl) (pe_call GR hk (by rfl) gR kR bR .nil pass0 (pa_cons (pv 1) (pa_cons pe_int pa_nil))))
      (pss_cons (ps_set (i := 4) scRead67.nd rfl (.inl rfl) (pe_call GR hk (by rfl) gR kR bR .nil pass0 (pa_cons (pv 1) (pa_cons pe_int pa_nil))))
      (pss_cons (ps_if (pt_cmpR op_gt (pe_callB call_len_seq (by rfl) B.len_ PySem.boot_len (pa_cons (pv 1) pa_nil)) (pe_callB call_len_seq (by rfl) B.len_ PySem.boot_len (pa_cons (pe_glob (v := .ref Hd) (by rfl) gHd rfl) pa_nil)) (nomark _)) (pss_one ps_never) pss_nil)
      (pss_one (ps_ret (pe_make T.mkC (Rs.quiet GI) hr (by rfl) T.gC bI .nil pass0 (pa_cons (pe_ix ix_list (pv 2) pe_int (fun _ _ => rfl)) (pa_cons (pv 3) (pa_cons (pv 4) pa_nil))))))))))))), ?_⟩
    have w1 := g.w1
    have w5 := g.w5
    have d1 := g.d1
    have zz := szl
    have lq := g.sh.1
    have qne : qs ≠ [] := fun z => by rw [z] at lq; simp at lq; omega
    have hne : hss ≠ [] := fun z => by have := g.hl; rw [z] at this; simp at this; omega
    have tne : tss ≠ [] := fun z => by have := g.tl; rw [z] at this; simp at this; omega
    have hrn : ∀ r ∈ hss, r ≠ [] := fun r hr z => by have := g.hr r hr; rw [z] at this; simp at this; omega
    have trn : ∀ r ∈ tss, r ≠ [] := fun r hr z => by have := g.tr r hr; rw [z] at this; simp at this; omega
    have s2' : (wrS hss).length ≤ 600000 := wrS_len (by rw [g.hl]; exact w5) fun r hr => Nat.le_trans (l2 r hr) (by decide)
    have s3' : (wrS tss).length ≤ 600000 := wrS_len (by rw [g.tl]; exact w5) fun r hr => Nat.le_trans (l3 r hr) (by decide)
    have wl := wrC_len (qs := qs) (hss := hss) (tss := tss) (L := 600000) (Nat.le_trans l1 (by decide)) s2' s3'
    refine ⟨_, rfl, _, _, _, _, true, rfl, .ty "str", .base (.str _), kit_ty (by rfl), _, rfl, iteF ?_⟩
    refine ⟨_, rfl, ⟨_, rfl⟩, _, _, rfl, rfl, rfl, by omega, fun p np => ?_⟩
    rw [split_wrC]
    have s1 := same_new np (.lst ((ptC qs hss tss).map V.str))
    have ep : (upd H p (.lst ((ptC qs hss tss).map V.str))) p = some (.lst ((ptC qs hss tss).map V.str)) := upd_same
    generalize upd H p (.lst ((ptC qs hss tss).map V.str)) = H1 at s1 ep ⊢
    refine ⟨_, rfl, p, ptC qs hss tss, 0, [qs], n, rfl, ep, by decide, by rw [wrS_one]; rfl, by simp, (by show 1 ≤ 5; decide), fun r hr => by rw [List.mem_singleton.mp hr]; exact qne, fun r hr => by rw [List.mem_singleton.mp hr]; exact b1, fun r hr => by rw [List.mem_singleton.mp hr]; exact l1, by rw [wrS_one]; omega, fun D1 r1 H2 fr1 => ?_⟩
    have s2 := fr1.2.2.2.2.2
    refine ⟨_, rfl, D1, _, rfl, .inl (SqL.of fr1.1.1), rfl, _, rfl, ?_⟩
    rw [List.length_map, fr1.1.2.1, decide_eq_true (show V.int (([qs] : List (List Rat)).length : Int) = V.int 1 from rfl)]
    refine iteF ?_
    refine ⟨_, rfl, p, ptC qs hss tss, 1, hss, n, rfl, s2 _ _ ep, by decide, rfl, hne, by rw [g.hl]; exact w5, hrn, b2, l2, s2', fun D2 r2 H3 fr2 => ?_⟩
    have s3 := fr2.2.2.2.2.2
    refine ⟨_, rfl, p, ptC qs hss tss, 2, tss, n, rfl, s3 _ _ (s2 _ _ ep), by decide, rfl, tne, by rw [g.tl]; exact w5, trn, b3, l3, s3', fun D3 r3 H4 fr3 => ?_⟩
    have s4 := fr3.2.2.2.2.2
    have s34 := s3.trans s4
    refine ⟨_, rfl, p, _, rfl, .inl (SqL.of (s34 _ _ (s2 _ _ ep))), Hd, _, rfl, .inr (tHd _), _, _, rfl, rfl, _, rfl, ?_⟩
    rw [decide_eq_false (show ¬ (([V.str hS, V.str hH, V.str hT] : List V).length : Int) < (((ptC qs hss tss).map V.str).length : Int) by show ¬ (3 : Int) < 3; omega)]
    refine iteF ?_
    obtain ⟨w1a, _, _, _, _, _⟩ := fr1
    obtain ⟨r, rfl⟩ : ∃ r, r1 = [r] := by
      have l : r1.length = 1 := w1a.2.1
      match r1, l with
      | [a], _ => exact ⟨a, rfl⟩
    obtain ⟨c, q0, f1, f2, f3⟩ := w1a.2.2 0 r rfl
    cases f1
    refine ⟨_, rfl, D1, _, 0, .ref r, rfl, rfl, SqL.of (s34 _ _ w1a.1), rfl, _, rfl, _, rfl, ?_⟩
    exact mk_caseS (CN := CN) hn (s34 _ _ f2) (f3.same s34) (fr2.1.same s4) fr3.1 g fun z H' s nz hz => q z H' (((s1.trans s2).trans s34).trans s) ((((s1.trans s2).trans s34).free nz)) hz
end
end K67

set_option Elab.async false
set_option linter.all false
set_option maxRecDepth 100000
set_option maxHeartbeats 16000000
namespace K67
open PySem PySem.Spec PyProof.Rows L2 BX EXB Co Ru
open Dz Cs Hr Gs Nt
open Rs (Rsp Rv Ret tYes_of dV datR Flat Okr spShares spRowsL spTotal spCopied eqv_dR)
open Fr (Bd)
open TL (tl numL)
def spLText (K : PySem.W.Frag) : Sp := fun vs H Q _ => ∃ (P0 : Addr) (qs : List Rat) (hss tss : List (List Rat)) (n ww dd : Nat), vs = [.ref P0] ∧ PartsT K H P0 qs hss tss n ∧ GoodC qs hss tss ww dd ∧ 0 < n ∧ n ≤ 1900 ∧ ∀ H', Same H H' → Q (.str (wrC qs hss tss)) H'
section
variable {P : Program} {w : World} {K : PySem.W.Frag} {mg : Str → Option Value} {base : Heap}
theorem scLeft : FnScope ["_law_cell", "_law_left_here", "_law_number", "_law_turn"] ["_law_cell"] (defScope sLeft) := ⟨rfl, rfl, rfl, by decide +kernel, rfl, by decide +kernel, by decide +kernel⟩
theorem ok_left {f : Addr} {fd : FuncData} {k : Nat} (F : Fun K "_law_left" "_law_left" sLeft f fd) (B : Blt mg) : FnOk P w K mg base CX0 (k + 1) f fd ["_law_cell"] spLeft := by
  refine F.ok scLeft (fun vs H Q E h => ?_) (fun cdv A outer s H vs Q E hr h => ?_)
  · obtain ⟨c, rfl, _⟩ := h
    rfl
  · obtain ⟨c, rfl, q⟩ := h
    refine ⟨_, pss_cons (ps_set (i := 1) scLeft.nd rfl (.inl rfl) (pe_callB call_abs (by rfl) B.abs_ (by decide +kernel) (pa_cons (pv 0) pa_nil)))
      (pss_cons (ps_if (pt_cmpR op_lt (pv 1) (pe_op op_pow pe_int pe_int) (nomark _))
        (pss_cons (ps_set (i := 2) scLeft.nd rfl (.inl rfl) (pv 0))
        (pss_one (ps_for PassesOwn.never rfl (pi_range1 (by rfl) B.range_ (pa_cons pe_int pa_nil)) (pg_name (i := 3) scLeft.nd rfl (.inl rfl))
          (pss_cons (ps_set (i := 2) scLeft.nd rfl (.inl rfl) (pe_op op_mod (pe_op op_mul (pe_op op_add (pe_op op_mod (pv 2) pe_int) pe_int) pe_int) pe_int))
          (pss_cons (ps_set (i := 2) scLeft.nd rfl (.inl rfl) (pe_op op_add (pe_op op_mod (pe_op op_mul (pv 2) pe_int) pe_int) (pv 3)))
          (pss_one (ps_set (i := 1) scLeft.nd rfl (.inl rfl) (pe_op op_add (pe_op op_mul (pv 1) pe_int) (pv 2)))))))))
        pss_nil)
      (pss_one (ps_ret (pe_lst (pa_cons (pv 1) pa_nil))))), ?_⟩
    refine ⟨_, rfl, c, rfl, ?_⟩
    refine ⟨_, rfl, 10, 18, rfl, rfl, ⟨by decide, by decide, by decide⟩, _, _, rfl, rfl, _, rfl, ite2 (fun z => ?_) (fun z => ?_)⟩
    · refine ⟨_, rfl, 40, rfl, by decide, by decide, for_range (lo := 0) (n := 40) (fun i σ H' => ∃ (n m : Int) (y : Option V), σ = [some (.int c), some (.int n), some (.int m), y] ∧ H' = H) ⟨_, _, none, rfl, rfl⟩ ?_ ?_⟩
      · rintro i σ H' hi ⟨n, m, y, rfl, rfl⟩
        refine ⟨_, rfl, _, _, rfl, rfl, (by show (0 : Int) < 2147483629; decide), _, _, rfl, rfl, _, _, rfl, rfl, .inr ⟨by decide, by decide⟩, _, _, rfl, rfl, (by show (0 : Int) < 2147483629; decide), ?_⟩
        refine ⟨_, rfl, _, _, rfl, rfl, .inr ⟨by decide, by decide⟩, _, _, rfl, rfl, (by show (0 : Int) < 2147483647; decide), _, rfl, _, _, rfl, rfl, ?_⟩
        refine ⟨_, rfl, _, _, rfl, rfl, .inr ⟨by decide, by decide⟩, _, rfl, _, _, rfl, rfl, ?_⟩
        exact ⟨_, _, _, rfl, rfl⟩
      · rintro σ H' ⟨n, m, y, rfl, rfl⟩
        exact ⟨_, rfl, (by show 1 ≤ sizeLine; decide), fun p hp => q p n hp⟩
    · exact ⟨_, rfl, (by show 1 ≤ sizeLine; decide), fun p hp => q p _ hp⟩
theorem scDigit : FnScope ["_law_left_here", "_law_many", "_law_found"] ["_law_left_here", "_law_many"] (defScope sDigit) := ⟨rfl, rfl, rfl, by decide +kernel, rfl, by decide +kernel, by decide +kernel⟩
theorem ok_digit {f : Addr} {fd : FuncData} {k : Nat} (F : Fun K "_law_digit" "_law_digit" sDigit f fd) : FnOk P w K mg base CX0 (k + 1) f fd ["_law_left_here", "_law_many"] spDigit := by
  refine F.ok scDigit (fun vs H Q E h => ?_) (fun cdv A outer s H vs Q E hr h => ?_)
  · obtain ⟨l, n, m, rfl, _⟩ := h
    rfl
  · obtain ⟨l, n, m, rfl, hl, hm, hmb, q⟩ := h
    refine ⟨_, pss_cons (ps_set (i := 2) scDigit.nd rfl (.inl rfl) (pe_op op_mod (pe_ix ix_list (pv 0) pe_int (fun _ _ => rfl)) (pv 1)))
      (pss_cons (ps_asg (pe_op op_fdivW (pe_ix ix_list (pv 0) pe_int (fun _ _ => rfl)) (pv 1)) (pg_sub (pv 0) pe_int set_list))
      (pss_one (ps_ret (pv 2)))), ?_⟩
    refine ⟨_, rfl, l, _, 0, .int n, rfl, rfl, SqL.of hl, atI_nat (j := 0) rfl, _, rfl, _, _, rfl, rfl, hm, ?_⟩
    refine ⟨_, rfl, l, _, 0, .int n, rfl, rfl, SqL.of hl, atI_nat (j := 0) rfl, _, rfl, _, _, rfl, rfl, wide_div hm hmb (by decide) (by decide), ?_⟩
    refine ⟨_, rfl, l, _, 0, 0, rfl, rfl, hl, rfl, ?_⟩
    exact ⟨_, rfl, q _ _ (Int.emod_nonneg _ (by omega)) (Int.emod_lt_of_pos _ hm)⟩
theorem scLow : FnScope ["_law_top", "_law_bottom", "_law_one", "_law_other"] ["_law_top", "_law_bottom"] (defScope sLow) := ⟨rfl, rfl, rfl, by decide +kernel, rfl, by decide +kernel, by decide +kernel⟩
theorem fmod_neg {x y : Int} (h : y < 0) : x.fmod y ≤ 0 := by
  have e := Int.neg_fmod_neg (-x) (-y)
  rw [Int.neg_neg, Int.neg_neg] at e
  have := Int.fmod_nonneg_of_pos (-x) (show 0 < -y by omega)
  omega
theorem ok_low {f : Addr} {fd : FuncData} {k : Nat} (F : Fun K "_law_low" "_law_low" sLow f fd) (B : Blt mg) : FnOk P w K mg base CX0 (k + 1) f fd ["_law_top", "_law_bottom"] spLow := by
  refine F.ok scLow (fun vs H Q E h => ?_) (fun cdv A outer s H vs Q E hr h => ?_)
  · obtain ⟨a, b, n, rfl, _⟩ := h
    rfl
  · obtain ⟨t, b, n, rfl, ht, hb, h0, hn, q⟩ := h
    refine ⟨_, pss_cons (ps_set (i := 2) scLow.nd rfl (.inl rfl) (pe_callB call_abs (by rfl) B.abs_ (by decide +kernel) (pa_cons (pv 0) pa_nil)))
      (pss_cons (ps_set (i := 3) scLow.nd rfl (.inl rfl) (pv 1))
      (pss_cons (ps_while PassesOwn.never (pt_cmpR op_ne (pv 3) pe_int (nomark _))
        (pss_one (ps_par (i := 2) (j := 3) (by rfl) scLow.nd rfl rfl (by decide) rfl rfl (pa_cons (pv 3) (pa_cons (pe_op op_modN (pv 2) (pv 3)) pa_nil)) (by rfl))))
      (pss_one (ps_ret (pe_tup (pa_cons (pe_op op_fdivZ (pv 0) (pv 2)) (pa_cons (pe_op op_fdivZ (pv 1) (pv 2)) pa_nil))))))), ?_⟩
    refine ⟨_, rfl, t, rfl, ?_⟩
    rw [abs_eq]
    refine ⟨_, rfl, ?_⟩
    have hg0 : Int.gcd (t.natAbs : Int) b = Int.gcd t b := by rw [Int.gcd, Int.gcd, Int.natAbs_natCast]
    refine ⟨fun m σ H' => ∃ x y : Int, σ = [some (.int t), some (.int b), some (.int x), some (.int y)] ∧ m = y.natAbs ∧ Int.gcd x y = Int.gcd t b ∧ ((y ≠ 0 ∧ (0 < b → 0 < y) ∧ (b < 0 → y < 0)) ∨ (y = 0 ∧ (0 < b → 0 < x) ∧ (b < 0 → x < 0))) ∧ H' = H, ⟨_, (t.natAbs : Int), b, rfl, rfl, hg0, .inl ⟨h0, fun z => z, fun z => z⟩, rfl⟩, ?_⟩
    rintro m σ H' ⟨x, y, rfl, rfl, hg, hsg, rfl⟩
    refine ⟨.int y, rfl, rfl, _, rfl, ite2 (fun c => ?_) (fun c => ?_)⟩
    · have hy : y ≠ 0 := fun e => by
        subst e
        exact absurd c (by decide)
      refine ⟨fun σ' H'' => ∃ x' y' : Int, σ' = [some (.int t), some (.int b), some (.int x'), some (.int y')] ∧ y'.natAbs < y.natAbs ∧ Int.gcd x' y' = Int.gcd t b ∧ ((y' ≠ 0 ∧ (0 < b → 0 < y') ∧ (b < 0 → y' < 0)) ∨ (y' = 0 ∧ (0 < b → 0 < x') ∧ (b < 0 → x' < 0))) ∧ H'' = H', ?_, ?_⟩
      · rintro σ' H'' ⟨x', y', e1, e2, e3, e4, e5⟩
        exact ⟨y'.natAbs, e2, x', y', e1, rfl, e3, e4, e5⟩
      · refine ⟨.int y, rfl, .int x, rfl, .int y, rfl, x, y, rfl, rfl, hy, _, _, rfl, y, _, rfl, Fr.fmod_abs x hy, ?_, ?_, rfl⟩
        · rw [Fr.gcd_step]
          exact hg
        · have hs : (0 < b → 0 < y) ∧ (b < 0 → y < 0) := by
            rcases hsg with z | z
            · exact z.2
            · exact absurd z.1 hy
          by_cases hz : x.fmod y = 0
          · exact .inr ⟨hz, hs⟩
          · refine .inl ⟨hz, fun hb0 => ?_, fun hb0 => ?_⟩
            · have := Int.fmod_nonneg_of_pos x (hs.1 hb0)
              omega
            · have := fmod_neg (x := x) (hs.2 hb0)
              omega
    · have hy : y = 0 := by
        by_cases e : y = 0
        · exact e
        · exact absurd (by simp [e]) c
      subst hy
      rw [Int.gcd_zero_right] at hg
      have hs : (0 < b → 0 < x) ∧ (b < 0 → x < 0) := by
        rcases hsg with z | z
        · exact absurd rfl z.1
        · exact z.2
      have hgp := Fr.gcd_pos (t := t) h0
      have hgb := gcd_bd (t := t) h0 hb
      have hn0 : 0 < n := by
        cases n with
        | zero => simp at hb; omega
        | succ n => omega
      by_cases hb0 : b < 0
      · have ex : x = -(Int.gcd t b : Int) := by
          have := hs.2 hb0
          omega
        rw [ex]
        have d : ∀ i : Int, CDivZ i (-(Int.gcd t b : Int)) := fun i => divZ (n := n) (by omega) (by rw [Int.natAbs_neg]; exact hgb) hn0 (by omega)
        refine ⟨_, rfl, _, rfl, t, _, rfl, rfl, d _, _, rfl, _, rfl, b, _, rfl, rfl, d _, (by show 2 ≤ sizeLine; decide), fun p hp => ?_⟩
        have z := q p hp
        rw [rp, ← Fr.lowN_num hb0, ← Fr.lowN_den hb0] at z
        exact z
      · have hb1 : 0 < b := by omega
        have ex : x = (Int.gcd t b : Int) := by
          have := hs.1 hb1
          omega
        rw [ex]
        have d : ∀ i : Int, CDivZ i (Int.gcd t b : Int) := fun i => divZ (n := n) (by omega) hgb hn0 (by omega)
        refine ⟨_, rfl, _, rfl, t, _, rfl, rfl, d _, _, rfl, _, rfl, b, _, rfl, rfl, d _, (by show 2 ≤ sizeLine; decide), fun p hp => ?_⟩
        have z := q p hp
        rw [rp, ← Fr.low_num hb1, ← Fr.low_den hb1] at z
        exact z
theorem scParted : FnScope ["_law_left_here", "_law_many", "_law_top", "_law_some", "_law_at", "_law_k", "_law_one"] ["_law_left_here", "_law_many", "_law_top"] (defScope sParted) := ⟨rfl, rfl, rfl, by decide +kernel, rfl, by decide +kernel, by decide +kernel⟩
theorem ok_Parted {f fD fL : Addr} {fd fdD fdL : FuncData} {k : Nat} (F : Fun K "_law_parted" "_law_parted" sParted f fd) (GD : FnOk P w K mg base CX0 k fD fdD ["_law_left_here", "_law_many"] spDigit) (kD : PySem.W.keepIn K (.ref fD) = true) (bD : Binds K fdD ["_law_left_here", "_law_many"] []) (gD : mg "_law_digit" = some (.ref fD)) (GL : FnOk P w K mg base CX0 k fL fdL ["_law_top", "_law_bottom"] spLow) (kL : PySem.W.keepIn K (.ref fL) = true) (bL : Binds K fdL ["_law_top", "_law_bottom"] []) (gL : mg "_law_low" = some (.ref fL)) (B : Blt mg) : FnOk P w K mg base CX0 (k + 1) f fd ["_law_left_here", "_law_many", "_law_top"] (spParted K) := by
  refine F.ok scParted (fun vs H Q E h => ?_) (fun cdv A outer s H vs Q E hr h => ?_)
  · obtain ⟨l, z, m, top, rfl, _⟩ := h
    rfl
  · obtain ⟨l, z, m, top, rfl, hl, h1, h30, t1, t4, q⟩ := h
    refine ⟨_, (pss_cons (ps_set (i := 3) scParted.nd rfl (.inr rfl) (pe_lc (own := [("_law_k", 5)]) (g := gName 5) (tt := tYes) (te := (tCall spDigit [] E0 (tCons (tVar 0) (tCons (tVar 2) tNil)))) rfl scParted.nd (pi_range1 (by rfl) B.range_ (pa_cons (pv 1) pa_nil)) (blkOk_by (N := ["_law_left_here", "_law_many", "_law_top", "_law_some", "_law_at", "_law_k", "_law_one"]) (sc := defScope sParted) (by decide +kernel)) (fun _ _ _ _ _ => (pg_name (i := 5) scParted.nd rfl (Or.inl rfl))) (fun _ _ _ _ _ => pts_nil) (fun _ _ _ _ _ => (pe_call GD hr (by rfl) gD kD bD .nil pass0 (pa_cons (pv 0) (pa_cons (pv 2) pa_nil))))))
      (pss_cons (ps_set (i := 4) scParted.nd rfl (.inl rfl) (pe_call GD hr (by rfl) gD kD bD .nil pass0 (pa_cons (pv 0) (pa_cons (pv 1) pa_nil))))
      (pss_cons (ps_asg (pe_op op_add (pe_ix ix_list (pv 3) (pv 4) (fun _ _ => rfl)) pe_int) (pg_sub (pv 3) (pv 4) set_list))
      (pss_one (ps_ret (pe_lc (own := [("_law_one", 6)]) (g := gName 6) (tt := tYes) (te := (tCall spLow [] E0 (tCons (tVar 6) (tCons (tCB (rSum K) (tCons (tVar 3) tNil)) tNil)))) rfl scParted.nd (pi_list (pv 3)) (blkOk_by (N := ["_law_left_here", "_law_many", "_law_top", "_law_some", "_law_at", "_law_k", "_law_one"]) (sc := defScope sParted) (by decide +kernel)) (fun _ _ _ _ _ => (pg_name (i := 6) scParted.nd rfl (Or.inl rfl))) (fun _ _ _ _ _ => pts_nil) (fun _ _ _ _ _ => (pe_call GL hr (by rfl) gL kL bL .nil pass0 (pa_cons (pv 6) (pa_cons (pe_callB (cr_sum rfl) (by rfl) B.sum_ (by decide +kernel) (pa_cons (pv 3) pa_nil)) pa_nil)))))))))), ?_⟩
    refine ⟨_, rfl, (m : Int), rfl, by omega, by omega, fun S hS => lc_range (lo := 0) (n := (m : Int).toNat) (fun j H' => ∃ (ns : List Int) (z' : Int), H' S = some (.lst (ns.map V.int)) ∧ ns.length = j ∧ (∀ x ∈ ns, 0 ≤ x ∧ x ≤ 3) ∧ SameB l H H' ∧ H' l = some (.lst [.int z']))
      ⟨[], z, upd_same, rfl, fun x hx => by simp at hx, SameB.of (same_new hS _), same_new hS _ _ _ hl⟩ ?_ ?_⟩
    · rintro j H1 hj ⟨ns, z1, hS1, hlen, hns, sb, hl1⟩
      refine ⟨rfl, tYes_of ?_⟩
      have hSl : S ≠ l := fun e => by
        rw [e, hl] at hS
        cases hS
      refine ⟨_, rfl, _, rfl, l, z1, top, rfl, hl1, by omega, Nat.lt_of_le_of_lt (by omega : top.natAbs ≤ 4) (by decide), fun d z2 d0 d4 => ?_⟩
      refine ⟨_, by rw [upd_ne hSl]; exact hS1, ?_, ns ++ [d], z2, ?_, ?_, ?_, ?_, ?_⟩
      · rw [List.length_map, hlen]
        exact small1000 (by omega)
      · rw [upd_same, List.map_append]
        rfl
      · rw [List.length_append, hlen]
        rfl
      · intro x hx
        rcases List.mem_append.mp hx with hx | hx
        · exact hns x hx
        · rw [List.mem_singleton.mp hx]
          omega
      · intro b u hb e
        have hbS : b ≠ S := ne_of_none e hS
        rw [upd_ne hbS, upd_ne hb]
        exact sb b u hb e
      · rw [upd_ne (Ne.symm hSl), upd_same]
    · rintro H1 ⟨ns, z1, hS1, hlen, hns, sb, hl1⟩
      rw [Int.toNat_natCast] at hlen
      have hSl : S ≠ l := fun e => by
        rw [e, hl] at hS
        cases hS
      refine ⟨_, rfl, _, rfl, l, z1, (m : Int), rfl, hl1, by omega, Nat.lt_of_le_of_lt (by omega : ((m : Int)).natAbs ≤ 30) (by decide), fun d z2 d0 dm => ?_⟩
      have hd : d.toNat < ns.length := by omega
      obtain ⟨x, ex⟩ : ∃ x, ns[d.toNat]? = some x := ⟨_, List.getElem?_eq_getElem hd⟩
      have ed : d = ((d.toNat : Nat) : Int) := by omega
      have hS2 : (upd H1 l (.lst [.int z2])) S = some (.lst (ns.map V.int)) := by rw [upd_ne hSl]; exact hS1
      have eat : atI (ns.map V.int) d = some (.int x) := by
        rw [ed]
        exact atI_nat (j := d.toNat) (by rw [List.getElem?_map, ex]; rfl)
      refine ⟨_, rfl, _, rfl, S, _, d, .int x, rfl, rfl, SqL.of hS2, eat, x, 1, rfl, rfl, _, rfl, _, rfl, S, _, d, d.toNat, rfl, rfl, hS2, ?_, ?_⟩
      · unfold ixN
        rw [if_pos d0, if_pos (by rw [List.length_map]; omega)]
      have es : (ns.map V.int).set d.toNat (.int (x + 1)) = (ns.set d.toNat (x + 1)).map V.int := (List.map_set ..).symm
      rw [es]
      have hx0 := hns x (List.mem_of_getElem? ex)
      have hn2 : ∀ y ∈ ns.set d.toNat (x + 1), 0 ≤ y ∧ y ≤ 4 := fun y hy => by
        rcases List.mem_or_eq_of_mem_set hy with hy | rfl
        · have := hns y hy
          omega
        · omega
      have hlen2 : (ns.set d.toNat (x + 1)).length = m := by rw [List.length_set, hlen]
      have hsum : (ns.set d.toNat (x + 1)).sum = ns.sum + 1 := Rs.set_sumI ns _ x ex
      have hpos : 0 < (ns.set d.toNat (x + 1)).sum := by
        have := Rs.sum_nn ns fun y hy => (hns y hy).1
        omega
      have hle : (ns.set d.toNat (x + 1)).sum ≤ 4 * 30 := by
        have := Rs.sum_le (ns.set d.toNat (x + 1)) 4 fun y hy => (hn2 y hy).2
        rw [hlen2] at this
        omega
      generalize ns.set d.toNat (x + 1) = ms at hn2 hlen2 hsum hpos hle
      have bS : ms.sum.natAbs < 2 ^ 8 := Nat.lt_of_le_of_lt (by omega : ms.sum.natAbs ≤ 120) (by decide)
      refine ⟨_, rfl, S, rfl, ⟨_, SqL.of upd_same⟩, fun L hL => lc_list (K := K) (a := S) (xs := ms.map V.int) (fun i H' => ∃ cs, H' L = some (.lst cs) ∧ Same (upd (upd H1 l (.lst [.int z2])) S (.lst (ms.map V.int))) H' ∧ FrN K H' 8 cs ((ms.take i).map fun x => Rat.divInt x ms.sum))
        ⟨[], upd_same, same_new hL _, FrN.nil⟩ (fun i H' _ ⟨_, _, s5, _⟩ => SqL.of (s5 _ _ upd_same)) ?_ ?_⟩
      · rintro i v H' hi ⟨cs, hcs, s5, hf⟩
        rw [List.getElem?_map] at hi
        obtain ⟨y, ey, rfl⟩ : ∃ y, ms[i]? = some y ∧ v = .int y := by
          cases e : ms[i]? with
          | none => rw [e] at hi; cases hi
          | some r => rw [e] at hi; exact ⟨r, rfl, (Option.some.inj hi).symm⟩
        have hy := hn2 y (List.mem_of_getElem? ey)
        have by8 : y.natAbs < 2 ^ 8 := Nat.lt_of_le_of_lt (by omega : y.natAbs ≤ 4) (by decide)
        refine ⟨rfl, tYes_of ?_⟩
        refine ⟨_, rfl, _, rfl, S, ms, rfl, SqL.of (s5 _ _ upd_same), y, ms.sum, 8, rfl, by8, bS, by omega, by decide, fun t ht => ?_⟩
        have s6 := same_new ht (.tup (rp (Rat.divInt y ms.sum)))
        refine ⟨cs, s6 _ _ hcs, ?_, _, upd_same, fun b u e => ?_, ?_⟩
        · rw [hf.len, List.length_map, List.length_take]
          exact small1000 (by omega)
        · rw [upd_ne (ne_of_none e hL)]
          exact s6 _ _ (s5 _ _ e)
        · rw [List.take_add_one, ey, List.map_append]
          exact ((hf.same s6).snoc (q := Rat.divInt y ms.sum) (SqT.of upd_same) (Fr.bd_low by8 bS (by omega))).keep (keep_lst (s6 _ _ hcs))
      · rintro H' ⟨cs, hcs, s5, hf⟩
        rw [List.length_map, List.take_length] at hf
        have sb2 : SameB l H (upd (upd H1 l (.lst [.int z2])) S (.lst (ms.map V.int))) := fun b u hb e => by
          rw [upd_ne (ne_of_none e hS), upd_ne hb]
          exact sb b u hb e
        have hLl : L ≠ l := fun e => by
          rw [e, upd_ne (Ne.symm hSl), upd_same] at hL
          cases hL
        have hL0 : H L = none := by
          cases e : H L with
          | none => rfl
          | some u =>
            rw [sb2 L u hLl e] at hL
            cases hL
        exact q L cs (Rs.shq ms) z2 H' (sb2.trans (SameB.of s5)) (s5 _ _ (by rw [upd_ne (Ne.symm hSl), upd_same])) hL0 hLl hcs hf (Rs.shq_ok hlen2 (fun y hy => (hn2 y hy).1) hpos)
theorem scGain : FnScope ["_law_left_here", "_law_top"] ["_law_left_here"] (defScope sGain) := ⟨rfl, rfl, rfl, by decide +kernel, rfl, by decide +kernel, by decide +kernel⟩
theorem ok_Gain {f fD fL : Addr} {fd fdD fdL : FuncData} {k : Nat} (F : Fun K "_law_gain" "_law_gain" sGain f fd) (GD : FnOk P w K mg base CX0 k fD fdD ["_law_left_here", "_law_many"] spDigit) (kD : PySem.W.keepIn K (.ref fD) = true) (bD : Binds K fdD ["_law_left_here", "_law_many"] []) (gD : mg "_law_digit" = some (.ref fD)) (GL : FnOk P w K mg base CX0 k fL fdL ["_law_top", "_law_bottom"] spLow) (kL : PySem.W.keepIn K (.ref fL) = true) (bL : Binds K fdL ["_law_top", "_law_bottom"] []) (gL : mg "_law_low" = some (.ref fL)) : FnOk P w K mg base CX0 (k + 1) f fd ["_law_left_here"] (Hr.spGain K) := by
  refine F.ok scGain (fun vs H Q E h => ?_) (fun cdv A outer s H vs Q E hr h => ?_)
  · obtain ⟨l, z, rfl, _⟩ := h
    rfl
  · obtain ⟨l, z, rfl, hl, q⟩ := h
    refine ⟨_, (pss_cons (ps_set (i := 1) scGain.nd rfl (.inl rfl) (pe_op op_mul (pe_op op_sub (pe_call GD hr (by rfl) gD kD bD .nil pass0 (pa_cons (pv 0) (pa_cons pe_int pa_nil))) pe_int) (pe_ix ix_list (pe_lst (pa_cons pe_int (pa_cons pe_int (pa_cons pe_int (pa_cons pe_int (pa_cons (pe_op op_add (pe_op op_pow pe_int pe_int) pe_int) pa_nil)))))) (pe_call GD hr (by rfl) gD kD bD .nil pass0 (pa_cons (pv 0) (pa_cons pe_int pa_nil))) (fun _ _ => rfl))))
      (pss_one (ps_ret (pe_call GL hr (by rfl) gL kL bL .nil pass0 (pa_cons (pv 1) (pa_cons (pe_ix ix_list (pe_lst (pa_cons pe_int (pa_cons pe_int (pa_cons pe_int (pa_cons pe_int (pa_cons pe_int (pa_cons (pe_op op_pow pe_int pe_int) pa_nil))))))) (pe_call GD hr (by rfl) gD kD bD .nil pass0 (pa_cons (pv 0) (pa_cons pe_int pa_nil))) (fun _ _ => rfl)) pa_nil)))))), ?_⟩
    refine ⟨_, rfl, l, z, 7, rfl, hl, by decide, by decide, fun d z1 d0 d7 => ?_⟩
    refine ⟨d, 3, rfl, rfl, ?_⟩
    refine ⟨10, 12, rfl, rfl, ⟨by decide, by decide, by decide⟩, _, 1, rfl, rfl, (by show 5 ≤ sizeLine; decide), fun p np => ?_⟩
    have s1 := same_new np (.lst [V.int 1, V.int 1, V.int 1, V.int 1, V.int (10 ^ (12 : Int).toNat + 1)])
    have hpl : p ≠ l := fun e => by
      rw [e, upd_same] at np
      cases np
    refine ⟨_, rfl, l, z1, 5, rfl, s1 _ _ upd_same, by decide, by decide, fun e z2 e0 e5 => ?_⟩
    obtain ⟨v, ev, hv⟩ := tabA (w := 10 ^ (12 : Int).toNat + 1) e0 e5
    refine ⟨p, _, e, .int v, rfl, rfl, SqL.of (by rw [upd_ne hpl]; exact upd_same), ev, d - 3, v, rfl, rfl, .inl ⟨by omega, by omega⟩, ?_⟩
    have sb2 : SameB l H (upd (upd (upd H l (.lst [.int z1])) p (.lst [V.int 1, V.int 1, V.int 1, V.int 1, V.int (10 ^ (12 : Int).toNat + 1)])) l (.lst [.int z2])) := (SameB.upd.trans (SameB.of s1)).trans SameB.upd
    have hl2 : (upd (upd (upd H l (.lst [.int z1])) p (.lst [V.int 1, V.int 1, V.int 1, V.int 1, V.int (10 ^ (12 : Int).toNat + 1)])) l (.lst [.int z2])) l = some (.lst [.int z2]) := upd_same
    generalize upd (upd (upd H l (.lst [.int z1])) p (.lst [V.int 1, V.int 1, V.int 1, V.int 1, V.int (10 ^ (12 : Int).toNat + 1)])) l (.lst [.int z2]) = H2 at sb2 hl2 ⊢
    clear np s1
    refine ⟨_, rfl, 10, 9, rfl, rfl, ⟨by decide, by decide, by decide⟩, (by show 6 ≤ sizeLine; decide), fun p' np' => ?_⟩
    have s3 := same_new np' (.lst [V.int 1, V.int 1, V.int 1, V.int 2, V.int 3, V.int (10 ^ (9 : Int).toNat)])
    have hpl' : p' ≠ l := fun e => by
      rw [e, hl2] at np'
      cases np'
    refine ⟨_, rfl, l, z2, 6, rfl, s3 _ _ hl2, by decide, by decide, fun e' z3 e0' e6 => ?_⟩
    obtain ⟨b, eb, hb⟩ := tabB (w := 10 ^ (9 : Int).toNat) e0' e6
    refine ⟨p', _, e', .int b, rfl, rfl, SqL.of (by rw [upd_ne hpl']; exact upd_same), eb, ?_⟩
    have sb3 := (sb2.trans (SameB.of s3)).trans (SameB.upd (o := .lst [.int z3]))
    have hl3 : (upd (upd H2 p' (.lst [V.int 1, V.int 1, V.int 1, V.int 2, V.int 3, V.int (10 ^ (9 : Int).toNat)])) l (.lst [.int z3])) l = some (.lst [.int z3]) := upd_same
    generalize upd (upd H2 p' (.lst [V.int 1, V.int 1, V.int 1, V.int 2, V.int 3, V.int (10 ^ (9 : Int).toNat)])) l (.lst [.int z3]) = H3 at sb3 hl3 ⊢
    have hw : v.natAbs ≤ 10 ^ 12 + 1 := by
      rcases hv with rfl | rfl
      · decide
      · decide
    have hd3 : (d - 3).natAbs ≤ 3 := by omega
    have ht : ((d - 3) * v).natAbs < 2 ^ 43 := by
      rw [Int.natAbs_mul]
      exact Nat.lt_of_le_of_lt (Nat.mul_le_mul hd3 hw) (by decide)
    have hb' : b.natAbs < 2 ^ 43 ∧ b ≠ 0 := by
      rcases hb with rfl | rfl | rfl | rfl <;> exact ⟨by decide, by decide⟩
    refine ⟨(d - 3) * v, b, 43, rfl, ht, hb'.1, hb'.2, by decide, fun p2 np2 => ?_⟩
    exact q p2 _ z3 _ (sb3.trans (SameB.of (same_new np2 _))) (same_new np2 _ _ _ hl3) (SqT.of upd_same) (Fr.bd_low ht hb'.1 hb'.2)
theorem scGains : FnScope ["_law_left_here", "_law_worlds", "_law_deeds", "_law_found", "_law_one", "_law_row", "_law_act", "_law_world"] ["_law_left_here", "_law_worlds", "_law_deeds"] (defScope sGains) := ⟨rfl, rfl, rfl, by decide +kernel, rfl, by decide +kernel, by decide +kernel⟩
theorem ok_Gains {f fG fD : Addr} {fd fdG fdD : FuncData} {k : Nat} (F : Fun K "_law_gains" "_law_gains" sGains f fd) (GG : FnOk P w K mg base CX0 k fG fdG ["_law_left_here"] (Hr.spGain K)) (kG : PySem.W.keepIn K (.ref fG) = true) (bG : Binds K fdG ["_law_left_here"] []) (gG : mg "_law_gain" = some (.ref fG)) (GD : FnOk P w K mg base CX0 k fD fdD ["_law_left_here", "_law_many"] spDigit) (kD : PySem.W.keepIn K (.ref fD) = true) (bD : Binds K fdD ["_law_left_here", "_law_many"] []) (gD : mg "_law_digit" = some (.ref fD)) (B : Blt mg) : FnOk P w K mg base CX0 (k + 1) f fd ["_law_left_here", "_law_worlds", "_law_deeds"] (Hr.spGains K) := by
  refine F.ok scGains (fun vs H Q E h => ?_) (fun cdv A outer s H vs Q E hr h => ?_)
  · obtain ⟨l, z, ww, dd, rfl, _⟩ := h
    rfl
  · obtain ⟨l, z, ww, dd, rfl, hl, h5, h1, h6, q⟩ := h
    refine ⟨_, (pss_cons (ps_setLc (i := 3) (own := [("_law_world", 7)]) (g := gName 7) (tt := tYes) (te := (tLc (iRng1 (tCons (tVar 2) tNil)) (gName 6) tYes (tCall (Hr.spGain K) [] E0 (tCons (tVar 0) tNil)) [6])) rfl scGains.nd rfl rfl (sw_true rfl rfl rfl (by decide +kernel)) (pi_range1 (by rfl) B.range_ (pa_cons (pv 1) pa_nil)) (blkOk_by (N := ["_law_left_here", "_law_worlds", "_law_deeds", "_law_found", "_law_one", "_law_row", "_law_act", "_law_world"]) (sc := defScope sGains) (by decide +kernel)) (fun _ _ _ _ _ => (pg_name (i := 7) scGains.nd rfl (Or.inl rfl))) (fun _ _ _ _ _ => pts_nil) (fun _ _ _ _ _ => (pe_lc (own := [("_law_act", 6)]) (g := gName 6) (tt := tYes) (te := (tCall (Hr.spGain K) [] E0 (tCons (tVar 0) tNil))) rfl scGains.nd (pi_range1 (by rfl) B.range_ (pa_cons (pv 2) pa_nil)) (blkOk_by (N := ["_law_left_here", "_law_worlds", "_law_deeds", "_law_found", "_law_one", "_law_row", "_law_act", "_law_world"]) (sc := ({ kind := .function, names := [(".0", .local), ("_law_world", .local), ("range", .globalImplicit), ("_law_deeds", .cell), ("_law_left_here", .cell)], isGenerator := false, isCoroutine := false } : Scope)) (by decide +kernel)) (fun _ _ _ _ _ => (pg_name (i := 6) scGains.nd rfl (Or.inl rfl))) (fun _ _ _ _ _ => pts_nil) (fun _ _ _ _ _ => (pe_call GG hr (by rfl) gG kG bG .nil pass0 (pa_cons (pv 0) pa_nil))))))
      (pss_cons (ps_if (pt_cmpR op_eq (pe_call GD hr (by rfl) gD kD bD .nil pass0 (pa_cons (pv 0) (pa_cons pe_int pa_nil))) pe_int (nomark _)) (pss_cons (ps_set (i := 4) scGains.nd rfl (.inl rfl) (pe_call GD hr (by rfl) gD kD bD .nil pass0 (pa_cons (pv 0) (pa_cons (pv 2) pa_nil))))
      (pss_one (ps_for PassesOwn.never rfl (pi_list (pv 3)) (pg_name (i := 5) scGains.nd rfl (.inl rfl)) (pss_one (ps_asg (pe_ix ix_list (pv 5) (pv 4) (fun _ _ => rfl)) (pg_sub (pv 5) (pe_un un_neg pe_int) set_list)))))) pss_nil)
      (pss_one (ps_ret (pv 3))))), ?_⟩
    refine ⟨_, rfl, (ww : Int), rfl, by omega, by omega, fun D hD => ?_⟩
    have hDl : D ≠ l := fun e => by
      rw [e, hl] at hD
      cases hD
    refine lc_range (lo := 0) (n := (ww : Int).toNat) (fun j H' => ∃ rs rss z', New K H H' l D rs rss 43 ∧ H' l = some (.lst [.int z']) ∧ rss.length = j ∧ (∀ r ∈ rss, r.length = dd))
      ⟨[], [], z, New.start hD, by rw [upd_ne (Ne.symm hDl)]; exact hl, rfl, fun qs hq => by simp at hq⟩ ?_ ?_
    · rintro j H' hj ⟨rs, rss, z', N, hl', hlen, hrow⟩
      refine ⟨rfl, tYes_of ?_⟩
      refine ⟨_, rfl, (dd : Int), rfl, by omega, by omega, fun R hR => ?_⟩
      have hRl : R ≠ l := fun e => by
        rw [e, hl'] at hR
        cases hR
      refine lc_range (lo := 0) (n := (dd : Int).toNat) (fun jj H'' => ∃ cs qs z'', H'' R = some (.lst cs) ∧ SameB l H' H'' ∧ H'' l = some (.lst [.int z'']) ∧ FrN K H'' 43 cs qs ∧ qs.length = jj)
        ⟨[], [], z', upd_same, SameB.of (same_new hR _), by rw [upd_ne (Ne.symm hRl)]; exact hl', FrN.nil, rfl⟩ ?_ ?_
      · rintro jj H'' hjj ⟨cs, qs, z'', hcs, sb, hl'', hf, hq⟩
        refine ⟨rfl, tYes_of ?_⟩
        refine ⟨_, rfl, l, z'', rfl, hl'', fun p q z3 H3 sb3 hl3 hp hb => ?_⟩
        have hcs3 := sb3 _ _ hRl hcs
        refine ⟨cs, hcs3, ?_, cs ++ [.ref p], qs ++ [q], z3, upd_same, fun b u hb' e => ?_, by rw [upd_ne (Ne.symm hRl)]; exact hl3, ?_, by rw [List.length_append, hq]; rfl⟩
        · rw [hf.len, hq]
          exact small1000 (by omega)
        · rw [upd_ne (ne_of_none e hR)]
          exact sb3 _ _ hb' (sb _ _ hb' e)
        · exact ((hf.keep (sb3.tup hl'')).snoc hp hb).keep (keep_lst hcs3)
      · rintro H'' ⟨cs, qs, z'', hcs, sb, hl'', hf, hq⟩
        rw [Int.toNat_natCast] at hq
        have N2 := N.step sb hl' hDl
        refine ⟨_, N2.at_, ?_, rs ++ [R], rss ++ [qs], z'', New.push N N2 hR hcs hf hRl, by rw [upd_ne (Ne.symm hDl)]; exact hl'', ?_, ?_⟩
        · rw [List.length_map, N.rows.1, hlen]
          exact small1000 (by omega)
        · rw [List.length_append, hlen]
          rfl
        · intro x hx
          rcases List.mem_append.mp hx with hx | hx
          · exact hrow x hx
          · rw [List.mem_singleton.mp hx]
            exact hq
    · rintro H1 ⟨rs, rss, z1, N, hl1, hlen, hrow⟩
      rw [Int.toNat_natCast] at hlen
      refine ⟨_, rfl, l, z1, 3, rfl, hl1, by decide, by decide, fun d z2 d0 d3 => ?_⟩
      have N2 : New K H (upd H1 l (.lst [.int z2])) l D rs rss 43 := N.step SameB.upd hl1 hDl
      have hl2 : (upd H1 l (.lst [.int z2])) l = some (.lst [.int z2]) := upd_same
      generalize upd H1 l (.lst [.int z2]) = H2 at N2 hl2 ⊢
      clear N hl1
      refine ⟨rfl, _, rfl, ite2 (fun _ => ?_) (fun _ => ⟨_, rfl, q D rs rss z2 H2 N2 hDl hl2 hlen hrow⟩)⟩
      refine ⟨_, rfl, _, rfl, l, z2, (dd : Int), rfl, hl2, by omega, Nat.lt_of_le_of_lt (by omega : ((dd : Int)).natAbs ≤ 30) (by decide), fun d2 z3 a0 a1 => ?_⟩
      have N3 : New K H (upd H2 l (.lst [.int z3])) l D rs rss 43 := N2.step SameB.upd hl2 hDl
      have hl3 : (upd H2 l (.lst [.int z3])) l = some (.lst [.int z3]) := upd_same
      generalize upd H2 l (.lst [.int z3]) = H3 at N3 hl3 ⊢
      clear N2 hl2
      refine ⟨_, rfl, D, rfl, ⟨_, SqL.of N3.at_⟩, for_list (K := K) (a := D) (xs := rs.map V.ref) (fun i σ H' => ∃ (rss' : List (List Rat)) (y : Option V), σ = [some (.ref l), some (.int (ww : Int)), some (.int (dd : Int)), some (.ref D), some (.int d2), y, none, none] ∧ New K H H' l D rs rss' 43 ∧ H' l = some (.lst [.int z3]) ∧ rss'.length = ww ∧ ∀ r ∈ rss', r.length = dd)
        ⟨rss, none, rfl, N3, hl3, hlen, hrow⟩ (fun i σ H' _ ⟨_, _, _, N, _⟩ => SqL.of N.at_) ?_ ?_⟩
      · rintro i v σ H' hi ⟨rss', y, rfl, N, hl', hlen', hrow'⟩
        rw [List.getElem?_map] at hi
        obtain ⟨r, er, rfl⟩ : ∃ r, rs[i]? = some r ∧ v = .ref r := by
          cases e : rs[i]? with
          | none => rw [e] at hi; cases hi
          | some r => rw [e] at hi; exact ⟨r, rfl, (Option.some.inj hi).symm⟩
        obtain ⟨cs, qs, f1, f2, f3⟩ := N.rows.2 i r er
        have hql := hrow' qs (List.mem_of_getElem? f1)
        have hcl : cs.length = dd := by rw [f3.len, hql]
        have hd2 : d2.toNat < qs.length := by omega
        obtain ⟨pc, c1, c2, c3⟩ := frn_get f3 (List.getElem?_eq_getElem hd2)
        have ed : d2 = ((d2.toNat : Nat) : Int) := by omega
        have eat : atI cs d2 = some (.ref pc) := by
          rw [ed]
          exact atI_nat (j := d2.toNat) c1
        refine ⟨_, rfl, _, rfl, r, cs, d2, .ref pc, rfl, rfl, SqL.of f2, eat, _, rfl, 1, rfl, r, cs, -1, dd - 1, rfl, rfl, f2, ?_, ?_⟩
        · unfold ixN
          rw [if_neg (by decide), if_pos (by omega), hcl]
          congr 1
          omega
        · have fs := FrN.set (j := dd - 1) f3 c2 c3
          refine ⟨_, _, rfl, New.setRow N er f2 fs, ?_, by rw [List.length_set]; exact hlen', fun x hx => ?_⟩
          · rw [upd_ne (fun e => N.nx (by rw [e]; exact List.mem_of_getElem? er))]
            exact hl'
          · rcases List.mem_or_eq_of_mem_set hx with hx | rfl
            · exact hrow' x hx
            · rw [List.length_set]
              exact hql
      · rintro σ H' ⟨rss', y, rfl, N, hl', hlen', hrow'⟩
        exact ⟨_, rfl, q D rs rss' z3 H' N hDl hl' hlen' hrow'⟩
theorem scParts : FnScope ["_law_left_here", "_law_worlds", "_law_deeds", "_law_shares", "_law_hearer"] ["_law_left_here", "_law_worlds", "_law_deeds"] (defScope sParts) := ⟨rfl, rfl, rfl, by decide +kernel, rfl, by decide +kernel, by decide +kernel⟩
theorem ok_Parts {f fS fG : Addr} {fd fdS fdG : FuncData} {k : Nat} (F : Fun K "_law_parts" "_law_parts" sParts f fd) (GS : FnOk P w K mg base CX0 k fS fdS ["_law_left_here", "_law_many", "_law_top"] (spParted K)) (kS : PySem.W.keepIn K (.ref fS) = true) (bS : Binds K fdS ["_law_left_here", "_law_many", "_law_top"] []) (gS : mg "_law_parted" = some (.ref fS)) (GG : FnOk P w K mg base CX0 k fG fdG ["_law_left_here", "_law_worlds", "_law_deeds"] (Hr.spGains K)) (kG : PySem.W.keepIn K (.ref fG) = true) (bG : Binds K fdG ["_law_left_here", "_law_worlds", "_law_deeds"] []) (gG : mg "_law_gains" = some (.ref fG)) : FnOk P w K mg base CX0 (k + 1) f fd ["_law_left_here", "_law_worlds", "_law_deeds"] (Hr.spParts K) := by
  refine F.ok scParts (fun vs H Q E h => ?_) (fun cdv A outer s H vs Q E hr h => ?_)
  · obtain ⟨l, z, ww, dd, rfl, _⟩ := h
    rfl
  · obtain ⟨l, z, ww, dd, rfl, hl, w1, w5, d1, d6, q⟩ := h
    refine ⟨_, (pss_cons (ps_set (i := 3) scParts.nd rfl (.inl rfl) (pe_call GS hr (by rfl) gS kS bS .nil pass0 (pa_cons (pv 0) (pa_cons (pv 1) (pa_cons pe_int pa_nil)))))
      (pss_cons (ps_set (i := 4) scParts.nd rfl (.inl rfl) (pe_call GG hr (by rfl) gG kG bG .nil pass0 (pa_cons (pv 0) (pa_cons (pv 1) (pa_cons (pv 2) pa_nil)))))
      (pss_one (ps_ret (pe_tup (pa_cons (pv 3) (pa_cons (pv 4) (pa_cons (pe_call GG hr (by rfl) gG kG bG .nil pass0 (pa_cons (pv 0) (pa_cons (pv 1) (pa_cons (pv 2) pa_nil)))) pa_nil)))))))), ?_⟩
    refine ⟨_, rfl, _, rfl, l, z, ww, 4, rfl, hl, w1, by omega, by decide, by decide, fun A cs qs z1 H1 sb1 hl1 hA0 hAl hcs hf hro => ?_⟩
    refine ⟨_, rfl, _, rfl, _, rfl, l, z1, ww, dd, rfl, hl1, w5, d1, d6, fun B rh hss z2 H2 N2 hBl hl2 hh hhr => ?_⟩
    refine ⟨_, rfl, _, rfl, _, rfl, _, rfl, _, rfl, l, z2, ww, dd, rfl, hl2, w5, d1, d6, fun T rt tss z3 H3 N3 hTl hl3 ht htr => ?_⟩
    refine ⟨(by show 3 ≤ sizeLine; decide), fun P nP => ?_⟩
    have s4 := same_new nP (.tup [V.ref A, V.ref B, V.ref T])
    have hA2 := N3.keep _ _ hAl (N2.keep _ _ hAl hcs)
    have f2 : FrN K H3 43 cs qs := ((hf.mono (by decide)).keep (N2.keep.tup hl1)).keep (N3.keep.tup hl2)
    refine q P qs hss tss z3 _ (((sb1.trans N2.keep).trans N3.keep).trans (SameB.of s4)) (s4 _ _ hl3) ⟨A, B, T, cs, rh, rt, SqT.of upd_same, s4 _ _ hA2, f2.same s4, (Rs.RwL.keepB N2.rwl hl2 N3.keep).same s4, N3.rwl.same s4⟩ ⟨w1, w5, d1, d6, hro, hh, ht, hhr, htr⟩
theorem scLRatT : FnScope ["_law_one"] ["_law_one"] (defScope sLRatT) := ⟨rfl, rfl, rfl, by decide +kernel, rfl, by decide +kernel, by decide +kernel⟩
theorem ok_LRatT {f  : Addr} {fd  : FuncData} {k : Nat} (F : Fun K "_law_ratio_text" "_law_ratio_text" sLRatT f fd)  (B : Blt mg) : FnOk P w K mg base CX0 (k + 1) f fd ["_law_one"] (spShR K) := by
  refine F.ok scLRatT (fun vs H Q E h => ?_) (fun cdv A outer s H vs Q E hr h => ?_)
  · obtain ⟨a, q, n, rfl, _⟩ := h
    rfl
  · obtain ⟨a, q, n, rfl, ha, hb, h0, hn, q0⟩ := h
    refine ⟨_, (pss_cons (ps_if (pt_cmpR op_eq (pe_ix ix_tup (pv 0) pe_int (fun _ _ => rfl)) pe_int (nomark _)) (pss_one (ps_ret (pe_callTy (T := "str") call_str_int (by rfl) B.str_ (by decide +kernel) (pa_cons (pe_ix ix_tup (pv 0) pe_int (fun _ _ => rfl)) pa_nil)))) pss_nil)
      (pss_one (ps_ret (pe_op op_add_str (pe_op op_add_str (pe_callTy (T := "str") call_str_int (by rfl) B.str_ (by decide +kernel) (pa_cons (pe_ix ix_tup (pv 0) pe_int (fun _ _ => rfl)) pa_nil)) pe_str) (pe_callTy (T := "str") call_str_int (by rfl) B.str_ (by decide +kernel) (pa_cons (pe_ix ix_tup (pv 0) pe_int (fun _ _ => rfl)) pa_nil)))))), ?_⟩
    have zz := szl
    have b1 := sI_len hb.1 h0
    have b2 := sI_len (i := (q.den : Int)) hb.dn h0
    have y1 : (Str.ofString "/").length = 1 := rfl
    unfold shR at q0
    refine ⟨_, rfl, a, _, 1, .int (q.den : Int), rfl, rfl, ha, rfl, rfl, _, rfl, ?_⟩
    by_cases c : q.den = 1
    · rw [decide_eq_true (show V.int (q.den : Int) = V.int 1 by rw [c]; rfl)]
      rw [if_pos c] at q0
      exact iteT ⟨_, rfl, a, _, 0, .int q.num, rfl, rfl, ha, rfl, _, rfl, log_of hb.1 h0 hn, q0⟩
    · rw [decide_eq_false (show ¬ V.int (q.den : Int) = V.int 1 from fun z => c (by have := V.int.inj z; omega))]
      rw [if_neg c] at q0
      refine iteF ⟨_, rfl, a, _, 0, .int q.num, rfl, rfl, ha, rfl, _, rfl, log_of hb.1 h0 hn, _, _, rfl, rfl, ?_, _, rfl, a, _, 1, .int (q.den : Int), rfl, rfl, ha, rfl, _, rfl, log_of hb.dn h0 hn, _, _, rfl, rfl, ?_, q0⟩
      · unfold sI at b1; omega
      · simp only [app_len]; unfold sI at b1 b2; omega
theorem scLRowT : FnScope ["_law_row", "_law_one"] ["_law_row"] (defScope sLRowT) := ⟨rfl, rfl, rfl, by decide +kernel, rfl, by decide +kernel, by decide +kernel⟩
theorem ok_LRowT {f fS : Addr} {fd fdS : FuncData} {k : Nat} (F : Fun K "_law_row_text" "_law_row_text" sLRowT f fd) (GS : FnOk P w K mg base CX0 k fS fdS ["_law_one"] (spShR K)) (kS : PySem.W.keepIn K (.ref fS) = true) (bS : Binds K fdS ["_law_one"] []) (gS : mg "_law_ratio_text" = some (.ref fS)) : FnOk P w K mg base CX0 (k + 1) f fd ["_law_row"] (spShRw K) := by
  refine F.ok scLRowT (fun vs H Q E h => ?_) (fun cdv A outer s H vs Q E hr h => ?_)
  · obtain ⟨r, cs, qs, n, rfl, _⟩ := h
    rfl
  · obtain ⟨r, cs, qs, n, rfl, hr0, hf, h0, hn, h30, q⟩ := h
    refine ⟨_, (pss_one (ps_ret (pe_join pe_str (pe_lc (own := [("_law_one", 1)]) (g := gName 1) (tt := tYes) (te := (tCall (spShR K) [] E0 (tCons (tVar 1) tNil))) rfl scLRowT.nd (pi_list (pv 0)) (blkOk_by (N := ["_law_row", "_law_one"]) (sc := defScope sLRowT) (by decide +kernel)) (fun _ _ _ _ _ => (pg_name (i := 1) scLRowT.nd rfl (Or.inl rfl))) (fun _ _ _ _ _ => pts_nil) (fun _ _ _ _ _ => (pe_call GS hr (by rfl) gS kS bS .nil pass0 (pa_cons (pv 1) pa_nil))))))), ?_⟩
    refine ⟨⟨_, rfl⟩, _, rfl, r, rfl, ⟨_, SqL.of hr0⟩, fun D hD => lc_list (K := K) (a := r) (xs := cs) (fun i H' => H' = upd H D (.lst (((qs.map shR).take i).map V.str))) rfl (fun i H' _ e => by rw [e]; exact SqL.of (same_new hD _ _ _ hr0)) ?_ ?_⟩
    · rintro i v H' hi rfl
      obtain ⟨p, x, e1, rfl, e3, e4⟩ := hf.at_ i v hi
      have hi' : i < qs.length := (List.getElem?_eq_some_iff.mp e1).1
      refine ⟨rfl, tYes_of ?_⟩
      refine ⟨_, rfl, p, x, n, rfl, seqT (same_new hD _) e3, e4, h0, hn, _, upd_same, ?_, ?_⟩
      · rw [List.length_map, List.length_take, List.length_map]
        exact small1000 (Nat.le_trans (Nat.min_le_left _ _) (by omega))
      · rw [upd_upd, take_succ_at (show (qs.map shR)[i]? = some (shR x) by rw [List.getElem?_map, e1]; rfl), List.map_append]
        rfl
    rintro H' rfl
    rw [hf.len, List.take_of_length_le (by rw [List.length_map]; exact Nat.le_refl _)]
    have sz : ∀ y ∈ qs.map shR, y.length ≤ 3803 := fun y hy => by
      obtain ⟨x, hx, rfl⟩ := List.mem_map.mp hy
      have := shR_len (frn_bd hf x hx) h0
      omega
    have s1 := sum_len sz
    rw [List.length_map] at s1
    have s2 : qs.length * 3803 ≤ 30 * 3803 := Nat.mul_le_mul_right _ h30
    refine ⟨_, D, qs.map shR, rfl, rfl, .inl (SqL.of upd_same), ?_, q _ (same_new hD _)⟩
    rw [List.length_map, show (Str.ofString " ").length = 1 from rfl]
    omega
theorem scLRowsT : FnScope ["_law_rows_here", "_law_row"] ["_law_rows_here"] (defScope sLRowsT) := ⟨rfl, rfl, rfl, by decide +kernel, rfl, by decide +kernel, by decide +kernel⟩
theorem ok_LRowsT {f fS : Addr} {fd fdS : FuncData} {k : Nat} (F : Fun K "_law_rows_text" "_law_rows_text" sLRowsT f fd) (GS : FnOk P w K mg base CX0 k fS fdS ["_law_row"] (spShRw K)) (kS : PySem.W.keepIn K (.ref fS) = true) (bS : Binds K fdS ["_law_row"] []) (gS : mg "_law_row_text" = some (.ref fS)) : FnOk P w K mg base CX0 (k + 1) f fd ["_law_rows_here"] (spShRws K) := by
  refine F.ok scLRowsT (fun vs H Q E h => ?_) (fun cdv A outer s H vs Q E hr h => ?_)
  · obtain ⟨a, rs, rss, n, rfl, _⟩ := h
    rfl
  · obtain ⟨a, rs, rss, n, rfl, hw, w5, m30, h0, hn, q⟩ := h
    refine ⟨_, (pss_one (ps_ret (pe_join pe_str (pe_lc (own := [("_law_row", 1)]) (g := gName 1) (tt := tYes) (te := (tCall (spShRw K) [] E0 (tCons (tVar 1) tNil))) rfl scLRowsT.nd (pi_list (pv 0)) (blkOk_by (N := ["_law_rows_here", "_law_row"]) (sc := defScope sLRowsT) (by decide +kernel)) (fun _ _ _ _ _ => (pg_name (i := 1) scLRowsT.nd rfl (Or.inl rfl))) (fun _ _ _ _ _ => pts_nil) (fun _ _ _ _ _ => (pe_call GS hr (by rfl) gS kS bS .nil pass0 (pa_cons (pv 1) pa_nil))))))), ?_⟩
    refine ⟨⟨_, rfl⟩, _, rfl, a, rfl, ⟨_, SqL.of hw.1⟩, fun D hD => lc_list (K := K) (a := a) (xs := rs.map V.ref) (fun i H' => ∃ acc, H' D = some (.lst acc) ∧ acc = ((rss.map rowS).take i).map V.str ∧ Same H H') ⟨_, upd_same, rfl, same_new hD _⟩ (fun i H' _ ⟨_, _, _, s⟩ => SqL.of (s _ _ hw.1)) ?_ ?_⟩
    · rintro i v H' hi ⟨acc, ha, rfl, s⟩
      obtain ⟨r, er, rfl⟩ : ∃ r, rs[i]? = some r ∧ v = .ref r := by
        rw [List.getElem?_map] at hi
        cases e : rs[i]? with
        | none => rw [e] at hi; cases hi
        | some r => rw [e] at hi; exact ⟨r, rfl, (Option.some.inj hi).symm⟩
      obtain ⟨cs, qs, f1, f2, f3⟩ := hw.2.2 i r er
      have hi' : i < rss.length := (List.getElem?_eq_some_iff.mp f1).1
      refine ⟨rfl, tYes_of ?_⟩
      refine ⟨_, rfl, r, cs, qs, n, rfl, s _ _ f2, f3.same s, h0, hn, m30 qs (List.mem_of_getElem? f1), fun H2 s2 => ⟨_, s2 _ _ ha, ?_, _, upd_same, ?_, fun b u e => ?_⟩⟩
      · rw [List.length_map, List.length_take, List.length_map]
        exact small1000 (Nat.le_trans (Nat.min_le_left _ _) (by omega))
      · rw [take_succ_at (show (rss.map rowS)[i]? = some (rowS qs) by rw [List.getElem?_map, f1]; rfl), List.map_append]
        rfl
      · rw [upd_ne (ne_of_none e hD)]
        exact s2 _ _ (s _ _ e)
    rintro H' ⟨acc, ha, rfl, s⟩
    rw [List.length_map, hw.2.1, List.take_of_length_le (by rw [List.length_map]; exact Nat.le_refl _)] at ha
    have sz : ∀ y ∈ rss.map rowS, y.length ≤ 115000 := fun y hy => by
      obtain ⟨x, hx, rfl⟩ := List.mem_map.mp hy
      have l1 := row_len (rw_bd0 hw x hx) h0
      have l2 : x.length * (2 * n + 4) ≤ 30 * (2 * n + 4) := Nat.mul_le_mul_right _ (m30 x hx)
      omega
    have s1 := sum_len sz
    rw [List.length_map] at s1
    have s2 : rss.length * 115000 ≤ 5 * 115000 := Nat.mul_le_mul_right _ w5
    refine ⟨_, D, rss.map rowS, rfl, rfl, .inl (SqL.of ha), ?_, q _ s⟩
    rw [List.length_map, show (Str.ofString " | ").length = 3 from rfl]
    omega
theorem scLText : FnScope ["_law_parts_here", "_law_found"] ["_law_parts_here"] (defScope sLText) := ⟨rfl, rfl, rfl, by decide +kernel, rfl, by decide +kernel, by decide +kernel⟩
theorem ok_LText {f fS fR : Addr} {fd fdS fdR : FuncData} {k : Nat} (F : Fun K "_law_text" "_law_text" sLText f fd) (GS : FnOk P w K mg base CX0 k fS fdS ["_law_row"] (spShRw K)) (kS : PySem.W.keepIn K (.ref fS) = true) (bS : Binds K fdS ["_law_row"] []) (gS : mg "_law_row_text" = some (.ref fS)) (GR : FnOk P w K mg base CX0 k fR fdR ["_law_rows_here"] (spShRws K)) (kR : PySem.W.keepIn K (.ref fR) = true) (bR : Binds K fdR ["_law_rows_here"] []) (gR : mg "_law_rows_text" = some (.ref fR)) : FnOk P w K mg base CX0 (k + 1) f fd ["_law_parts_here"] (spLText K) := by
  refine F.ok scLText (fun vs H Q E h => ?_) (fun cdv A outer s H vs Q E hr h => ?_)
  · obtain ⟨P0, qs, hss, tss, n, ww, dd, rfl, _⟩ := h
    rfl
  · obtain ⟨P0, qs, hss, tss, n, ww, dd, rfl, hP, g, h0, hn, q⟩ := h
    refine ⟨_, (pss_cons (ps_set (i := 1) scLText.nd rfl (.inl rfl) (pe_lst (pa_cons (pe_op op_add_str pe_str (pe_call GS hr (by rfl) gS kS bS .nil pass0 (pa_cons (pe_ix ix_tup (pv 0) pe_int (fun _ _ => rfl)) pa_nil))) (pa_cons (pe_op op_add_str pe_str (pe_call GR hr (by rfl) gR kR bR .nil pass0 (pa_cons (pe_ix ix_tup (pv 0) pe_int (fun _ _ => rfl)) pa_nil))) pa_nil))))
      (pss_one (ps_ret (pe_join pe_str (pe_op op_cat (pv 1) (pe_lst (pa_cons (pe_op op_add_str pe_str (pe_call GR hr (by rfl) gR kR bR .nil pass0 (pa_cons (pe_ix ix_tup (pv 0) pe_int (fun _ _ => rfl)) pa_nil))) pa_nil))))))), ?_⟩
    obtain ⟨A0, B0, C0, cs, rh, rt, e0, e2, e3, e4, e5⟩ := id hP
    have w5 := g.w5
    have d6 := g.d6
    have lq := g.sh.1
    have zz := szl
    have r115 : ∀ {r : List Rat}, (∀ q ∈ r, Bd n q) → r.length ≤ 30 → (rowS r).length ≤ 115000 := fun {r} hb hr => by
      have l1 := row_len hb h0
      have l2 : r.length * (2 * n + 4) ≤ 30 * (2 * n + 4) := Nat.mul_le_mul_right _ hr
      omega
    have q1 : (rowS qs).length ≤ 600000 := Nat.le_trans (r115 (frn_bd e3) (by omega)) (by decide)
    have q2 : (wrS hss).length ≤ 600000 := wrS_len (by rw [g.hl]; exact w5) fun r hr => r115 (rw_bd0 e4 r hr) (by rw [g.hr r hr]; omega)
    have q3 : (wrS tss).length ≤ 600000 := wrS_len (by rw [g.tl]; exact w5) fun r hr => r115 (rw_bd0 e5 r hr) (by rw [g.tr r hr]; omega)
    have y1 : hS.length = 7 := rfl
    have y2 : hH.length = 7 := rfl
    have y3 : hT.length = 7 := rfl
    refine ⟨_, rfl, P0, _, 0, .ref A0, rfl, rfl, e0, rfl, A0, cs, qs, n, rfl, e2, e3, h0, hn, by omega, fun H1 s1 => ⟨hS, _, rfl, rfl, by omega, ?_⟩⟩
    have hP := hP.same s1
    obtain ⟨A1, B1, C1, cs1, rh1, rt1, e0, _, _, e4, _⟩ := id hP
    refine ⟨_, rfl, P0, _, 1, .ref B1, rfl, rfl, e0, rfl, B1, rh1, hss, n, rfl, e4, by rw [g.hl]; exact w5, fun r hr => by rw [g.hr r hr]; omega, h0, hn, fun H2 s2 => ⟨hH, _, rfl, rfl, by omega, ?_⟩⟩
    refine ⟨(by show 2 ≤ sizeLine; decide), fun F nF => ?_⟩
    have s3 := same_new nF (.lst [V.str (hS ++ rowS qs), V.str (hH ++ wrS hss)])
    have eF : (upd H2 F (.lst [V.str (hS ++ rowS qs), V.str (hH ++ wrS hss)])) F = some (.lst [V.str (hS ++ rowS qs), V.str (hH ++ wrS hss)]) := upd_same
    generalize upd H2 F (.lst [V.str (hS ++ rowS qs), V.str (hH ++ wrS hss)]) = H3 at s3 eF ⊢
    have hP := hP.same (s2.trans s3)
    have s13 := s1.trans (s2.trans s3)
    clear e0 e4 e5 e2 e3
    obtain ⟨A2, B2, C2, cs2, rh2, rt2, e0, _, _, _, e5⟩ := id hP
    refine ⟨⟨_, rfl⟩, _, rfl, _, rfl, P0, _, 2, .ref C2, rfl, rfl, e0, rfl, C2, rt2, tss, n, rfl, e5, by rw [g.tl]; exact w5, fun r hr => by rw [g.tr r hr]; omega, h0, hn, fun H4 s4 => ⟨hT, _, rfl, rfl, by omega, (by show 1 ≤ sizeLine; decide), fun L1 nL1 => ?_⟩⟩
    have s5 := same_new nL1 (.lst [V.str (hT ++ wrS tss)])
    have eL1 : (upd H4 L1 (.lst [V.str (hT ++ wrS tss)])) L1 = some (.lst [V.str (hT ++ wrS tss)]) := upd_same
    generalize upd H4 L1 (.lst [V.str (hT ++ wrS tss)]) = H5 at s5 eL1 ⊢
    refine ⟨F, L1, _, _, rfl, rfl, s5 _ _ (s4 _ _ eF), eL1, (by show 2 + 1 ≤ sizeLine; decide), fun L2 nL2 => ?_⟩
    have s6 := same_new nL2 (.lst ([V.str (hS ++ rowS qs), V.str (hH ++ wrS hss)] ++ [V.str (hT ++ wrS tss)]))
    have sz : ∀ y ∈ ptC qs hss tss, y.length ≤ 600100 := fun y hy => by
      unfold ptC at hy
      simp only [List.mem_cons, List.not_mem_nil, or_false] at hy
      rcases hy with rfl | rfl | rfl
      · rw [app_len]; omega
      · rw [app_len]; omega
      · rw [app_len]; omega
    have s3' := sum_len sz
    rw [show (ptC qs hss tss).length = 3 from rfl] at s3'
    refine ⟨_, L2, ptC qs hss tss, rfl, rfl, .inl (SqL.of upd_same), ?_, q _ (((s13.trans s4).trans s5).trans s6)⟩
    rw [show (ptC qs hss tss).length = 3 from rfl, show (Str.ofString "; ").length = 2 from rfl]
    omega
end
end K67

set_option Elab.async false
set_option linter.all false
set_option maxRecDepth 100000
set_option maxHeartbeats 4000000
/-! [list(row) for row in rows] in a law's own text; the parts of a case in a list -/
namespace Gs
open PySem PySem.Spec PyProof.Rows L2 BX EXB Co Ru
open Dz Cs Hr
open Rs (tYes_of)
open Fr (Bd)
theorem lc_copy {K : PySem.W.Frag} {a D : Addr} {rs : List Addr} {rss : List (List Rat)} {n sl : Nat} {σ : L2.St} {H1 : Hp} {Qd : Hp → Prop} (hw : RwL K H1 a rs rss n) (h9 : rss.length ≤ 900) (hD : H1 D = none) (hd : ∀ rs' H', Fresh K H1 H' D rs' rss n → Qd H')
    (e1 : ∀ v : V, wipe ((wipe σ [sl]).set sl (some v)) [sl] = wipe σ [sl] := by intro _; rfl) (e2 : ∀ v : V, ((wipe σ [sl]).set sl (some v))[sl]? = some (some v) := by intro _; rfl) :
    ∃ W : Nat → Nat → Hp → Prop, (∃ m, W 0 m (upd H1 D (.lst []))) ∧ ∀ i m H, W i m H →
      ((Itl K a).stop i H ∧ Qd H) ∨ ((Itl K a).go i H ∧ ∃ Nx : Hp → Prop, (∀ H', Nx H' → ∃ m', m' < m ∧ W (i + 1) m' H') ∧ ∀ x H', (Itl K a).yld i H x H' → (gName sl) x (wipe σ [sl]) H' fun σ2 H2 => wipe σ2 [sl] = wipe σ [sl] ∧ tYes σ2 H2 fun b H3 =>
        if b = true then (tCB (rListOf K) (tCons (tVar sl) tNil)) σ2 H3 fun y H4 => ∃ acc, H4 D = some (.lst acc) ∧ acc.length < sizeLine ∧ Nx (upd H4 D (.lst (acc ++ [y]))) else Nx H3) := by
  refine lc_list (K := K) (a := a) (xs := rs.map V.ref) (fun i H' => ∃ rs', New K H1 H' D D rs' (rss.take i) n ∧ rs'.length = i ∧ Same H1 H') ⟨[], New.start hD, rfl, same_new hD _⟩ (fun i H' _ ⟨_, _, _, s⟩ => SqL.of (s _ _ hw.1)) ?_ ?_
  · rintro i v H' hi ⟨rs', N, hl, s5⟩
    obtain ⟨r, er, rfl⟩ : ∃ r, rs[i]? = some r ∧ v = .ref r := by
      rw [List.getElem?_map] at hi
      cases e : rs[i]? with
      | none => rw [e] at hi; cases hi
      | some r => rw [e] at hi; exact ⟨r, rfl, (Option.some.inj hi).symm⟩
    obtain ⟨cs, qs, e3, e4, e5⟩ := hw.2.2 i r er
    refine ⟨e1 _, tYes_of ?_⟩
    refine ⟨_, e2 _, r, cs, rfl, .inl (SqL.of (s5 _ _ e4)), fun l hl0 => ?_⟩
    have s6 := same_new hl0 (.lst cs)
    have N2 := N.stepS s6
    have hlD : l ≠ D := fun e => by rw [e, N.at_] at hl0; cases hl0
    have hil : i < rss.length := (List.getElem?_eq_some_iff.mp e3).1
    refine ⟨_, N2.at_, ?_, rs' ++ [l], ?_, by rw [List.length_append, hl]; rfl, fun b u e => ?_⟩
    · rw [List.length_map, hl]
      exact small1000 (by omega)
    · rw [take_succ_at e3]
      exact New.push N N2 hl0 upd_same (e5.same (s5.trans s6)) hlD
    · rw [upd_ne (ne_of_none e hD)]
      exact s6 _ _ (s5 _ _ e)
  · rintro H' ⟨rs', N, hl, s5⟩
    rw [List.length_map, hw.2.1, List.take_length] at N
    exact hd rs' H' N.toFresh
theorem ixN_at {n j : Nat} (hj : j < n) : ixN n (j : Int) = some j := by
  unfold ixN
  rw [if_pos (by omega), if_pos (by omega), Int.toNat_natCast]
theorem less_same2 {T : Addr} {G : Hp} : Same (less T G) G := less_same
theorem Frz.drop {K : PySem.W.Frag} {G H : Hp} {T : Addr} {ys : List V} (f : Frz K G H) (h : H T = some (.lst ys)) : Frz K (less T G) H := ⟨less_same.trans f.s, fun a xs z => by
  by_cases c : a = T
  · rcases z with (z | ⟨o, z⟩) | z
    · rw [c, h] at z; cases z
    · rw [c, h] at z; cases z
    · exact .inr z
  · rcases f.t a xs z with (z | ⟨o, z⟩) | z
    · exact .inl (.inl (by rw [less_ne c]; exact z))
    · exact .inl (.inr ⟨o, by rw [less_ne c]; exact z⟩)
    · exact .inr z⟩
/-- the parts of a case, in a list -/
def PartsL (K : PySem.W.Frag) (H : Hp) (P : Addr) (qs : List Rat) (hss tss : List (List Rat)) (n : Nat) : Prop := ∃ (A B C : Addr) (cs : List V) (rh rt : List Addr), H P = some (.lst [.ref A, .ref B, .ref C]) ∧ H A = some (.lst cs) ∧ FrN K H n cs qs ∧ RwL K H B rh hss n ∧ RwL K H C rt tss n
section
variable {K : PySem.W.Frag} {H H' : Hp} {P : Addr} {qs : List Rat} {hss tss : List (List Rat)} {n m : Nat}
theorem PartsL.same (h : PartsL K H P qs hss tss n) (s : Same H H') : PartsL K H' P qs hss tss n :=
  let ⟨A, B, C, cs, rh, rt, e1, e2, e3, e4, e5⟩ := h; ⟨A, B, C, cs, rh, rt, s _ _ e1, s _ _ e2, e3.same s, e4.same s, e5.same s⟩
theorem PartsL.but {l : Addr} {z : Int} (h : PartsL K H P qs hss tss n) (hl : H l = some (.lst [.int z])) (s : SameB l H H') : PartsL K H' P qs hss tss n := by
  obtain ⟨A, B, C, cs, rh, rt, e1, e2, e3, e4, e5⟩ := h
  refine ⟨A, B, C, cs, rh, rt, s _ _ (fun e => ?_) e1, s _ _ (fun e => ?_) e2, e3.keep (s.tup hl), Rs.RwL.keepB e4 hl s, Rs.RwL.keepB e5 hl s⟩
  · rw [e, hl] at e1
    cases e1
  · rw [e, hl] at e2
    cases e2
    exact Lw.frn_num e3
theorem rwl_mono {a : Addr} {rs : List Addr} {rss : List (List Rat)} (h : RwL K H a rs rss n) (l : n ≤ m) : RwL K H a rs rss m := ⟨h.1, h.2.1, fun j r e => let ⟨c, q, a, b, d⟩ := h.2.2 j r e; ⟨c, q, a, b, d.mono l⟩⟩
theorem PartsL.mono (h : PartsL K H P qs hss tss n) (l : n ≤ m) : PartsL K H P qs hss tss m :=
  let ⟨A, B, C, cs, rh, rt, e1, e2, e3, e4, e5⟩ := h; ⟨A, B, C, cs, rh, rt, e1, e2, e3.mono l, rwl_mono e4 l, rwl_mono e5 l⟩
theorem PartsL.of (h : Lw.PartsAt K H P qs hss tss) : PartsL K H P qs hss tss 8 := h
/-- another list changes -/
theorem rwl_off {B T : Addr} {rs : List Addr} {rss : List (List Rat)} {ys zs : List V} (h : RwL K H B rs rss n) (tb : T ≠ B) (tr : T ∉ rs) (hT : H T = some (.lst ys)) : RwL K (upd H T (.lst zs)) B rs rss n :=
  ⟨by rw [upd_ne (Ne.symm tb)]; exact h.1, h.2.keep SameB.upd hT tr⟩
theorem same_off {T l : Addr} {H0 : Hp} {zs : List V} (s : SameB l H0 H) (n : H0 T = none) : SameB l H0 (upd H T (.lst zs)) := fun b u hb e => by
  rw [upd_ne (ne_of_none e n)]
  exact s b u hb e
theorem same_offS {T : Addr} {H0 : Hp} {zs : List V} (s : Same H0 H) (n : H0 T = none) : Same H0 (upd H T (.lst zs)) := fun b u e => by
  rw [upd_ne (ne_of_none e n)]
  exact s b u e
/-- a row is put otherwise -/
theorem rwl_set {B r p : Addr} {rs : List Addr} {rss : List (List Rat)} {i k : Nat} {cs : List V} {qs : List Rat} {q : Rat} (h : RwL K H B rs rss n) (nd : rs.Nodup) (nb : B ∉ rs) (er : rs[i]? = some r) (hr : H r = some (.lst cs)) (f : FrN K H n cs qs) (eq : rss[i]? = some qs) (hp : SqT K H p (rp q)) (bd : Bd n q) :
    RwL K (upd H r (.lst (cs.set k (.ref p)))) B rs (rss.set i (qs.set k q)) n := by
  have rB : B ≠ r := fun e => nb (by rw [e]; exact List.mem_of_getElem? er)
  refine ⟨by rw [upd_ne rB]; exact h.1, by rw [List.length_set]; exact h.2.1, fun j x ex => ?_⟩
  by_cases c : j = i
  · subst c
    rw [er] at ex
    cases ex
    refine ⟨_, qs.set k q, ?_, upd_same, ?_⟩
    · rw [List.getElem?_set_self (List.getElem?_eq_some_iff.mp eq).1]
    · exact (FrN.set f hp bd).keep (keep_lst hr)
  · obtain ⟨c', q', a1, a2, a3⟩ := h.2.2 j x ex
    have xr : x ≠ r := fun e => by
      have hi := (List.getElem?_eq_some_iff.mp er)
      have hj := (List.getElem?_eq_some_iff.mp ex)
      exact c ((List.getElem_inj nd).mp (hj.2.trans (e.trans hi.2.symm)))
    exact ⟨c', q', by rw [List.getElem?_set_ne (Ne.symm c)]; exact a1, by rw [upd_ne xr]; exact a2, a3.keep (keep_lst hr)⟩
end
end Gs

set_option Elab.async false
set_option linter.all false
set_option maxRecDepth 100000
set_option maxHeartbeats 16000000
namespace K67
open PySem PySem.Spec PyProof.Rows L2 BX EXB Co Ru
open Dz Cs Hr Gs Nt
open Rs (Rsp Rv Ret tYes_of dV datR Flat Okr spShares spRowsL spTotal spCopied eqv_dR)
open Fr (Bd)
open TL (tl numL)
theorem sm_intB {i : Int} {n : Nat} (h : i.natAbs < 2 ^ n) (h0 : 0 < n) (hn : n ≤ 1900) : Sm (.int i) 0 (n + 1) := by
  have hl : i.natAbs.log2 < n := PySem.Flt.log2_lt_of h0 h
  refine ⟨decide_eq_true (Nat.lt_of_lt_of_le hl (by omega)), Nat.le_refl _, ?_, rfl⟩
  show (Str.ofString (toString i)).length ≤ n + 1
  rw [PySem.ofString_length]
  exact PySem.int_text_length_le h0 hl
theorem sm_dR43 {q : Rat} (h : Bd 43 q) : Sm (dR q) 1 95 := by
  refine sm_tup (k := 0) (b := 44) (n := 2) (fun d hd => ?_) (Nat.le_refl 2) (by omega)
  rcases List.mem_cons.mp hd with rfl | hd
  · exact sm_intB h.1 (by decide) (by omega)
  · rw [List.mem_singleton.mp hd]
    exact sm_intB h.dn (by decide) (by omega)
theorem sm_qs43 {qs : List Rat} (b : ∀ q ∈ qs, Bd 43 q) (m6 : qs.length ≤ 6) : Sm (.list (qs.map dR)) 2 585 := by
  refine sm_list (k := 1) (b := 95) (n := 6) (fun d hd => ?_) (by rw [List.length_map]; exact m6) (by omega)
  obtain ⟨q, hq, rfl⟩ := List.mem_map.mp hd
  exact sm_dR43 (b q hq)
theorem sm_rows43 {rss : List (List Rat)} (b : ∀ r ∈ rss, ∀ q ∈ r, Bd 43 q) (h5 : rss.length ≤ 5) (h6 : ∀ r ∈ rss, r.length ≤ 6) : Sm (dRows rss) 3 2938 := by
  refine sm_list (k := 2) (b := 585) (n := 5) (fun d hd => ?_) (by rw [List.length_map]; exact h5) (by omega)
  obtain ⟨r, hr, rfl⟩ := List.mem_map.mp hd
  exact sm_qs43 (b r hr) (h6 r hr)
abbrev lP (qs : List Rat) (hss tss : List (List Rat)) : List PyData := [.list (qs.map dR), dRows hss, dRows tss]
theorem sm_lP {qs : List Rat} {hss tss : List (List Rat)} {ww dd : Nat} (g : GoodC qs hss tss ww dd) (b1 : ∀ q ∈ qs, Bd 43 q) (b2 : ∀ r ∈ hss, ∀ q ∈ r, Bd 43 q) (b3 : ∀ r ∈ tss, ∀ q ∈ r, Bd 43 q) : ∀ d ∈ lP qs hss tss, Sm d 3 2938 := fun d hd => by
  have w5 := g.w5
  have d6 := g.d6
  simp only [List.mem_cons, List.not_mem_nil, or_false] at hd
  rcases hd with rfl | rfl | rfl
  · exact (sm_qs43 b1 (by rw [g.sh.1]; omega)).mono (by decide) (by decide)
  · exact sm_rows43 b2 (by rw [g.hl]; exact w5) (fun r hr => by rw [g.hr r hr]; exact d6)
  · exact sm_rows43 b3 (by rw [g.tl]; exact w5) (fun r hr => by rw [g.tr r hr]; exact d6)
theorem sm_shaped {d : PyData} {k b : Nat} (h : Sm d k b) (hk : k ≤ 64) : SeqAt.shaped d = true := by
  unfold SeqAt.shaped
  rw [h.ly, Bool.true_and]
  exact decide_eq_true (Nat.le_trans h.dp hk)
theorem eqv_lP (qs us : List Rat) (hss tss iss kss : List (List Rat)) : PyData.eqv (.list (lP qs hss tss)) (.list (lP us iss kss)) = decide (qs = us ∧ hss = iss ∧ tss = kss) := by
  rw [PyData.eqv, PyData.eqvAll, PyData.eqvAll, PyData.eqvAll, PyData.eqvAll, eqv_rats, eqv_rows, eqv_rows, Bool.and_true, ← Bool.decide_and, ← Bool.decide_and]
theorem small640 {qs : List Rat} (b : ∀ q ∈ qs, Bd 43 q) (h : qs.length ≤ 6) : (rowS qs).length ≤ 640 := by
  have l := row_len b (by decide)
  have l2 : qs.length * (2 * 43 + 4) ≤ 6 * (2 * 43 + 4) := Nat.mul_le_mul_right _ h
  omega
def spRight67 (K : PySem.W.Frag) (C : Addr) : Sp := fun vs H Q _ => ∃ (P0 : Addr) (qs : List Rat) (hss tss : List (List Rat)) (ww dd : Nat), vs = [.ref P0] ∧ PartsT K H P0 qs hss tss 43 ∧ GoodC qs hss tss ww dd ∧ ∀ H', Same H H' → Q (.bl true) H'
def spGso67 : Sp := fun vs H Q _ => vs = [] ∧ ∀ H', Same H H' → Q (.bl true) H'
def sm16 : Rat := mkRat 1 (10 ^ 16)
def gr16 : Rat := sm16 * sm16
theorem bd_sm : Bd 54 sm16 ∧ Bd 107 sm16 ∧ Bd 107 gr16 := ⟨⟨by decide +kernel, by decide +kernel⟩, ⟨by decide +kernel, by decide +kernel⟩, ⟨by decide +kernel, by decide +kernel⟩⟩
theorem good_gso : GoodC [1] [[gr16, sm16]] [[sm16, gr16]] 1 2 := ⟨by decide, by decide, by decide, by decide, ⟨rfl, by decide, by decide +kernel⟩, rfl, rfl, fun r hr => by rw [List.mem_singleton.mp hr]; rfl, fun r hr => by rw [List.mem_singleton.mp hr]; rfl⟩
theorem len_gso : (rowS [1]).length ≤ 640 ∧ (∀ r ∈ [[gr16, sm16]], (rowS r).length ≤ 640) ∧ ∀ r ∈ [[sm16, gr16]], (rowS r).length ≤ 640 := by decide +kernel
theorem rp_sm : rp sm16 = [.int 1, .int (10 ^ 16)] := by
  unfold rp
  congr 1
section
variable {P : Program} {w : World} {K : PySem.W.Frag} {mg : Str → Option Value} {base : Heap}
theorem scRight67 : FnScope ["_law_parts_here", "_law_game", "_law_due", "_law_told"] ["_law_parts_here"] (defScope sRight67) := ⟨rfl, rfl, rfl, by decide +kernel, rfl, by decide +kernel, by decide +kernel⟩
theorem ok_Right67 {f fCS fCH fCE fTx fSh fRd : Addr} {fd fdCS fdCH fdCE fdTx fdSh fdRd : FuncData} {k : Nat} {C fI : Addr} {fCe CN : Addr} {fdCe fdI : FuncData} (F : Fun K "_law_right" "_law_right" sRight67 f fd) (T : CaT K mg C fI) (mCS : Meth K C "shares" fCS) (mCH : Meth K C "hearer" fCH) (mCE : Meth K C "teller" fCE) (GI : FnOk P w K mg base (L2.CX P w) k fI fdI ["self", "shares", "hearer", "teller"] (spCInitF K C CN)) (bI : Binds K fdI ["self", "shares", "hearer", "teller"] []) (NeC : NeC K C fCe) (GCe : FnOk P w K mg base CX0 k fCe fdCe ["self", "other"] (spCEq K C)) (bCe : Binds K fdCe ["self", "other"] []) (I : IsT K C) (kbSh_case : KBn K fdSh ["case"] 0 ["case"] gA gA) (kbRd_text : KBn K fdRd ["text"] 0 ["text"] gA gA) (GCS : FnOk P w K mg base CX0 k fCS fdCS ["self"] (spCShares K C)) (bCS : Binds K fdCS ["self"] []) (GCH : FnOk P w K mg base CX0 k fCH fdCH ["self"] (spCHearer K C)) (bCH : Binds K fdCH ["self"] []) (GCE : FnOk P w K mg base CX0 k fCE fdCE ["self"] (spCTeller K C)) (bCE : Binds K fdCE ["self"] []) (GTx : FnOk P w K mg base CX0 k fTx fdTx ["_law_parts_here"] (spLText K)) (kTx : PySem.W.keepIn K (.ref fTx) = true) (bTx : Binds K fdTx ["_law_parts_here"] []) (gTx : mg "_law_text" = some (.ref fTx)) (GSh : FnOk P w K mg base CX0 k fSh fdSh ["case"] (spShown K C)) (kSh : PySem.W.keepIn K (.ref fSh) = true) (bSh : Binds K fdSh ["case"] []) (gSh : mg "shown" = some (.ref fSh)) (GRd : FnOk P w K mg base CX0 k fRd fdRd ["text"] (spRead67 K C)) (kRd : PySem.W.keepIn K (.ref fRd) = true) (bRd : Binds K fdRd ["text"] []) (gRd : mg "read" = some (.ref fRd)) (B : Blt mg) : FnOk P w K mg base CX0 (k + 3) f fd ["_law_parts_here"] (spRight67 K C) := by
  refine F.ok scRight67 (fun vs H Q E h => ?_) (fun cdv A outer s H vs Q E hr h => ?_)
  · obtain ⟨P0, qs, hss, tss, ww, dd, rfl, _⟩ := h
    rfl
  · obtain ⟨P0, qs, hss, tss, ww, dd, rfl, hP, g, q⟩ := h
    have hk : Room k _ := hr.mono (by omega)
    have hk1 : Room (k + 1) _ := hr.mono (by omega)
    refine ⟨_, (pss_cons (ps_set (i := 1) scRight67.nd rfl (.inl rfl) (pe_make T.mkC (Rs.quiet GI) hk1 (by rfl) T.gC bI .nil pass0 (pa_cons (pe_ix ix_tup (pv 0) pe_int (fun _ _ => rfl)) (pa_cons (pe_ix ix_tup (pv 0) pe_int (fun _ _ => rfl)) (pa_cons (pe_ix ix_tup (pv 0) pe_int (fun _ _ => rfl)) pa_nil)))))
      (pss_cons (ps_set (i := 2) scRight67.nd rfl (.inl rfl) (pe_call GTx hk (by rfl) gTx kTx bTx .nil pass0 (pa_cons (pv 0) pa_nil)))
      (pss_cons (ps_if (PW.pt (pw_or (pt_cmpR op_ne (pe_call GSh hk (by rfl) gSh kSh bSh .nil pass0 (pa_cons (pv 1) pa_nil)) (pv 2) (nomark _)) (pw_or1 (pt_cmpR op_ne (pe_callN0 GSh hk (by rfl) gSh kSh kbSh_case pass0 (pk_cons (pv 1) pk_nil)) (pv 2) (nomark _))))) (pss_one (ps_ret pe_bl)) pss_nil)
      (pss_cons (ps_set (i := 3) scRight67.nd rfl (.inl rfl) (pe_call GRd hk (by rfl) gRd kRd bRd .nil pass0 (pa_cons (pv 2) pa_nil)))
      (pss_cons (ps_if (PW.pt (pw_or (pt_not (pt_val (pe_callB call_isi (by rfl) B.isinstance_ (by decide +kernel) (pa_cons (pv 3) (pa_cons (pe_glob (v := .ref C) (by rfl) T.gC rfl) pa_nil))))) (pw_or (pt_cmpR (op_neA NeC GCe hk1 bCe) (pv 3) (pv 1) (nomark _)) (pw_or (pt_cmpR (op_neA NeC GCe hk1 bCe) (pe_callN0 GRd hk (by rfl) gRd kRd kbRd_text pass0 (pk_cons (pv 2) pk_nil)) (pv 1) (nomark _)) (pw_or1 (pt_cmpR op_ne (pe_call GSh hk (by rfl) gSh kSh bSh .nil pass0 (pa_cons (pv 3) pa_nil)) (pv 2) (nomark _))))))) (pss_one (ps_ret pe_bl)) pss_nil)
      (pss_cons (ps_expr (pe_bm0 PySem.F.plainAttrs_list PySem.F.slot_list_clear PySem.F.type_list_clear mt_clear (pe_meth0 (pv 3) T.cl mCS GCS hk bCS .nil pass0)))
      (pss_cons (ps_expr (pe_bm0 PySem.F.plainAttrs_list PySem.F.slot_list_clear PySem.F.type_list_clear mt_clear (pe_ix ix_list (pe_meth0 (pv 3) T.cl mCH GCH hk bCH .nil pass0) pe_int (fun _ _ => rfl))))
      (pss_one (ps_ret (pe_and (pe_cmpR (op_eqD hk.units) (pe_lst (pa_cons (pe_meth0 (pv 3) T.cl mCS GCS hk bCS .nil pass0) (pa_cons (pe_meth0 (pv 3) T.cl mCH GCH hk bCH .nil pass0) (pa_cons (pe_meth0 (pv 3) T.cl mCE GCE hk bCE .nil pass0) pa_nil)))) (pe_callTy (T := "list") call_list_of (by rfl) B.list_ (by decide +kernel) (pa_cons (pv 0) pa_nil)) (nomark _)) (pe_one (pe_cmpR (op_eqA NeC GCe hk1 bCe) (pv 1) (pe_call GRd hk (by rfl) gRd kRd bRd .nil pass0 (pa_cons (pv 2) pa_nil)) (nomark _))))))))))))), ?_⟩
    obtain ⟨A0, B0, C0, cs, rh, rt, e0, e2, e3, e4, e5⟩ := id hP
    have w1 := g.w1
    have w5 := g.w5
    have d1 := g.d1
    have d6 := g.d6
    have b1 := frn_bd e3
    have b2 := rw_bd0 e4
    have b3 := rw_bd0 e5
    have l1 := small640 b1 (by rw [g.sh.1]; omega)
    have l2 : ∀ r ∈ hss, (rowS r).length ≤ 640 := fun r hr => small640 (b2 r hr) (by rw [g.hr r hr]; exact d6)
    have l3 : ∀ r ∈ tss, (rowS r).length ≤ 640 := fun r hr => small640 (b3 r hr) (by rw [g.tr r hr]; exact d6)
    refine ⟨_, rfl, P0, _, 0, .ref A0, rfl, rfl, e0, rfl, _, rfl, P0, _, 1, .ref B0, rfl, rfl, e0, rfl, _, rfl, P0, _, 2, .ref C0, rfl, rfl, e0, rfl, ?_⟩
    refine mk_caseS (CN := CN) (n := 43) (by decide) e2 e3 e4 e5 g fun x H1 s1 nx hx => ?_
    have hP := hP.same s1
    clear e0 e2 e3 e4 e5
    refine ⟨_, rfl, P0, qs, hss, tss, 43, ww, dd, rfl, hP, g, by decide, by decide, fun H2 s2 => ?_⟩
    have hP := hP.same s2
    have hx := hx.same s2
    have s1 := s1.trans s2
    clear s2
    refine ⟨_, rfl, x, qs, hss, tss, 43, ww, dd, rfl, hx, g, by decide, by decide, fun H3 s2 => ⟨_, rfl, rfl, _, rfl, ?_⟩⟩
    rw [decide_eq_true (show V.str (wrC qs hss tss) = V.str (wrC qs hss tss) from rfl)]
    refine iteF ?_
    have hP := hP.same s2
    have hx := hx.same s2
    have s1 := s1.trans s2
    clear s2
    refine ⟨_, rfl, rfl, rfl, x, qs, hss, tss, 43, ww, dd, rfl, hx, g, by decide, by decide, fun H4 s2 => ⟨_, rfl, rfl, _, rfl, ?_⟩⟩
    rw [decide_eq_true (show V.str (wrC qs hss tss) = V.str (wrC qs hss tss) from rfl)]
    refine iteF ?_
    have hP := hP.same s2
    have hx := hx.same s2
    have s1 := s1.trans s2
    clear s2
    refine ⟨_, rfl, qs, hss, tss, 43, ww, dd, rfl, g, b1, b2, b3, by decide, by decide, l1, l2, l3, fun z H5 s2 nz hz => ?_⟩
    have hP := hP.same s2
    have hx := hx.same s2
    have s1 := s1.trans s2
    clear s2
    obtain ⟨dx, _, _, _, _, _, _, ex, _⟩ := id hx
    obtain ⟨dz, _, _, _, _, _, _, ez, _⟩ := id hz
    refine ⟨_, rfl, _, _, _, _, true, rfl, .own C, .base (.ins ez T.cl I.ha I.hn I.ht I.hm), I.kt, _, rfl, iteF ?_⟩
    refine ⟨_, rfl, _, rfl, z, dz, _, rfl, ez, .inr (.inr (.inr (.inr (.inr (.inr ⟨x, C, dx, _, fCe, rfl, ex, NeC⟩))))), z, .ref x, qs, hss, tss, 43, rfl, hz, .inr ⟨x, qs, hss, tss, 43, rfl, hx, _, rfl, _, rfl, ?_⟩⟩
    rw [decide_eq_true (show qs = qs ∧ hss = hss ∧ tss = tss from ⟨rfl, rfl, rfl⟩)]
    refine iteF ?_
    refine ⟨_, rfl, rfl, rfl, qs, hss, tss, 43, ww, dd, rfl, g, b1, b2, b3, by decide, by decide, l1, l2, l3, fun y H6 s2 ny hy => ?_⟩
    have hP := hP.same s2
    have hx := hx.same s2
    have hz := hz.same s2
    have s1 := s1.trans s2
    have ex := s2 _ _ ex
    have ez := s2 _ _ ez
    clear s2
    obtain ⟨dy, _, _, _, _, _, _, ey, _⟩ := id hy
    refine ⟨_, rfl, y, dy, _, rfl, ey, .inr (.inr (.inr (.inr (.inr (.inr ⟨x, C, dx, _, fCe, rfl, ex, NeC⟩))))), y, .ref x, qs, hss, tss, 43, rfl, hy, .inr ⟨x, qs, hss, tss, 43, rfl, hx, _, rfl, _, rfl, ?_⟩⟩
    rw [decide_eq_true (show qs = qs ∧ hss = hss ∧ tss = tss from ⟨rfl, rfl, rfl⟩)]
    refine iteF ?_
    clear ey hy ny
    refine ⟨_, rfl, z, qs, hss, tss, 43, ww, dd, rfl, hz, g, by decide, by decide, fun H7 s2 => ⟨_, rfl, rfl, _, rfl, ?_⟩⟩
    rw [decide_eq_true (show V.str (wrC qs hss tss) = V.str (wrC qs hss tss) from rfl)]
    refine iteF ?_
    have hP := hP.same s2
    have hx := hx.same s2
    have hz := hz.same s2
    have s1 := s1.trans s2
    have ex := s2 _ _ ex
    have ez := s2 _ _ ez
    clear s2
    refine ⟨_, rfl, z, dz, _, rfl, ez, rfl, z, qs, hss, tss, 43, rfl, hz, fun p cp np hf => ⟨.inl ⟨rfl, _, SqL.of upd_same⟩, p, cp, rfl, rfl, upd_same, ?_⟩⟩
    rw [upd_upd]
    have s2 := same_new np (.lst [])
    generalize upd H7 p (.lst []) = H8 at s2 ⊢
    have hP := hP.same s2
    have hx := hx.same s2
    have hz := hz.same s2
    have s1 := s1.trans s2
    have ex := s2 _ _ ex
    have ez := s2 _ _ ez
    clear s2 hf np
    have h100 : hss.length ≤ 100 := by rw [g.hl]; omega
    have t100 : tss.length ≤ 100 := by rw [g.tl]; omega
    refine ⟨_, rfl, z, dz, _, rfl, ez, rfl, z, qs, hss, tss, 43, rfl, hz, h100, fun D1 r1 H9 fr => ?_⟩
    obtain ⟨wD, _, _, _, fr1, s2⟩ := fr
    have hr1 : 0 < r1.length := by rw [wD.2.1, g.hl]; exact w1
    obtain ⟨c1, q1, v1, v2, v3⟩ := wD.2.2 0 r1[0] (List.getElem?_eq_getElem hr1)
    refine ⟨D1, _, 0, .ref r1[0], rfl, rfl, SqL.of wD.1, atI_nat (j := 0) (by rw [List.getElem?_map, List.getElem?_eq_getElem hr1]; rfl), .inl ⟨rfl, _, SqL.of v2⟩, r1[0], c1, rfl, rfl, v2, ?_⟩
    have s2 := same_offS (zs := []) s2 (fr1 _ (List.getElem_mem hr1))
    generalize upd H9 r1[0] (.lst []) = Ha at s2 ⊢
    have hP := hP.same s2
    have hx := hx.same s2
    have hz := hz.same s2
    have s1 := s1.trans s2
    have ex := s2 _ _ ex
    have ez := s2 _ _ ez
    clear s2 v2 v3 wD fr1
    refine ⟨_, rfl, z, dz, _, rfl, ez, rfl, z, qs, hss, tss, 43, rfl, hz, fun p1 cs1 np1 hf1 => ?_⟩
    have s2 := same_new np1 (.lst cs1)
    have ep1 : (upd Ha p1 (.lst cs1)) p1 = some (.lst cs1) := upd_same
    have hf1 := hf1.same s2
    generalize upd Ha p1 (.lst cs1) = J1 at s2 ep1 hf1 ⊢
    refine ⟨_, rfl, z, dz, _, rfl, s2 _ _ ez, rfl, z, qs, hss, tss, 43, rfl, hz.same s2, h100, fun p2 r2 J2 fr2 => ?_⟩
    have t2 := s2.trans fr2.2.2.2.2.2
    refine ⟨_, rfl, z, dz, _, rfl, t2 _ _ ez, rfl, z, qs, hss, tss, 43, rfl, hz.same t2, t100, fun p3 r3 J3 fr3 => ?_⟩
    have t3 := t2.trans fr3.2.2.2.2.2
    have u2 := fr2.2.2.2.2.2
    have u3 := fr3.2.2.2.2.2
    have wA := fr2.1
    have wB := fr3.1
    clear fr2 fr3
    refine ⟨(by show 3 ≤ sizeLine; decide), fun p4 np4 => ?_⟩
    have s4 := same_new np4 (.lst [V.ref p1, V.ref p2, V.ref p3])
    have ep4 : (upd J3 p4 (.lst [V.ref p1, V.ref p2, V.ref p3])) p4 = some (.lst [V.ref p1, V.ref p2, V.ref p3]) := upd_same
    generalize upd J3 p4 (.lst [V.ref p1, V.ref p2, V.ref p3]) = J4 at s4 ep4 ⊢
    have hP := (hP.same t3).same s4
    have hx := (hx.same t3).same s4
    have ex := s4 _ _ (t3 _ _ ex)
    have s1 := (s1.trans t3).trans s4
    have D1' : Dp K J4 (.ref p4) (.list (lP qs hss tss)) := .lst (SqL.of ep4) (.cons (.lst (SqL.of (s4 _ _ (u3 _ _ (u2 _ _ ep1)))) (hf1.same ((u2.trans u3).trans s4)).dp) (.cons (wA.same (u3.trans s4)).dp (.cons (wB.same s4).dp .nil)))
    obtain ⟨A1, B1, C1, cs', rh1, rt1, e0, e2, e3, e4, e5⟩ := id hP
    refine ⟨_, rfl, P0, _, rfl, .inr e0, fun L2 nL2 => ?_⟩
    have s5 := same_new nL2 (.lst [V.ref A1, V.ref B1, V.ref C1])
    have eL2 : (upd J4 L2 (.lst [V.ref A1, V.ref B1, V.ref C1])) L2 = some (.lst [V.ref A1, V.ref B1, V.ref C1]) := upd_same
    generalize upd J4 L2 (.lst [V.ref A1, V.ref B1, V.ref C1]) = J5 at s5 eL2 ⊢
    have D2' : Dp K J5 (.ref L2) (.list (lP qs hss tss)) := .lst (SqL.of eL2) (.cons (.lst (SqL.of (s5 _ _ e2)) (e3.same s5).dp) (.cons (e4.same s5).dp (.cons (e5.same s5).dp .nil)))
    have D1' : Dp K J5 (.ref p4) (.list (lP qs hss tss)) := .lst (SqL.of (s5 _ _ ep4)) (.cons (.lst (SqL.of (s5 _ _ (s4 _ _ (u3 _ _ (u2 _ _ ep1))))) (hf1.same (((u2.trans u3).trans s4).trans s5)).dp) (.cons (wA.same ((u3.trans s4).trans s5)).dp (.cons (wB.same (s4.trans s5)).dp .nil)))
    have SM : Sm (.list (lP qs hss tss)) 4 8823 := sm_list (k := 3) (b := 2938) (n := 3) (sm_lP g b1 b2 b3) (Nat.le_refl 3) (by decide)
    refine ⟨.list (lP qs hss tss), .list (lP qs hss tss), D1', D2', sm_shaped SM (by decide), sm_shaped SM (by decide), _, rfl, ?_⟩
    rw [eqv_lP, decide_eq_true (show qs = qs ∧ hss = hss ∧ tss = tss from ⟨rfl, rfl, rfl⟩)]
    refine iteT ?_
    refine ⟨_, rfl, _, rfl, qs, hss, tss, 43, ww, dd, rfl, g, b1, b2, b3, by decide, by decide, l1, l2, l3, fun y Hb s6 ny hy => ?_⟩
    obtain ⟨dy, _, _, _, _, _, _, ey, _⟩ := id hy
    refine ⟨x, dx, _, rfl, s6 _ _ (s5 _ _ ex), .inr (.inr (.inr (.inr (.inr (.inr ⟨y, C, dy, _, fCe, rfl, ey, NeC⟩))))), x, .ref y, qs, hss, tss, 43, rfl, (hx.same s5).same s6, .inr ⟨y, qs, hss, tss, 43, rfl, hy, _, rfl, ?_⟩⟩
    rw [decide_eq_true (show qs = qs ∧ hss = hss ∧ tss = tss from ⟨rfl, rfl, rfl⟩)]
    exact q _ ((s1.trans s5).trans s6)
theorem scGso67 : FnScope ["_law_small", "_law_great", "_law_game"] [] (defScope sGso67) := ⟨rfl, rfl, rfl, by decide +kernel, rfl, by decide +kernel, by decide +kernel⟩
theorem ok_Gso67 {f fCH fX fSh fRd : Addr} {fd fdCH fdX fdSh fdRd : FuncData} {k : Nat} {C fI : Addr} {fCe CN : Addr} {fdCe fdI : FuncData} (F : Fun K "_law_great_so" "_law_great_so" sGso67 f fd) (T : CaT K mg C fI) (mCH : Meth K C "hearer" fCH) (GI : FnOk P w K mg base (L2.CX P w) k fI fdI ["self", "shares", "hearer", "teller"] (spCInitF K C CN)) (bI : Binds K fdI ["self", "shares", "hearer", "teller"] []) (NeC : NeC K C fCe) (GCe : FnOk P w K mg base CX0 k fCe fdCe ["self", "other"] (spCEq K C)) (bCe : Binds K fdCe ["self", "other"] []) (I : IsT K C) (GCH : FnOk P w K mg base CX0 k fCH fdCH ["self"] (spCHearer K C)) (bCH : Binds K fdCH ["self"] []) (GX : FnOk P w K mg base CX0 k fX fdX ["one", "other"] (spBin K (· * ·))) (kX : PySem.W.keepIn K (.ref fX) = true) (bX : Binds K fdX ["one", "other"] []) (gX : mg "times" = some (.ref fX)) (GSh : FnOk P w K mg base CX0 k fSh fdSh ["case"] (spShown K C)) (kSh : PySem.W.keepIn K (.ref fSh) = true) (bSh : Binds K fdSh ["case"] []) (gSh : mg "shown" = some (.ref fSh)) (GRd : FnOk P w K mg base CX0 k fRd fdRd ["text"] (spRead67 K C)) (kRd : PySem.W.keepIn K (.ref fRd) = true) (bRd : Binds K fdRd ["text"] []) (gRd : mg "read" = some (.ref fRd)) (B : Blt mg) : FnOk P w K mg base CX0 (k + 3) f fd [] spGso67 := by
  refine F.ok scGso67 (fun vs H Q E h => ?_) (fun cdv A outer s H vs Q E hr h => ?_)
  · obtain ⟨rfl, _⟩ := h
    rfl
  · obtain ⟨rfl, q⟩ := h
    have hk : Room k _ := hr.mono (by omega)
    have hk1 : Room (k + 1) _ := hr.mono (by omega)
    refine ⟨_, (pss_cons (ps_set (i := 0) scGso67.nd rfl (.inl rfl) (pe_tup (pa_cons pe_int (pa_cons (pe_op op_pow pe_int pe_int) pa_nil))))
      (pss_cons (ps_set (i := 1) scGso67.nd rfl (.inl rfl) (pe_call GX hk (by rfl) gX kX bX .nil pass0 (pa_cons (pv 0) (pa_cons (pv 0) pa_nil))))
      (pss_cons (ps_set (i := 2) scGso67.nd rfl (.inl rfl) (pe_make T.mkC (Rs.quiet GI) hk1 (by rfl) T.gC bI .nil pass0 (pa_cons (pe_lst (pa_cons (pe_tup (pa_cons pe_int (pa_cons pe_int pa_nil))) pa_nil)) (pa_cons (pe_lst (pa_cons (pe_lst (pa_cons (pv 1) (pa_cons (pv 0) pa_nil))) pa_nil)) (pa_cons (pe_lst (pa_cons (pe_lst (pa_cons (pv 0) (pa_cons (pv 1) pa_nil))) pa_nil)) pa_nil)))))
      (pss_one (ps_ret (pe_and (pe_cmpR (op_eqA NeC GCe hk1 bCe) (pe_call GRd hk (by rfl) gRd kRd bRd .nil pass0 (pa_cons (pe_call GSh hk (by rfl) gSh kSh bSh .nil pass0 (pa_cons (pv 2) pa_nil)) pa_nil)) (pv 2) (nomark _)) (pe_one (pe_cmpR (op_eqD hk.units) (pe_meth0 (pe_call GRd hk (by rfl) gRd kRd bRd .nil pass0 (pa_cons (pe_call GSh hk (by rfl) gSh kSh bSh .nil pass0 (pa_cons (pv 2) pa_nil)) pa_nil)) T.cl mCH GCH hk bCH .nil pass0) (pe_lst (pa_cons (pe_lst (pa_cons (pv 1) (pa_cons (pv 0) pa_nil))) pa_nil)) (nomark _))))))))), ?_⟩
    have cp : CPow 10 16 := ⟨by decide, by decide, by decide⟩
    refine ⟨10, 16, rfl, rfl, cp, (by show 2 ≤ sizeLine; decide), fun t1 n1 => ?_⟩
    have h1 : SqT K (upd H t1 (.tup [V.int 1, V.int ((10 : Int) ^ (16 : Int).toNat)])) t1 (rp sm16) := by rw [rp_sm]; exact SqT.of upd_same
    have s1 := same_new n1 (.tup [V.int 1, V.int ((10 : Int) ^ (16 : Int).toNat)])
    generalize upd H t1 (.tup [V.int 1, V.int ((10 : Int) ^ (16 : Int).toNat)]) = H1 at s1 h1 ⊢
    refine ⟨_, rfl, _, rfl, t1, t1, sm16, sm16, 107, 107, rfl, h1, h1, bd_sm.2.1, bd_sm.2.1, by decide, fun t2 n2 => ?_⟩
    have s2 := same_new n2 (.tup (rp (sm16 * sm16)))
    have h2 : SqT K (upd H1 t2 (.tup (rp (sm16 * sm16)))) t2 (rp gr16) := SqT.of upd_same
    generalize upd H1 t2 (.tup (rp (sm16 * sm16))) = H2 at s2 h2 ⊢
    have h1 := seqT s2 h1
    have s1 := s1.trans s2
    clear s2
    refine ⟨(by show 2 ≤ sizeLine; decide), fun t3 n3 => ⟨(by show 1 ≤ sizeLine; decide), fun S nS => ?_⟩⟩
    have s2 := same_new n3 (.tup [V.int 1, V.int 1])
    have h3 : SqT K (upd H2 t3 (.tup [V.int 1, V.int 1])) t3 (rp 1) := SqT.of upd_same
    generalize upd H2 t3 (.tup [V.int 1, V.int 1]) = H3 at s2 h3 nS ⊢
    have s3 := same_new nS (.lst [V.ref t3])
    have eS : (upd H3 S (.lst [V.ref t3])) S = some (.lst [V.ref t3]) := upd_same
    generalize upd H3 S (.lst [V.ref t3]) = H4 at s3 eS ⊢
    refine ⟨_, rfl, _, rfl, (by show 2 ≤ sizeLine; decide), fun r1 nr1 => ⟨(by show 1 ≤ sizeLine; decide), fun B0 nB => ?_⟩⟩
    have s4 := same_new nr1 (.lst [V.ref t2, V.ref t1])
    have e1 : (upd H4 r1 (.lst [V.ref t2, V.ref t1])) r1 = some (.lst [V.ref t2, V.ref t1]) := upd_same
    generalize upd H4 r1 (.lst [V.ref t2, V.ref t1]) = H5 at s4 e1 nB ⊢
    have s5 := same_new nB (.lst [V.ref r1])
    have eB : (upd H5 B0 (.lst [V.ref r1])) B0 = some (.lst [V.ref r1]) := upd_same
    generalize upd H5 B0 (.lst [V.ref r1]) = H6 at s5 eB ⊢
    refine ⟨_, rfl, _, rfl, (by show 2 ≤ sizeLine; decide), fun r2 nr2 => ⟨(by show 1 ≤ sizeLine; decide), fun C0 nC => ?_⟩⟩
    have s6 := same_new nr2 (.lst [V.ref t1, V.ref t2])
    have e2 : (upd H6 r2 (.lst [V.ref t1, V.ref t2])) r2 = some (.lst [V.ref t1, V.ref t2]) := upd_same
    generalize upd H6 r2 (.lst [V.ref t1, V.ref t2]) = H7 at s6 e2 nC ⊢
    have s7 := same_new nC (.lst [V.ref r2])
    have eC : (upd H7 C0 (.lst [V.ref r2])) C0 = some (.lst [V.ref r2]) := upd_same
    generalize upd H7 C0 (.lst [V.ref r2]) = H8 at s7 eC ⊢
    have s47 := ((s4.trans s5).trans s6).trans s7
    have s37 := s3.trans s47
    have s27 := s2.trans s37
    have k1 := seqT s27 h1
    have k2 := seqT s27 h2
    have k3 := seqT s37 h3
    have f1 : FrN K H8 107 [V.ref t3] [1] := FrN.nil.snoc k3 (Fr.Bd.mono Lw.bd_one (by decide))
    have f2 : FrN K H8 107 [V.ref t2, V.ref t1] [gr16, sm16] := (FrN.nil.snoc k2 bd_sm.2.2).snoc k1 bd_sm.2.1
    have f3 : FrN K H8 107 [V.ref t1, V.ref t2] [sm16, gr16] := (FrN.nil.snoc k1 bd_sm.2.1).snoc k2 bd_sm.2.2
    have wB : RwL K H8 B0 [r1] [[gr16, sm16]] 107 := ⟨(s6.trans s7) _ _ eB, rfl, fun j x e => match j, e with
      | 0, e => by cases e; exact ⟨_, _, rfl, ((s5.trans s6).trans s7) _ _ e1, f2⟩⟩
    have wC : RwL K H8 C0 [r2] [[sm16, gr16]] 107 := ⟨eC, rfl, fun j x e => match j, e with
      | 0, e => by cases e; exact ⟨_, _, rfl, s7 _ _ e2, f3⟩⟩
    have s8 := s1.trans s27
    have eS := s47 _ _ eS
    clear s1 s2 s3 s4 s5 s6 s7 s47 s37 s27 e1 e2 eB eC h1 h2 h3 f2 f3 k3
    refine mk_caseS (CN := CN) (n := 107) (by decide) eS f1 wB wC good_gso fun x H9 s9 nx hx => ?_
    have k1 := seqT s9 k1
    have k2 := seqT s9 k2
    have s8 := s8.trans s9
    obtain ⟨bq, bh, bt⟩ : (∀ q ∈ [(1 : Rat)], Bd 107 q) ∧ (∀ r ∈ [[gr16, sm16]], ∀ q ∈ r, Bd 107 q) ∧ ∀ r ∈ [[sm16, gr16]], ∀ q ∈ r, Bd 107 q := ⟨frn_bd f1, rw_bd0 wB, rw_bd0 wC⟩
    clear f1 wB wC s9 eS
    refine ⟨_, rfl, x, [1], [[gr16, sm16]], [[sm16, gr16]], 107, 1, 2, rfl, hx, good_gso, by decide, by decide, fun Ha s2 => ⟨[1], [[gr16, sm16]], [[sm16, gr16]], 107, 1, 2, rfl, good_gso, bq, bh, bt, by decide, by decide, len_gso.1, len_gso.2.1, len_gso.2.2, fun z Hb s3 nz hz => ?_⟩⟩
    have hx := (hx.same s2).same s3
    have k1 := seqT s3 (seqT s2 k1)
    have k2 := seqT s3 (seqT s2 k2)
    have s8 := (s8.trans s2).trans s3
    clear s2 s3
    obtain ⟨dx, _, _, _, _, _, _, ex, _⟩ := id hx
    obtain ⟨dz, _, _, _, _, _, _, ez, _⟩ := id hz
    refine ⟨_, rfl, z, dz, _, rfl, ez, .inr (.inr (.inr (.inr (.inr (.inr ⟨x, C, dx, _, fCe, rfl, ex, NeC⟩))))), z, .ref x, [1], [[gr16, sm16]], [[sm16, gr16]], 107, rfl, hz, .inr ⟨x, [1], [[gr16, sm16]], [[sm16, gr16]], 107, rfl, hx, _, rfl, _, rfl, ?_⟩⟩
    rw [decide_eq_true (show ([1] : List Rat) = [1] ∧ [[gr16, sm16]] = [[gr16, sm16]] ∧ [[sm16, gr16]] = [[sm16, gr16]] from ⟨rfl, rfl, rfl⟩)]
    refine iteT ?_
    refine ⟨_, rfl, x, [1], [[gr16, sm16]], [[sm16, gr16]], 107, 1, 2, rfl, hx, good_gso, by decide, by decide, fun Ha s2 => ⟨[1], [[gr16, sm16]], [[sm16, gr16]], 107, 1, 2, rfl, good_gso, bq, bh, bt, by decide, by decide, len_gso.1, len_gso.2.1, len_gso.2.2, fun y Hb s3 ny hy => ?_⟩⟩
    have k1 := seqT s3 (seqT s2 k1)
    have k2 := seqT s3 (seqT s2 k2)
    have s8 := (s8.trans s2).trans s3
    clear s2 s3
    obtain ⟨dy, _, _, _, _, _, _, ey, _⟩ := id hy
    refine ⟨y, dy, _, rfl, ey, rfl, y, [1], [[gr16, sm16]], [[sm16, gr16]], 107, rfl, hy, (by show 1 ≤ 100; decide), fun D1 rd Hc fr => ?_⟩
    have s9 := fr.2.2.2.2.2
    have k1 := seqT s9 k1
    have k2 := seqT s9 k2
    refine ⟨_, rfl, _, rfl, (by show 2 ≤ sizeLine; decide), fun p1 np1 => ⟨(by show 1 ≤ sizeLine; decide), fun p2 np2 => ?_⟩⟩
    have sA := same_new np1 (.lst [V.ref t2, V.ref t1])
    have eA : (upd Hc p1 (.lst [V.ref t2, V.ref t1])) p1 = some (.lst [V.ref t2, V.ref t1]) := upd_same
    generalize upd Hc p1 (.lst [V.ref t2, V.ref t1]) = Hd at sA eA np2 ⊢
    have sB := same_new np2 (.lst [V.ref p1])
    have eB : (upd Hd p2 (.lst [V.ref p1])) p2 = some (.lst [V.ref p1]) := upd_same
    generalize upd Hd p2 (.lst [V.ref p1]) = He at sB eB ⊢
    have sAB := sA.trans sB
    have fp : FrN K He 107 [V.ref t2, V.ref t1] [gr16, sm16] := (FrN.nil.snoc (seqT sAB k2) bd_sm.2.2).snoc (seqT sAB k1) bd_sm.2.1
    have wp : RwL K He p2 [p1] [[gr16, sm16]] 107 := ⟨eB, rfl, fun j x e => match j, e with
      | 0, e => by cases e; exact ⟨_, _, rfl, sB _ _ eA, fp⟩⟩
    refine ⟨dRows [[gr16, sm16]], dRows [[gr16, sm16]], (fr.1.same sAB).dp, wp.dp, dRows_shaped _, dRows_shaped _, ?_⟩
    rw [eqv_rows, decide_eq_true (show [[gr16, sm16]] = [[gr16, sm16]] from rfl)]
    exact q _ ((s8.trans s9).trans sAB)
end
end K67

set_option Elab.async false
set_option linter.all false
set_option maxRecDepth 100000
set_option maxHeartbeats 32000000
namespace K67
open PySem PySem.Spec PyProof.Rows L2 BX EXB Co Ru
open Dz Cs Hr Gs Nt
open Rs (Rsp Rv Ret tYes_of dV datR Flat Okr spShares spRowsL spTotal spCopied eqv_dR)
open Fr (Bd)
open TL (tl numL)
def strOf : Value → Option Str
  | .str s _ => some s
  | _ => none
/-- a tuple of texts that stands for good -/
def tupS (K : PySem.W.Frag) (a : Addr) : Option (List Str) := match K.lookup a with
  | some o => (match o.cls with
    | .type t => if t = "tuple" then (match o.data with | .seq its _ => its.toList.mapM strOf | _ => none) else none
    | _ => none)
  | none => none
theorem strs_vals : ∀ {us : List Value} {l : List Str}, us.mapM strOf = some l → Vals (l.map V.str) us
  | [], l, h => by
    rw [List.mapM_nil] at h
    cases h
    exact .nil
  | u :: us, l, h => by
    rw [List.mapM_cons] at h
    cases eu : strOf u with
    | none => rw [eu] at h; cases h
    | some s =>
      rw [eu] at h
      cases er : us.mapM strOf with
      | none => rw [er] at h; cases h
      | some r =>
        rw [er] at h
        cases h
        refine .cons ?_ (strs_vals er)
        cases u with
        | str x t => cases eu; exact ⟨t, rfl⟩
        | _ => cases eu
theorem tupS_seq {K : PySem.W.Frag} {a : Addr} {l : List Str} (h : tupS K a = some l) (hl : l.length ≤ 1000) (H : Hp) : SqT K H a (l.map V.str) := by
  unfold tupS at h
  split at h
  · rename_i o eo
    split at h
    · rename_i t et
      split at h
      · rename_i c
        split at h
        · rename_i its n ed
          have r := strs_vals h
          have len : its.size = l.length := by
            have := Paired.length r
            rw [List.length_map] at this
            simpa using this.symm
          exact .inr ⟨o, its, n, eo, by rw [et, c], ed, by rw [len]; exact Nat.le_of_lt (small1000 hl), r⟩
        · cases h
      · cases h
    · cases h
  · cases h
/-- what is kept of the texts seen -/
def KvOk (kvs : List (Key × V)) : Prop := ∀ (k : Key) (v : V), valV kvs k = some v → ∃ (qs : List Rat) (hss tss : List (List Rat)) (ww dd : Nat), GoodC qs hss tss ww dd ∧ k = .inr (wrC qs hss tss) ∧ v = .str (PyData.tuple (lP qs hss tss)).shown
theorem KvOk.put {kvs : List (Key × V)} {qs : List Rat} {hss tss : List (List Rat)} {ww dd : Nat} (h : KvOk kvs) (g : GoodC qs hss tss ww dd) : KvOk (putK kvs (.inr (wrC qs hss tss)) (.str (PyData.tuple (lP qs hss tss)).shown)) := fun k v e => by
  rw [valV_put] at e
  split at e
  · rename_i c
    cases e
    exact ⟨qs, hss, tss, ww, dd, g, c, rfl⟩
  · exact h k v e
theorem GoodC.q0 {qs : List Rat} {hss tss : List (List Rat)} {ww dd : Nat} (g : GoodC qs hss tss ww dd) : qs ≠ [] ∧ hss ≠ [] ∧ tss ≠ [] ∧ (∀ r ∈ hss, r ≠ []) ∧ ∀ r ∈ tss, r ≠ [] := by
  have w1 := g.w1
  have d1 := g.d1
  refine ⟨fun z => ?_, fun z => ?_, fun z => ?_, fun r hr z => ?_, fun r hr z => ?_⟩
  · have := g.sh.1; rw [z] at this; simp at this; omega
  · have := g.hl; rw [z] at this; simp at this; omega
  · have := g.tl; rw [z] at this; simp at this; omega
  · have := g.hr r hr; rw [z] at this; simp at this; omega
  · have := g.tr r hr; rw [z] at this; simp at this; omega
theorem KvOk.same {kvs : List (Key × V)} {qs : List Rat} {hss tss : List (List Rat)} {ww dd : Nat} {v : V} (h : KvOk kvs) (g : GoodC qs hss tss ww dd) (e : valV kvs (.inr (wrC qs hss tss)) = some v) : v = .str (PyData.tuple (lP qs hss tss)).shown := by
  obtain ⟨us, iss, kss, w2, d2, g2, ek, ev⟩ := h _ _ e
  obtain ⟨a1, a2, a3, a4, a5⟩ := GoodC.q0 g
  obtain ⟨c1, c2, c3, c4, c5⟩ := GoodC.q0 g2
  obtain ⟨rfl, rfl, rfl⟩ := wrC_inj a1 c1 a2 c2 a3 c3 a4 c4 a5 c5 (Sum.inr.inj ek)
  exact ev
def spLaw (K : PySem.W.Frag) : Sp := fun vs H Q _ => ∃ (a : Addr) (ns : List Int), vs = [.ref a] ∧ SqL K H a (ns.map V.int) ∧ ns.length ≤ 63 ∧ ∀ H', Q (.bl true) H'
theorem sqL_same {K : PySem.W.Frag} {H H' : Hp} {a : Addr} {xs : List V} (s : Same H H') (h : SqL K H a xs) : SqL K H' a xs := h.ext (fun b o e => s b o e)
section
variable {P : Program} {w : World} {K : PySem.W.Frag} {mg : Str → Option Value} {base : Heap}
theorem scLaw : FnScope ["_law_script", "_law_texts", "_law_cell", "_law_left_here", "_law_parts_here", "_law_line"] ["_law_script"] (defScope sLaw) := ⟨rfl, rfl, rfl, by decide +kernel, rfl, by decide +kernel, by decide +kernel⟩
theorem ok_law {f fLf fD fPa fRi fGs fSh : Addr} {fd fdLf fdD fdPa fdRi fdGs fdSh : FuncData} {k : Nat} {C fI : Addr} {CN : Addr} {fdI : FuncData} (F : Fun K "law" "law" sLaw f fd) (T : CaT K mg C fI) (GI : FnOk P w K mg base (L2.CX P w) k fI fdI ["self", "shares", "hearer", "teller"] (spCInitF K C CN)) (bI : Binds K fdI ["self", "shares", "hearer", "teller"] []) (GLf : FnOk P w K mg base CX0 k fLf fdLf ["_law_cell"] spLeft) (kLf : PySem.W.keepIn K (.ref fLf) = true) (bLf : Binds K fdLf ["_law_cell"] []) (gLf : mg "_law_left" = some (.ref fLf)) (GD : FnOk P w K mg base CX0 k fD fdD ["_law_left_here", "_law_many"] spDigit) (kD : PySem.W.keepIn K (.ref fD) = true) (bD : Binds K fdD ["_law_left_here", "_law_many"] []) (gD : mg "_law_digit" = some (.ref fD)) (GPa : FnOk P w K mg base CX0 k fPa fdPa ["_law_left_here", "_law_worlds", "_law_deeds"] (Hr.spParts K)) (kPa : PySem.W.keepIn K (.ref fPa) = true) (bPa : Binds K fdPa ["_law_left_here", "_law_worlds", "_law_deeds"] []) (gPa : mg "_law_parts" = some (.ref fPa)) (GRi : FnOk P w K mg base CX0 k fRi fdRi ["_law_parts_here"] (spRight67 K C)) (kRi : PySem.W.keepIn K (.ref fRi) = true) (bRi : Binds K fdRi ["_law_parts_here"] []) (gRi : mg "_law_right" = some (.ref fRi)) (GGs : FnOk P w K mg base CX0 k fGs fdGs [] spGso67) (kGs : PySem.W.keepIn K (.ref fGs) = true) (bGs : Binds K fdGs [] []) (gGs : mg "_law_great_so" = some (.ref fGs)) (GSh : FnOk P w K mg base CX0 k fSh fdSh ["case"] (spShown K C)) (kSh : PySem.W.keepIn K (.ref fSh) = true) (bSh : Binds K fdSh ["case"] []) (gSh : mg "shown" = some (.ref fSh)) (B : Blt mg) : FnOkG P w K mg base CX0 (k + 2) f fd ["_law_script"] (spLaw K) := by
  refine okG F scLaw (fun vs H Q E h => ?_) (fun cdv A outer s H vs Q E hr hgd h => ?_)
  · obtain ⟨a, ns, rfl, _⟩ := h
    rfl
  · obtain ⟨a, ns, rfl, hS, hlen, q⟩ := h
    have hk : Room k _ := hr.mono (by omega)
    have hk1 : Room (k + 1) _ := hr
    have hu : (A.deeper (envOfC "law" (defScope sLaw) s.heap.objs.size f cdv)).units + 80 < cLine := by have := hr.un; omega
    have hu1 : (A.deeper (envOfC "law" (defScope sLaw) s.heap.objs.size f cdv)).units + 1 < cLine := by omega
    refine ⟨_, (pss_cons (ps_if (pt_not (pt_val (pe_call0 GGs hk (by rfl) gGs kGs bGs .nil pass0))) (pss_one (ps_ret pe_bl)) pss_nil)
      (pss_cons (ps_set (i := 1) scLaw.nd rfl (.inl rfl) pe_dnewK)
      (pss_cons (ps_for PassesOwn.never rfl (pi_list (pe_slice sl_list (pe_op op_catS (pv 0) (pe_lst (pa_cons pe_int pa_nil))) po_none (po_some pe_int))) (pg_name (i := 2) scLaw.nd rfl (.inl rfl)) (pss_cons (ps_set (i := 3) scLaw.nd rfl (.inl rfl) (pe_call GLf hk (by rfl) gLf kLf bLf .nil pass0 (pa_cons (pv 2) pa_nil)))
      (pss_cons (ps_set (i := 4) scLaw.nd rfl (.inl rfl) (pe_call GPa hk (by rfl) gPa kPa bPa .nil pass0 (pa_cons (pv 3) (pa_cons (pe_op op_add pe_int (pe_call GD hk (by rfl) gD kD bD .nil pass0 (pa_cons (pv 3) (pa_cons pe_int pa_nil)))) (pa_cons (pe_op op_add pe_int (pe_call GD hk (by rfl) gD kD bD .nil pass0 (pa_cons (pv 3) (pa_cons pe_int pa_nil)))) pa_nil)))))
      (pss_cons (ps_if (pt_not (pt_val (pe_call GRi hk (by rfl) gRi kRi bRi .nil pass0 (pa_cons (pv 4) pa_nil)))) (pss_one (ps_ret pe_bl)) pss_nil)
      (pss_cons (ps_set (i := 5) scLaw.nd rfl (.inl rfl) (pe_call GSh hk (by rfl) gSh kSh bSh .nil pass0 (pa_cons (pe_make T.mkC (Rs.quiet GI) hk1 (by rfl) T.gC bI .nil pass0 (pa_cons (pe_ix ix_tup (pv 4) pe_int (fun _ _ => rfl)) (pa_cons (pe_ix ix_tup (pv 4) pe_int (fun _ _ => rfl)) (pa_cons (pe_ix ix_tup (pv 4) pe_int (fun _ _ => rfl)) pa_nil)))) pa_nil)))
      (pss_cons (ps_if (PW.pt (pw_and (pt_cmp (pc_din hu1 (pv 5) (pv 1))) (pw_and1 (pt_cmpR op_ne (pe_dget hu1 (pv 1) (pv 5) (fun _ _ => rfl)) (pe_callB (call_reprD hgd hu) (by rfl) B.repr_ (by decide +kernel) (pa_cons (pv 4) pa_nil)) (nomark _))))) (pss_one (ps_ret pe_bl)) pss_nil)
      (pss_one (ps_dput hu1 (pv 1) (pv 5) (pe_callB (call_reprD hgd hu) (by rfl) B.repr_ (by decide +kernel) (pa_cons (pv 4) pa_nil)) rfl))))))))
      (pss_one (ps_ret pe_bl))))), ?_⟩
    refine ⟨rfl, fun Hz sz => ⟨_, rfl, iteF ?_⟩⟩
    have hS := sqL_same sz hS
    clear sz
    refine fun M nM => ?_
    have eM : (upd Hz M (.dK [])) M = some (.dK []) := upd_same
    have hS := sqL_same (same_new nM (.dK [])) hS
    generalize upd Hz M (.dK []) = Hy at eM hS ⊢
    refine ⟨.ref a, rfl, (by show 1 ≤ sizeLine; decide), fun p9 n9 => ?_⟩
    have z9 := same_new n9 (.lst [V.int 4])
    have eM := z9 _ _ eM
    refine ⟨a, p9, _, _, rfl, rfl, z9.seq hS, SqL.of upd_same, ?_, fun p8 n8 => ?_⟩
    · rw [List.length_map, List.length_singleton]
      exact Nat.le_of_lt (small1000 (by omega))
    have eM := same_new n8 (.lst (ns.map V.int ++ [V.int 4])) _ _ eM
    refine ⟨10, rfl, p8, _, rfl, SqL.of upd_same, fun L nL => ?_⟩
    have eM := same_new nL (.lst (cutV (ns.map V.int ++ [V.int 4]) none (some 10))) _ _ eM
    refine ⟨L, rfl, ⟨_, SqL.of upd_same⟩, for_list (K := K) (a := L) (xs := cutV (ns.map V.int ++ [V.int 4]) none (some 10)) (fun i σ H' => ∃ (y2 y3 y4 y5 : Option V) (kvs : List (Key × V)), σ = [some (.ref a), some (.ref M), y2, y3, y4, y5] ∧ H' L = some (.lst (cutV (ns.map V.int ++ [V.int 4]) none (some 10))) ∧ H' M = some (.dK kvs) ∧ KvOk kvs ∧ kvs.length ≤ i)
      ⟨_, _, _, _, [], rfl, upd_same, eM, fun k v e => (by cases e), Nat.le_refl _⟩ (fun i σ H' _ ⟨_, _, _, _, _, _, e, _⟩ => SqL.of e) ?_ ?_⟩
    rotate_left
    · rintro σ H1 ⟨y2, y3, y4, y5, kvs, rfl, _⟩
      exact q _
    rintro i xx σ H1 hi ⟨y2, y3, y4, y5, kvs, rfl, hL, hM, ok, lk⟩
    have i10 : i ≤ 64 := by
      have := (List.getElem?_eq_some_iff.mp hi).1
      have l2 := cutV_length (ns.map V.int ++ [V.int 4]) none (some 10)
      rw [List.length_append, List.length_map, List.length_singleton] at l2
      omega
    obtain ⟨c, rfl⟩ := cut_int hi
    clear hi eM
    generalize cutV (ns.map V.int ++ [V.int 4]) none (some 10) = xs at hL ⊢
    have ML : L ≠ M := fun z => by rw [z, hM] at hL; cases hL
    refine ⟨_, rfl, c, rfl, fun l n nl => ?_⟩
    have hLl : L ≠ l := ne_of_none hL nl
    have hMl : M ≠ l := ne_of_none hM nl
    have hl1 : (upd H1 l (.lst [.int n])) l = some (.lst [.int n]) := upd_same
    have hL1 : (upd H1 l (.lst [.int n])) L = some (.lst xs) := by rw [upd_ne hLl]; exact hL
    have hM1 : (upd H1 l (.lst [.int n])) M = some (.dK kvs) := by rw [upd_ne hMl]; exact hM
    generalize upd H1 l (.lst [.int n]) = H2 at hl1 hL1 hM1 ⊢
    clear hL hM nl
    refine ⟨_, rfl, ?_⟩
    refine ⟨_, rfl, l, n, 5, rfl, hl1, by decide, by decide, fun d n' d0 d1 => ?_⟩
    have hl1' : (upd H2 l (.lst [.int n'])) l = some (.lst [.int n']) := upd_same
    have kbww := SameB.upd (ex := l) (H := H2) (o := .lst [.int n'])
    generalize upd H2 l (.lst [.int n']) = H2' at hl1' kbww ⊢
    obtain ⟨ww, eww⟩ : ∃ ww : Nat, 1 + d = (ww : Int) := ⟨(1 + d).toNat, by omega⟩
    refine ⟨1, d, rfl, rfl, ?_⟩
    rw [show ((fun i j => V.int (i + j)) 1 d : V) = V.int (ww : Int) from congrArg V.int eww]
    have hL2 := kbww _ _ hLl hL1
    have hM2 := kbww _ _ hMl hM1
    refine ⟨_, rfl, l, n', 6, rfl, hl1', by decide, by decide, fun e n'' e0 e1 => ?_⟩
    have hl1'' : (upd H2' l (.lst [.int n''])) l = some (.lst [.int n'']) := upd_same
    have kbmm := SameB.upd (ex := l) (H := H2') (o := .lst [.int n''])
    generalize upd H2' l (.lst [.int n'']) = H2'' at hl1'' kbmm ⊢
    obtain ⟨mm, emm⟩ : ∃ mm : Nat, 1 + e = (mm : Int) := ⟨(1 + e).toNat, by omega⟩
    refine ⟨1, e, rfl, rfl, ?_⟩
    rw [show ((fun i j => V.int (i + j)) 1 e : V) = V.int (mm : Int) from congrArg V.int emm]
    have hL3 := kbmm _ _ hLl hL2
    have hM3 := kbmm _ _ hMl hM2
    refine ⟨l, n'', ww, mm, rfl, hl1'', by omega, by omega, by omega, by omega, fun P0 qs hss tss z4 H5 sb5 hl5 hP g => ?_⟩
    have hL := sb5 _ _ hLl hL3
    have hM := sb5 _ _ hMl hM3
    clear sb5 hl5 hL3 hM3 hL2 hM2 hL1 hM1 hl1 hl1' hl1'' kbww kbmm
    refine ⟨_, rfl, P0, qs, hss, tss, ww, mm, rfl, hP, g, fun H6 s => ⟨_, rfl, iteF ?_⟩⟩
    have hP := hP.same s
    have hL := s _ _ hL
    have hM := s _ _ hM
    clear s
    obtain ⟨A0, B0, C0, cs, rh, rt, e0, e2, e3, e4, e5⟩ := id hP
    refine ⟨_, rfl, P0, _, 0, .ref A0, rfl, rfl, e0, rfl, _, rfl, P0, _, 1, .ref B0, rfl, rfl, e0, rfl, _, rfl, P0, _, 2, .ref C0, rfl, rfl, e0, rfl, ?_⟩
    refine mk_caseS (CN := CN) (n := 43) (by decide) e2 e3 e4 e5 g fun x H7 s nx hx => ?_
    refine ⟨x, qs, hss, tss, 43, ww, mm, rfl, hx, g, by decide, by decide, fun H8 s' => ?_⟩
    have hP := hP.same (s.trans s')
    have hL := (s.trans s') _ _ hL
    have hM := (s.trans s') _ _ hM
    have b1 := frn_bd e3
    have b2 := rw_bd0 e4
    have b3 := rw_bd0 e5
    clear s s' nx hx e0 e2 e3 e4 e5
    obtain ⟨A0, B0, C0, cs, rh, rt, e0, e2, e3, e4, e5⟩ := id hP
    have SM : Sm (.tuple (lP qs hss tss)) 4 8823 := sm_tup (k := 3) (b := 2938) (n := 3) (sm_lP g b1 b2 b3) (Nat.le_refl 3) (by decide)
    have dp : Dp K H8 (.ref P0) (.tuple (lP qs hss tss)) := .tup e0 (.cons (.lst (SqL.of e2) e3.dp) (.cons e4.dp (.cons e5.dp .nil)))
    have zz := szl
    have sz := SM.sz
    have put : ∃ (a' : Addr) (H4' : Hp), V.ref M = .ref a' ∧ DPut H8 a' (.str (wrC qs hss tss)) (.str (PyData.tuple (lP qs hss tss)).shown) H4' ∧ ∃ (y2 y3 y4 y5 : Option V) (kvs : List (Key × V)), [some (.ref a), some (.ref M), some (.int c), some (.ref l), some (.ref P0), some (.str (wrC qs hss tss))] = [some (.ref a), some (.ref M), y2, y3, y4, y5] ∧ H4' L = some (.lst xs) ∧ H4' M = some (.dK kvs) ∧ KvOk kvs ∧ kvs.length ≤ i + 1 :=
      ⟨M, _, rfl, DPut.k (k := Sum.inr (wrC qs hss tss)) hM (small1000 (by omega)), _, _, _, _, _, rfl, (upd_ne ML).trans hL, upd_same, ok.put g, Nat.le_trans (length_putK _ _ _) (by omega)⟩
    have sh64 := Nat.le_trans SM.dp (show 4 ≤ 64 by decide)
    have shz : (PyData.tuple (lP qs hss tss)).shown.length ≤ sizeLine := by omega
    refine ⟨_, rfl, _, rfl, M, _, rfl, DGet.k (k := Sum.inr (wrC qs hss tss)) hM, _, rfl, ?_⟩
    cases eo : valV kvs (Sum.inr (wrC qs hss tss)) with
    | none => exact iteF ⟨_, rfl, V.ref P0, .tuple (lP qs hss tss), rfl, .inl dp, SM.sh, sh64, shz, _, rfl, _, rfl, put⟩
    | some v =>
      have ev := ok.same g eo
      subst ev
      have dg : DGet H8 M (.str (wrC qs hss tss)) (some (.str (PyData.tuple (lP qs hss tss)).shown)) := eo ▸ DGet.k (k := Sum.inr (wrC qs hss tss)) hM
      refine iteT ⟨_, rfl, _, rfl, M, _, rfl, dg, _, rfl, V.ref P0, .tuple (lP qs hss tss), rfl, .inl dp, SM.sh, sh64, shz, rfl, _, rfl, ?_⟩
      rw [decide_eq_true (show V.str (PyData.tuple (lP qs hss tss)).shown = V.str (PyData.tuple (lP qs hss tss)).shown from rfl)]
      exact iteF ⟨_, rfl, V.ref P0, .tuple (lP qs hss tss), rfl, .inl dp, SM.sh, sh64, shz, _, rfl, _, rfl, put⟩
end
end K67

set_option Elab.async false
set_option linter.all false
set_option maxRecDepth 100000
set_option maxHeartbeats 4000000
/-! what the top leaves, by facts that the kernel's own run of it shows -/
namespace Hk
open PySem PySem.Spec PyProof.Rows L2 He
abbrev Fk : Type := PySem.W.Frag → Bool
abbrev Ao : Type := Bool × List FnV × List FnW
/-- facts in groups, defs, defs with defaults -/
def see (fa : List (List Fk)) (fn : List FnD) (fd : List DefD) (K : PySem.W.Frag) : Ao := (fa.all (fun l => l.all (fun f => f K)), fn.map (fun d => fnObs K d.at_), fd.map (fun d => fnW K d.at_))
def want (fn : List FnD) (fd : List DefD) : Ao := (true, fn.map FnD.val, fd.map DefD.val)
def Tells (fa : List (List Fk)) (fn : List FnD) (fd : List DefD) (K : PySem.W.Frag) : Prop := see fa fn fd K = want fn fd
def seeG (as : List Addr) (fa : List (List Fk)) (fn : List FnD) (fd : List DefD) (g : Addr → Option Obj) : Ao := see fa fn fd (frG g as)
def hook (as : List Addr) (fa : List (List Fk)) (fn : List FnD) (fd : List DefD) : PySem.W.Hook :=
  { α := Ao, obs := fun s => seeG as fa fn fd s.heap.get?, val := fun _ => want fn fd, says := fun _ h => ∃ K : PySem.W.Frag, K.In h ∧ Tells fa fn fd K,
    of := fun _ _ e => ⟨_, frG_in, e⟩, keeps := fun _ _ _ z k => let ⟨K, a, b⟩ := z; ⟨K, PySem.W.Frag.In.keeps a k, b⟩ }
theorem seeG_eq {as : List Addr} {fa : List (List Fk)} {fn : List FnD} {fd : List DefD} {g : Addr → Option Obj} {s : Shared} (h : ∀ a, g a = s.heap.get? a) : seeG as fa fn fd g = (hook as fa fn fd).obs s := by
  rw [show g = s.heap.get? from funext h] <;> rfl
section
variable {fa : List (List Fk)} {fn : List FnD} {fd : List DefD} {K : PySem.W.Frag}
theorem Tells.fact (c : Tells fa fn fd K) (i j : Nat) {l : List Fk} {f : Fk} (h : fa[i]? = some l) (g : l[j]? = some f) : f K = true := by
  have c1 : fa.all (fun l => l.all (fun f => f K)) = true := congrArg (fun z : Ao => z.1) c
  exact List.all_eq_true.mp (List.all_eq_true.mp c1 l (List.mem_of_getElem? h)) f (List.mem_of_getElem? g)
theorem Tells.fnAt (c : Tells fa fn fd K) (i : Nat) {d : FnD} (h : fn[i]? = some d) (k : (Fa.code d.at_ d.qual).ok K = true) :
    ∃ oc od osl kV doc pm an cdv ct, K.lookup (fAd K d.at_) = some ⟨oc, od, .func (PySem.W.fnOf d.name d.qual d.params d.body d.scope .none kV doc pm an cdv ct), osl⟩ ∧ PySem.W.codeIn K cdv d.qual = true := by
  have e : fn.map (fun d => fnObs K d.at_) = fn.map FnD.val := congrArg (fun z : Ao => z.2.1) c
  have e2 : (fn.map (fun d => fnObs K d.at_))[i]? = (fn.map FnD.val)[i]? := by rw [e]
  rw [List.getElem?_map, List.getElem?_map, h] at e2
  exact fn_ok (Option.some.inj e2) k
theorem Tells.fdAt (c : Tells fa fn fd K) (i : Nat) {d : DefD} (h : fd[i]? = some d) (k : d.ok K = true) : ∃ f, FunD K d.name d.qual d.params d.body d.scope (d.dvs K) (d.kws K) (fAd K d.at_) f := by
  have e : fd.map (fun d => fnW K d.at_) = fd.map DefD.val := congrArg (fun z : Ao => z.2.2) c
  have e2 : (fd.map (fun d => fnW K d.at_))[i]? = (fd.map DefD.val)[i]? := by rw [e]
  rw [List.getElem?_map, List.getElem?_map, h] at e2
  exact DefD.funD (Option.some.inj e2) k
end
/-- the namespace of the class at C -/
def nsA (K : PySem.W.Frag) (C : Addr) : Addr := match K.lookup C with
  | some ⟨_, _, .cls cd, _⟩ => cd.ns
  | _ => 0
/-- a class of this tail, this __new__ -/
def clsB (C : PySem.W.Frag → Addr) (tl : List Value) (hd : Bool) (nw : String) : Fk := fun K => match K.lookup (C K) with
  | some ⟨.type "type", _, .cls cd, sl⟩ => (match cd.mro, sl.toList with
    | .ref C' :: bm, [_, _, _, _, some (.builtin n), _] => decide (C' = C K) && (decide (n = nw) && (!cd.hasDel && (decide (bm = tl) && (!hd || cd.hasDict))))
    | _, _ => false)
  | _ => false
theorem clsB_ok {C : PySem.W.Frag → Addr} {tl : List Value} {hd : Bool} {nw : String} {K : PySem.W.Frag} (h : clsB C tl hd nw K = true) :
    ∃ nm q bs hdct sn sub ab col dd k0 k1 k2 k3 k5, K.lookup (C K) = some (excClassObj nm q (C K) (nsA K (C K)) bs tl hdct sn sub ab col dd k0 k1 k2 k3 k5 nw) ∧ (hd = true → hdct = true) := by
  unfold clsB at h
  split at h
  · rename_i dd cd sl ho
    split at h
    · rename_i C' bm k0 k1 k2 k3 n k5 hm hs
      simp only [Bool.and_eq_true, decide_eq_true_eq, Bool.not_eq_true', Bool.or_eq_true] at h
      obtain ⟨e1, e2, e3, e4, e5⟩ := h
      subst e1 e2 e4
      have eN : nsA K (C K) = cd.ns := by
        unfold nsA
        rw [ho]
      obtain ⟨nm, bs, mro, ns, qn, hdd, sn, sub, ab, col, del⟩ := cd
      dsimp only at hm e3 e5 eN
      subst hm e3
      have esl : sl = #[k0, k1, k2, k3, some (.builtin n), k5] := by
        obtain ⟨l⟩ := sl
        simp only at hs
        rw [hs]
      subst esl
      refine ⟨nm, qn, bs, hdd, sn, sub, ab, col, dd, k0, k1, k2, k3, k5, by rw [ho, eN], fun e => ?_⟩
      subst e
      rcases e5 with z | z
      · cases z
      · exact z
    · cases h
  · cases h
theorem clsT {C : PySem.W.Frag → Addr} {tl : List Value} {nw : String} {K : PySem.W.Frag} (h : clsB C tl true nw K = true) :
    ∃ nm q N bs sn sub ab col dd k0 k1 k2 k3 k5, K.lookup (C K) = some (excClassObj nm q (C K) N bs tl true sn sub ab col dd k0 k1 k2 k3 k5 nw) := by
  obtain ⟨nm, q, bs, hdct, sn, sub, ab, col, dd, k0, k1, k2, k3, k5, e, z⟩ := clsB_ok h
  cases z rfl
  exact ⟨nm, q, _, bs, sn, sub, ab, col, dd, k0, k1, k2, k3, k5, e⟩
/-- the object at an address is of the built-in type T -/
def tyB (f : PySem.W.Frag → Addr) (T : String) : Fk := fun K => match K.lookup (f K) with
  | some ⟨.type t, _, _, _⟩ => decide (t = T)
  | _ => false
theorem tyB_ok {f : PySem.W.Frag → Addr} {T : String} {K : PySem.W.Frag} {o : Obj} (h : tyB f T K = true) (e : K.lookup (f K) = some o) : o.cls = .type T := by
  unfold tyB at h
  rw [e] at h
  obtain ⟨oc, od, dt, osl⟩ := o
  cases oc with
  | type t =>
    have : t = T := of_decide_eq_true h
    rw [this]
  | _ => cases h
/-- a whole number by a name -/
def intB (x : Str) (i : Int) : Fk := fun K => match PySem.W.nsIn K mainGlobals x with
  | some (some (.int j _)) => decide (j = i)
  | _ => false
theorem intB_ok {x : Str} {i : Int} {K : PySem.W.Frag} (h : intB x i K = true) : ∃ t, PySem.W.nsIn K mainGlobals x = some (some (.int i t)) := by
  unfold intB at h
  cases e : PySem.W.nsIn K mainGlobals x with
  | none =>
    rw [e] at h
    cases h
  | some o =>
    rw [e] at h
    cases o with
    | none => cases h
    | some v =>
      cases v with
      | int j t =>
        have : j = i := of_decide_eq_true h
        exact ⟨t, by rw [this]⟩
      | _ => cases h
theorem both {α β γ : Type} {E : Option α} {f : α → β} {g : α → γ} {b : β} {c : γ} (h1 : E.map f = some b) (h2 : E.map g = some c) : E.map (fun s => (f s, g s)) = some (b, c) := by
  cases E with
  | none => cases h1
  | some x =>
    have e1 : f x = b := Option.some.inj h1
    have e2 : g x = c := Option.some.inj h2
    show some (f x, g x) = some (b, c)
    rw [e1, e2]
/-- so many facts of what a state holds -/
def facB {α : Type} (k : α → PySem.W.Frag) (fa : List (List Fk)) (s : α) : Bool := fa.all (fun l => l.all (fun f => f (k s)))
theorem facs {α : Type} {E : Option α} {k : α → PySem.W.Frag} {fa fb : List (List Fk)} (h1 : E.map (facB k fa) = some true) (h2 : E.map (facB k fb) = some true) : E.map (facB k (fa ++ fb)) = some true := by
  cases E with
  | none => cases h1
  | some x =>
    have e1 : facB k fa x = true := Option.some.inj h1
    have e2 : facB k fb x = true := Option.some.inj h2
    show some ((fa ++ fb).all fun l => l.all fun f => f (k x)) = some true
    rw [List.all_append]
    unfold facB at e1 e2
    rw [e1, e2]
    rfl
def defB {α : Type} (k : α → PySem.W.Frag) (fn : List FnD) (s : α) : List FnV := fn.map (fun d => fnObs (k s) d.at_)
theorem defs {α : Type} {E : Option α} {k : α → PySem.W.Frag} {fa fb : List FnD} (h1 : E.map (defB k fa) = some (fa.map FnD.val)) (h2 : E.map (defB k fb) = some (fb.map FnD.val)) : E.map (defB k (fa ++ fb)) = some ((fa ++ fb).map FnD.val) := by
  cases E with
  | none => cases h1
  | some x =>
    have e1 : defB k fa x = fa.map FnD.val := Option.some.inj h1
    have e2 : defB k fb x = fb.map FnD.val := Option.some.inj h2
    show some ((fa ++ fb).map fun d => fnObs (k x) d.at_) = some ((fa ++ fb).map FnD.val)
    unfold defB at e1 e2
    rw [List.map_append, List.map_append, e1, e2]
/-- as walk_ofE, of a promise that holds where nothing is being shown -/
theorem walk_ofEG {l : PySem.W.OpenLaw} {n k : Nat} {q : Program} {loose : List Str} {XP : (Str → Option Value) → Heap → Prop} {YP : World → Heap → Prop} {d : DefRec} {CX : CXT} {x : Str}
    (hn : l.most = some n) (hn2 : n ≤ sizeLine) (hdf : d.params.defaults = []) (hr : Room k callerA)
    (F : ∀ (w : World) (mg : Str → Option Value) (fa : Addr) (h : Heap), YP w h → h.Ns mainGlobals mg → mg d.name = some (.ref fa) →
      ∃ (K : PySem.W.Frag) (fd : FuncData) (sp : Sp), K.In h ∧ (∀ (s : Shared) (u : Value), BindsTo s fd ⟨[u], []⟩ [(x, u)]) ∧
        (∀ (H : Hp) (a : Addr) (ns : List Int), ns.length ≤ n → Only H → SqL K H a (ns.map V.int) → sp [.ref a] H (fun v _ => v = .bl true) fun _ _ _ => False) ∧
        ∀ base : Heap, K.In base → base.Ns mainGlobals mg → BX.FnOkG l.prog w K mg base CX k fa fd [x] sp)
    (hCX : ∀ (H : Hp) (s : Shared) (e : Value) (s' : Shared), CX [] H s (fun _ _ _ => False) e s' → False) :
    PySem.W.WalkO q loose XP YP l.row.toRowW d [] (fun f vs => PySem.call f vs) := by
  refine Att.attach_call hn hdf fun w s0 s1 mg mb fa o pm cd doc a vs ns G Y ho hd hcd hmg hobj hints hlen hg => ?_
  obtain ⟨K, fd, sp, KX, hb, hsp, hF⟩ := F w mg fa _ Y G.T.g hmg
  exact BX.law_callG KX G.T.g G.T.b G.T.builtins G.T.nolimit hg hobj hints (Nat.le_trans hlen hn2) hr hF hb (fun H hO hS => hsp H a ns hlen hO hS) fun H e s' => hCX H s1 e s'
end Hk

set_option Elab.async false
set_option linter.all false
set_option maxRecDepth 100000
set_option maxHeartbeats 8000000
namespace K67
open PySem PySem.Spec PyProof.Rows L2 BX EXB Co Ru
open Dz Cs Hr Gs Nt
theorem all_mk {l : PySem.W.OpenLaw} {w : World} {K : PySem.W.Frag} {h : Heap} {mg : Str → Option Value} {fa f_d_is_whole f_d_is_ratio f_d_plus f_d_lowest f_d_divisor f_d_is_list_of f_d_is_share f_d_is_ratio_row f_d_wrong_row f_d_copied_rows f_d_check_shares f_d_check_gains f_d_times f_d_law_left f_d_law_digit f_d_law_low f_d_law_parted f_d_law_gain f_d_law_gains f_d_law_parts f_d_shown_ratio f_d_ratio_of f_d_is_figures f_d_shown_row f_d_row_of f_d_shown f_d_read f_d_shown_rows f_d_rows_in f_d_law_ratio_text f_d_law_row_text f_d_law_rows_text f_d_law_text f_d_law_right f_d_law_great_so f_d_law f_d_total C_N f_i_N C_C f_m_C_init f_m_C_eq f_m_C_worlds f_m_C_deeds f_m_C_shares f_m_C_hearer f_m_C_teller f_d_HEADS : Addr} (X : K.In h) (G : h.Ns mainGlobals mg) (hfa : mg "law" = some (.ref fa)) {fd_d_total : FuncData} {nm_N q_N : Str} {N_N : Addr} {bs_N : List Value} {sn_N : List Str} {su_N : List Value} {ab_N : Bool} {co_N : Option Bool} {dd_N : Option Addr} {m0_N m1_N m2_N m3_N m5_N : Option Value} {nm_C q_C : Str} {nw_C : String} {N_C : Addr} {bs_C : List Value} {hc_C : Bool} {sn_C : List Str} {su_C : List Value} {ab_C : Bool} {co_C : Option Bool} {dd_C : Option Addr} {m0_C m1_C m2_C m3_C m5_C : Option Value} {tk5 : Tok} {tk6 : Tok}
    {od_d_is_whole an_d_is_whole : Option Addr} {sl_d_is_whole : Array (Option Value)} {oc_d_is_whole kV_d_is_whole dc_d_is_whole pm_d_is_whole cd_d_is_whole ct_d_is_whole : Value}
    {od_d_is_ratio an_d_is_ratio : Option Addr} {sl_d_is_ratio : Array (Option Value)} {oc_d_is_ratio kV_d_is_ratio dc_d_is_ratio pm_d_is_ratio cd_d_is_ratio ct_d_is_ratio : Value}
    {od_d_plus an_d_plus : Option Addr} {sl_d_plus : Array (Option Value)} {oc_d_plus kV_d_plus dc_d_plus pm_d_plus cd_d_plus ct_d_plus : Value}
    {od_d_lowest an_d_lowest : Option Addr} {sl_d_lowest : Array (Option Value)} {oc_d_lowest kV_d_lowest dc_d_lowest pm_d_lowest cd_d_lowest ct_d_lowest : Value}
    {od_d_divisor an_d_divisor : Option Addr} {sl_d_divisor : Array (Option Value)} {oc_d_divisor kV_d_divisor dc_d_divisor pm_d_divisor cd_d_divisor ct_d_divisor : Value}
    {od_d_is_list_of an_d_is_list_of : Option Addr} {sl_d_is_list_of : Array (Option Value)} {oc_d_is_list_of kV_d_is_list_of dc_d_is_list_of pm_d_is_list_of cd_d_is_list_of ct_d_is_list_of : Value}
    {od_d_is_share an_d_is_share : Option Addr} {sl_d_is_share : Array (Option Value)} {oc_d_is_share kV_d_is_share dc_d_is_share pm_d_is_share cd_d_is_share ct_d_is_share : Value}
    {od_d_is_ratio_row an_d_is_ratio_row : Option Addr} {sl_d_is_ratio_row : Array (Option Value)} {oc_d_is_ratio_row kV_d_is_ratio_row dc_d_is_ratio_row pm_d_is_ratio_row cd_d_is_ratio_row ct_d_is_ratio_row : Value}
    {od_d_wrong_row an_d_wrong_row : Option Addr} {sl_d_wrong_row : Array (Option Value)} {oc_d_wrong_row kV_d_wrong_row dc_d_wrong_row pm_d_wrong_row cd_d_wrong_row ct_d_wrong_row : Value}
    {od_d_copied_rows an_d_copied_rows : Option Addr} {sl_d_copied_rows : Array (Option Value)} {oc_d_copied_rows kV_d_copied_rows dc_d_copied_rows pm_d_copied_rows cd_d_copied_rows ct_d_copied_rows : Value}
    {od_d_check_shares an_d_check_shares : Option Addr} {sl_d_check_shares : Array (Option Value)} {oc_d_check_shares kV_d_check_shares dc_d_check_shares pm_d_check_shares cd_d_check_shares ct_d_check_shares : Value}
    {od_d_check_gains an_d_check_gains : Option Addr} {sl_d_check_gains : Array (Option Value)} {oc_d_check_gains kV_d_check_gains dc_d_check_gains pm_d_check_gains cd_d_check_gains ct_d_check_gains : Value}
    {od_d_times an_d_times : Option Addr} {sl_d_times : Array (Option Value)} {oc_d_times kV_d_times dc_d_times pm_d_times cd_d_times ct_d_times : Value}
    {od_d_law_left an_d_law_left : Option Addr} {sl_d_law_left : Array (Option Value)} {oc_d_law_left kV_d_law_left dc_d_law_left pm_d_law_left cd_d_law_left ct_d_law_left : Value}
    {od_d_law_digit an_d_law_digit : Option Addr} {sl_d_law_digit : Array (Option Value)} {oc_d_law_digit kV_d_law_digit dc_d_law_digit pm_d_law_digit cd_d_law_digit ct_d_law_digit : Value}
    {od_d_law_low an_d_law_low : Option Addr} {sl_d_law_low : Array (Option Value)} {oc_d_law_low kV_d_law_low dc_d_law_low pm_d_law_low cd_d_law_low ct_d_law_low : Value}
    {od_d_law_parted an_d_law_parted : Option Addr} {sl_d_law_parted : Array (Option Value)} {oc_d_law_parted kV_d_law_parted dc_d_law_parted pm_d_law_parted cd_d_law_parted ct_d_law_parted : Value}
    {od_d_law_gain an_d_law_gain : Option Addr} {sl_d_law_gain : Array (Option Value)} {oc_d_law_gain kV_d_law_gain dc_d_law_gain pm_d_law_gain cd_d_law_gain ct_d_law_gain : Value}
    {od_d_law_gains an_d_law_gains : Option Addr} {sl_d_law_gains : Array (Option Value)} {oc_d_law_gains kV_d_law_gains dc_d_law_gains pm_d_law_gains cd_d_law_gains ct_d_law_gains : Value}
    {od_d_law_parts an_d_law_parts : Option Addr} {sl_d_law_parts : Array (Option Value)} {oc_d_law_parts kV_d_law_parts dc_d_law_parts pm_d_law_parts cd_d_law_parts ct_d_law_parts : Value}
    {od_d_shown_ratio an_d_shown_ratio : Option Addr} {sl_d_shown_ratio : Array (Option Value)} {oc_d_shown_ratio kV_d_shown_ratio dc_d_shown_ratio pm_d_shown_ratio cd_d_shown_ratio ct_d_shown_ratio : Value}
    {od_d_ratio_of an_d_ratio_of : Option Addr} {sl_d_ratio_of : Array (Option Value)} {oc_d_ratio_of kV_d_ratio_of dc_d_ratio_of pm_d_ratio_of cd_d_ratio_of ct_d_ratio_of : Value}
    {od_d_is_figures an_d_is_figures : Option Addr} {sl_d_is_figures : Array (Option Value)} {oc_d_is_figures kV_d_is_figures dc_d_is_figures pm_d_is_figures cd_d_is_figures ct_d_is_figures : Value}
    {od_d_shown_row an_d_shown_row : Option Addr} {sl_d_shown_row : Array (Option Value)} {oc_d_shown_row kV_d_shown_row dc_d_shown_row pm_d_shown_row cd_d_shown_row ct_d_shown_row : Value}
    {od_d_row_of an_d_row_of : Option Addr} {sl_d_row_of : Array (Option Value)} {oc_d_row_of kV_d_row_of dc_d_row_of pm_d_row_of cd_d_row_of ct_d_row_of : Value}
    {od_d_shown an_d_shown : Option Addr} {sl_d_shown : Array (Option Value)} {oc_d_shown kV_d_shown dc_d_shown pm_d_shown cd_d_shown ct_d_shown : Value}
    {od_d_read an_d_read : Option Addr} {sl_d_read : Array (Option Value)} {oc_d_read kV_d_read dc_d_read pm_d_read cd_d_read ct_d_read : Value}
    {od_d_shown_rows an_d_shown_rows : Option Addr} {sl_d_shown_rows : Array (Option Value)} {oc_d_shown_rows kV_d_shown_rows dc_d_shown_rows pm_d_shown_rows cd_d_shown_rows ct_d_shown_rows : Value}
    {od_d_rows_in an_d_rows_in : Option Addr} {sl_d_rows_in : Array (Option Value)} {oc_d_rows_in kV_d_rows_in dc_d_rows_in pm_d_rows_in cd_d_rows_in ct_d_rows_in : Value}
    {od_d_law_ratio_text an_d_law_ratio_text : Option Addr} {sl_d_law_ratio_text : Array (Option Value)} {oc_d_law_ratio_text kV_d_law_ratio_text dc_d_law_ratio_text pm_d_law_ratio_text cd_d_law_ratio_text ct_d_law_ratio_text : Value}
    {od_d_law_row_text an_d_law_row_text : Option Addr} {sl_d_law_row_text : Array (Option Value)} {oc_d_law_row_text kV_d_law_row_text dc_d_law_row_text pm_d_law_row_text cd_d_law_row_text ct_d_law_row_text : Value}
    {od_d_law_rows_text an_d_law_rows_text : Option Addr} {sl_d_law_rows_text : Array (Option Value)} {oc_d_law_rows_text kV_d_law_rows_text dc_d_law_rows_text pm_d_law_rows_text cd_d_law_rows_text ct_d_law_rows_text : Value}
    {od_d_law_text an_d_law_text : Option Addr} {sl_d_law_text : Array (Option Value)} {oc_d_law_text kV_d_law_text dc_d_law_text pm_d_law_text cd_d_law_text ct_d_law_text : Value}
    {od_d_law_right an_d_law_right : Option Addr} {sl_d_law_right : Array (Option Value)} {oc_d_law_right kV_d_law_right dc_d_law_right pm_d_law_right cd_d_law_right ct_d_law_right : Value}
    {od_d_law_great_so an_d_law_great_so : Option Addr} {sl_d_law_great_so : Array (Option Value)} {oc_d_law_great_so kV_d_law_great_so dc_d_law_great_so pm_d_law_great_so cd_d_law_great_so ct_d_law_great_so : Value}
    {od_d_law an_d_law : Option Addr} {sl_d_law : Array (Option Value)} {oc_d_law kV_d_law dc_d_law pm_d_law cd_d_law ct_d_law : Value}
    {od_i_N an_i_N : Option Addr} {sl_i_N : Array (Option Value)} {oc_i_N kV_i_N dc_i_N pm_i_N cd_i_N ct_i_N : Value}
    {od_m_C_init an_m_C_init : Option Addr} {sl_m_C_init : Array (Option Value)} {oc_m_C_init kV_m_C_init dc_m_C_init pm_m_C_init cd_m_C_init ct_m_C_init : Value}
    {od_m_C_eq an_m_C_eq : Option Addr} {sl_m_C_eq : Array (Option Value)} {oc_m_C_eq kV_m_C_eq dc_m_C_eq pm_m_C_eq cd_m_C_eq ct_m_C_eq : Value}
    {od_m_C_worlds an_m_C_worlds : Option Addr} {sl_m_C_worlds : Array (Option Value)} {oc_m_C_worlds kV_m_C_worlds dc_m_C_worlds pm_m_C_worlds cd_m_C_worlds ct_m_C_worlds : Value}
    {od_m_C_deeds an_m_C_deeds : Option Addr} {sl_m_C_deeds : Array (Option Value)} {oc_m_C_deeds kV_m_C_deeds dc_m_C_deeds pm_m_C_deeds cd_m_C_deeds ct_m_C_deeds : Value}
    {od_m_C_shares an_m_C_shares : Option Addr} {sl_m_C_shares : Array (Option Value)} {oc_m_C_shares kV_m_C_shares dc_m_C_shares pm_m_C_shares cd_m_C_shares ct_m_C_shares : Value}
    {od_m_C_hearer an_m_C_hearer : Option Addr} {sl_m_C_hearer : Array (Option Value)} {oc_m_C_hearer kV_m_C_hearer dc_m_C_hearer pm_m_C_hearer cd_m_C_hearer ct_m_C_hearer : Value}
    {od_m_C_teller an_m_C_teller : Option Addr} {sl_m_C_teller : Array (Option Value)} {oc_m_C_teller kV_m_C_teller dc_m_C_teller pm_m_C_teller cd_m_C_teller ct_m_C_teller : Value}
    (a_d_is_whole : PySem.W.nsIn K mainGlobals "is_whole" = some (some (.ref f_d_is_whole)))
    (l_d_is_whole : K.lookup f_d_is_whole = some ⟨oc_d_is_whole, od_d_is_whole, .func (PySem.W.fnOf "is_whole" "is_whole" (defArgs sWhole) (defBody sWhole) (defScope sWhole) .none kV_d_is_whole dc_d_is_whole pm_d_is_whole an_d_is_whole cd_d_is_whole ct_d_is_whole), sl_d_is_whole⟩)
    (c_d_is_whole : PySem.W.codeIn K cd_d_is_whole "is_whole" = true)
    (k_d_is_whole : PySem.W.keepIn K (.ref f_d_is_whole) = true)
    (a_d_is_ratio : PySem.W.nsIn K mainGlobals "is_ratio" = some (some (.ref f_d_is_ratio)))
    (l_d_is_ratio : K.lookup f_d_is_ratio = some ⟨oc_d_is_ratio, od_d_is_ratio, .func (PySem.W.fnOf "is_ratio" "is_ratio" (defArgs sIsR) (defBody sIsR) (defScope sIsR) .none kV_d_is_ratio dc_d_is_ratio pm_d_is_ratio an_d_is_ratio cd_d_is_ratio ct_d_is_ratio), sl_d_is_ratio⟩)
    (c_d_is_ratio : PySem.W.codeIn K cd_d_is_ratio "is_ratio" = true)
    (k_d_is_ratio : PySem.W.keepIn K (.ref f_d_is_ratio) = true)
    (a_d_plus : PySem.W.nsIn K mainGlobals "plus" = some (some (.ref f_d_plus)))
    (l_d_plus : K.lookup f_d_plus = some ⟨oc_d_plus, od_d_plus, .func (PySem.W.fnOf "plus" "plus" (defArgs sPlus) (defBody sPlus) (defScope sPlus) .none kV_d_plus dc_d_plus pm_d_plus an_d_plus cd_d_plus ct_d_plus), sl_d_plus⟩)
    (c_d_plus : PySem.W.codeIn K cd_d_plus "plus" = true)
    (k_d_plus : PySem.W.keepIn K (.ref f_d_plus) = true)
    (a_d_lowest : PySem.W.nsIn K mainGlobals "lowest" = some (some (.ref f_d_lowest)))
    (l_d_lowest : K.lookup f_d_lowest = some ⟨oc_d_lowest, od_d_lowest, .func (PySem.W.fnOf "lowest" "lowest" (defArgs sLowest) (defBody sLowest) (defScope sLowest) .none kV_d_lowest dc_d_lowest pm_d_lowest an_d_lowest cd_d_lowest ct_d_lowest), sl_d_lowest⟩)
    (c_d_lowest : PySem.W.codeIn K cd_d_lowest "lowest" = true)
    (k_d_lowest : PySem.W.keepIn K (.ref f_d_lowest) = true)
    (a_d_divisor : PySem.W.nsIn K mainGlobals "divisor" = some (some (.ref f_d_divisor)))
    (l_d_divisor : K.lookup f_d_divisor = some ⟨oc_d_divisor, od_d_divisor, .func (PySem.W.fnOf "divisor" "divisor" (defArgs sDiv) (defBody sDiv) (defScope sDiv) .none kV_d_divisor dc_d_divisor pm_d_divisor an_d_divisor cd_d_divisor ct_d_divisor), sl_d_divisor⟩)
    (c_d_divisor : PySem.W.codeIn K cd_d_divisor "divisor" = true)
    (k_d_divisor : PySem.W.keepIn K (.ref f_d_divisor) = true)
    (a_d_is_list_of : PySem.W.nsIn K mainGlobals "is_list_of" = some (some (.ref f_d_is_list_of)))
    (l_d_is_list_of : K.lookup f_d_is_list_of = some ⟨oc_d_is_list_of, od_d_is_list_of, .func (PySem.W.fnOf "is_list_of" "is_list_of" (defArgs sListOf) (defBody sListOf) (defScope sListOf) .none kV_d_is_list_of dc_d_is_list_of pm_d_is_list_of an_d_is_list_of cd_d_is_list_of ct_d_is_list_of), sl_d_is_list_of⟩)
    (c_d_is_list_of : PySem.W.codeIn K cd_d_is_list_of "is_list_of" = true)
    (k_d_is_list_of : PySem.W.keepIn K (.ref f_d_is_list_of) = true)
    (a_d_is_share : PySem.W.nsIn K mainGlobals "is_share" = some (some (.ref f_d_is_share)))
    (l_d_is_share : K.lookup f_d_is_share = some ⟨oc_d_is_share, od_d_is_share, .func (PySem.W.fnOf "is_share" "is_share" (defArgs sShare) (defBody sShare) (defScope sShare) .none kV_d_is_share dc_d_is_share pm_d_is_share an_d_is_share cd_d_is_share ct_d_is_share), sl_d_is_share⟩)
    (c_d_is_share : PySem.W.codeIn K cd_d_is_share "is_share" = true)
    (k_d_is_share : PySem.W.keepIn K (.ref f_d_is_share) = true)
    (a_d_is_ratio_row : PySem.W.nsIn K mainGlobals "is_ratio_row" = some (some (.ref f_d_is_ratio_row)))
    (l_d_is_ratio_row : K.lookup f_d_is_ratio_row = some ⟨oc_d_is_ratio_row, od_d_is_ratio_row, .func (PySem.W.fnOf "is_ratio_row" "is_ratio_row" (defArgs sRRow) (defBody sRRow) (defScope sRRow) .none kV_d_is_ratio_row dc_d_is_ratio_row pm_d_is_ratio_row an_d_is_ratio_row cd_d_is_ratio_row ct_d_is_ratio_row), sl_d_is_ratio_row⟩)
    (c_d_is_ratio_row : PySem.W.codeIn K cd_d_is_ratio_row "is_ratio_row" = true)
    (k_d_is_ratio_row : PySem.W.keepIn K (.ref f_d_is_ratio_row) = true)
    (a_d_wrong_row : PySem.W.nsIn K mainGlobals "wrong_row" = some (some (.ref f_d_wrong_row)))
    (l_d_wrong_row : K.lookup f_d_wrong_row = some ⟨oc_d_wrong_row, od_d_wrong_row, .func (PySem.W.fnOf "wrong_row" "wrong_row" (defArgs sWrong) (defBody sWrong) (defScope sWrong) .none kV_d_wrong_row dc_d_wrong_row pm_d_wrong_row an_d_wrong_row cd_d_wrong_row ct_d_wrong_row), sl_d_wrong_row⟩)
    (c_d_wrong_row : PySem.W.codeIn K cd_d_wrong_row "wrong_row" = true)
    (k_d_wrong_row : PySem.W.keepIn K (.ref f_d_wrong_row) = true)
    (a_d_copied_rows : PySem.W.nsIn K mainGlobals "copied_rows" = some (some (.ref f_d_copied_rows)))
    (l_d_copied_rows : K.lookup f_d_copied_rows = some ⟨oc_d_copied_rows, od_d_copied_rows, .func (PySem.W.fnOf "copied_rows" "copied_rows" (defArgs sCopied) (defBody sCopied) (defScope sCopied) .none kV_d_copied_rows dc_d_copied_rows pm_d_copied_rows an_d_copied_rows cd_d_copied_rows ct_d_copied_rows), sl_d_copied_rows⟩)
    (c_d_copied_rows : PySem.W.codeIn K cd_d_copied_rows "copied_rows" = true)
    (k_d_copied_rows : PySem.W.keepIn K (.ref f_d_copied_rows) = true)
    (a_d_check_shares : PySem.W.nsIn K mainGlobals "check_shares" = some (some (.ref f_d_check_shares)))
    (l_d_check_shares : K.lookup f_d_check_shares = some ⟨oc_d_check_shares, od_d_check_shares, .func (PySem.W.fnOf "check_shares" "check_shares" (defArgs sChkS) (defBody sChkS) (defScope sChkS) .none kV_d_check_shares dc_d_check_shares pm_d_check_shares an_d_check_shares cd_d_check_shares ct_d_check_shares), sl_d_check_shares⟩)
    (c_d_check_shares : PySem.W.codeIn K cd_d_check_shares "check_shares" = true)
    (k_d_check_shares : PySem.W.keepIn K (.ref f_d_check_shares) = true)
    (a_d_check_gains : PySem.W.nsIn K mainGlobals "check_gains" = some (some (.ref f_d_check_gains)))
    (l_d_check_gains : K.lookup f_d_check_gains = some ⟨oc_d_check_gains, od_d_check_gains, .func (PySem.W.fnOf "check_gains" "check_gains" (defArgs sChkG) (defBody sChkG) (defScope sChkG) .none kV_d_check_gains dc_d_check_gains pm_d_check_gains an_d_check_gains cd_d_check_gains ct_d_check_gains), sl_d_check_gains⟩)
    (c_d_check_gains : PySem.W.codeIn K cd_d_check_gains "check_gains" = true)
    (k_d_check_gains : PySem.W.keepIn K (.ref f_d_check_gains) = true)
    (a_d_times : PySem.W.nsIn K mainGlobals "times" = some (some (.ref f_d_times)))
    (l_d_times : K.lookup f_d_times = some ⟨oc_d_times, od_d_times, .func (PySem.W.fnOf "times" "times" (defArgs sTimes) (defBody sTimes) (defScope sTimes) .none kV_d_times dc_d_times pm_d_times an_d_times cd_d_times ct_d_times), sl_d_times⟩)
    (c_d_times : PySem.W.codeIn K cd_d_times "times" = true)
    (k_d_times : PySem.W.keepIn K (.ref f_d_times) = true)
    (a_d_law_left : PySem.W.nsIn K mainGlobals "_law_left" = some (some (.ref f_d_law_left)))
    (l_d_law_left : K.lookup f_d_law_left = some ⟨oc_d_law_left, od_d_law_left, .func (PySem.W.fnOf "_law_left" "_law_left" (defArgs sLeft) (defBody sLeft) (defScope sLeft) .none kV_d_law_left dc_d_law_left pm_d_law_left an_d_law_left cd_d_law_left ct_d_law_left), sl_d_law_left⟩)
    (c_d_law_left : PySem.W.codeIn K cd_d_law_left "_law_left" = true)
    (k_d_law_left : PySem.W.keepIn K (.ref f_d_law_left) = true)
    (a_d_law_digit : PySem.W.nsIn K mainGlobals "_law_digit" = some (some (.ref f_d_law_digit)))
    (l_d_law_digit : K.lookup f_d_law_digit = some ⟨oc_d_law_digit, od_d_law_digit, .func (PySem.W.fnOf "_law_digit" "_law_digit" (defArgs sDigit) (defBody sDigit) (defScope sDigit) .none kV_d_law_digit dc_d_law_digit pm_d_law_digit an_d_law_digit cd_d_law_digit ct_d_law_digit), sl_d_law_digit⟩)
    (c_d_law_digit : PySem.W.codeIn K cd_d_law_digit "_law_digit" = true)
    (k_d_law_digit : PySem.W.keepIn K (.ref f_d_law_digit) = true)
    (a_d_law_low : PySem.W.nsIn K mainGlobals "_law_low" = some (some (.ref f_d_law_low)))
    (l_d_law_low : K.lookup f_d_law_low = some ⟨oc_d_law_low, od_d_law_low, .func (PySem.W.fnOf "_law_low" "_law_low" (defArgs sLow) (defBody sLow) (defScope sLow) .none kV_d_law_low dc_d_law_low pm_d_law_low an_d_law_low cd_d_law_low ct_d_law_low), sl_d_law_low⟩)
    (c_d_law_low : PySem.W.codeIn K cd_d_law_low "_law_low" = true)
    (k_d_law_low : PySem.W.keepIn K (.ref f_d_law_low) = true)
    (a_d_law_parted : PySem.W.nsIn K mainGlobals "_law_parted" = some (some (.ref f_d_law_parted)))
    (l_d_law_parted : K.lookup f_d_law_parted = some ⟨oc_d_law_parted, od_d_law_parted, .func (PySem.W.fnOf "_law_parted" "_law_parted" (defArgs sParted) (defBody sParted) (defScope sParted) .none kV_d_law_parted dc_d_law_parted pm_d_law_parted an_d_law_parted cd_d_law_parted ct_d_law_parted), sl_d_law_parted⟩)
    (c_d_law_parted : PySem.W.codeIn K cd_d_law_parted "_law_parted" = true)
    (k_d_law_parted : PySem.W.keepIn K (.ref f_d_law_parted) = true)
    (a_d_law_gain : PySem.W.nsIn K mainGlobals "_law_gain" = some (some (.ref f_d_law_gain)))
    (l_d_law_gain : K.lookup f_d_law_gain = some ⟨oc_d_law_gain, od_d_law_gain, .func (PySem.W.fnOf "_law_gain" "_law_gain" (defArgs sGain) (defBody sGain) (defScope sGain) .none kV_d_law_gain dc_d_law_gain pm_d_law_gain an_d_law_gain cd_d_law_gain ct_d_law_gain), sl_d_law_gain⟩)
    (c_d_law_gain : PySem.W.codeIn K cd_d_law_gain "_law_gain" = true)
    (k_d_law_gain : PySem.W.keepIn K (.ref f_d_law_gain) = true)
    (a_d_law_gains : PySem.W.nsIn K mainGlobals "_law_gains" = some (some (.ref f_d_law_gains)))
    (l_d_law_gains : K.lookup f_d_law_gains = some ⟨oc_d_law_gains, od_d_law_gains, .func (PySem.W.fnOf "_law_gains" "_law_gains" (defArgs sGains) (defBody sGains) (defScope sGains) .none kV_d_law_gains dc_d_law_gains pm_d_law_gains an_d_law_gains cd_d_law_gains ct_d_law_gains), sl_d_law_gains⟩)
    (c_d_law_gains : PySem.W.codeIn K cd_d_law_gains "_law_gains" = true)
    (k_d_law_gains : PySem.W.keepIn K (.ref f_d_law_gains) = true)
    (a_d_law_parts : PySem.W.nsIn K mainGlobals "_law_parts" = some (some (.ref f_d_law_parts)))
    (l_d_law_parts : K.lookup f_d_law_parts = some ⟨oc_d_law_parts, od_d_law_parts, .func (PySem.W.fnOf "_law_parts" "_law_parts" (defArgs sParts) (defBody sParts) (defScope sParts) .none kV_d_law_parts dc_d_law_parts pm_d_law_parts an_d_law_parts cd_d_law_parts ct_d_law_parts), sl_d_law_parts⟩)
    (c_d_law_parts : PySem.W.codeIn K cd_d_law_parts "_law_parts" = true)
    (k_d_law_parts : PySem.W.keepIn K (.ref f_d_law_parts) = true)
    (a_d_shown_ratio : PySem.W.nsIn K mainGlobals "shown_ratio" = some (some (.ref f_d_shown_ratio)))
    (l_d_shown_ratio : K.lookup f_d_shown_ratio = some ⟨oc_d_shown_ratio, od_d_shown_ratio, .func (PySem.W.fnOf "shown_ratio" "shown_ratio" (defArgs sShR) (defBody sShR) (defScope sShR) .none kV_d_shown_ratio dc_d_shown_ratio pm_d_shown_ratio an_d_shown_ratio cd_d_shown_ratio ct_d_shown_ratio), sl_d_shown_ratio⟩)
    (c_d_shown_ratio : PySem.W.codeIn K cd_d_shown_ratio "shown_ratio" = true)
    (k_d_shown_ratio : PySem.W.keepIn K (.ref f_d_shown_ratio) = true)
    (a_d_ratio_of : PySem.W.nsIn K mainGlobals "ratio_of" = some (some (.ref f_d_ratio_of)))
    (l_d_ratio_of : K.lookup f_d_ratio_of = some ⟨oc_d_ratio_of, od_d_ratio_of, .func (PySem.W.fnOf "ratio_of" "ratio_of" (defArgs sRatOf) (defBody sRatOf) (defScope sRatOf) .none kV_d_ratio_of dc_d_ratio_of pm_d_ratio_of an_d_ratio_of cd_d_ratio_of ct_d_ratio_of), sl_d_ratio_of⟩)
    (c_d_ratio_of : PySem.W.codeIn K cd_d_ratio_of "ratio_of" = true)
    (k_d_ratio_of : PySem.W.keepIn K (.ref f_d_ratio_of) = true)
    (a_d_is_figures : PySem.W.nsIn K mainGlobals "is_figures" = some (some (.ref f_d_is_figures)))
    (l_d_is_figures : K.lookup f_d_is_figures = some ⟨oc_d_is_figures, od_d_is_figures, .func (PySem.W.fnOf "is_figures" "is_figures" (defArgs sFig) (defBody sFig) (defScope sFig) .none kV_d_is_figures dc_d_is_figures pm_d_is_figures an_d_is_figures cd_d_is_figures ct_d_is_figures), sl_d_is_figures⟩)
    (c_d_is_figures : PySem.W.codeIn K cd_d_is_figures "is_figures" = true)
    (k_d_is_figures : PySem.W.keepIn K (.ref f_d_is_figures) = true)
    (a_d_shown_row : PySem.W.nsIn K mainGlobals "shown_row" = some (some (.ref f_d_shown_row)))
    (l_d_shown_row : K.lookup f_d_shown_row = some ⟨oc_d_shown_row, od_d_shown_row, .func (PySem.W.fnOf "shown_row" "shown_row" (defArgs sShRw) (defBody sShRw) (defScope sShRw) .none kV_d_shown_row dc_d_shown_row pm_d_shown_row an_d_shown_row cd_d_shown_row ct_d_shown_row), sl_d_shown_row⟩)
    (c_d_shown_row : PySem.W.codeIn K cd_d_shown_row "shown_row" = true)
    (k_d_shown_row : PySem.W.keepIn K (.ref f_d_shown_row) = true)
    (a_d_row_of : PySem.W.nsIn K mainGlobals "row_of" = some (some (.ref f_d_row_of)))
    (l_d_row_of : K.lookup f_d_row_of = some ⟨oc_d_row_of, od_d_row_of, .func (PySem.W.fnOf "row_of" "row_of" (defArgs sRowOf) (defBody sRowOf) (defScope sRowOf) .none kV_d_row_of dc_d_row_of pm_d_row_of an_d_row_of cd_d_row_of ct_d_row_of), sl_d_row_of⟩)
    (c_d_row_of : PySem.W.codeIn K cd_d_row_of "row_of" = true)
    (k_d_row_of : PySem.W.keepIn K (.ref f_d_row_of) = true)
    (a_d_shown : PySem.W.nsIn K mainGlobals "shown" = some (some (.ref f_d_shown)))
    (l_d_shown : K.lookup f_d_shown = some ⟨oc_d_shown, od_d_shown, .func (PySem.W.fnOf "shown" "shown" (defArgs sShown) (defBody sShown) (defScope sShown) .none kV_d_shown dc_d_shown pm_d_shown an_d_shown cd_d_shown ct_d_shown), sl_d_shown⟩)
    (c_d_shown : PySem.W.codeIn K cd_d_shown "shown" = true)
    (k_d_shown : PySem.W.keepIn K (.ref f_d_shown) = true)
    (a_d_read : PySem.W.nsIn K mainGlobals "read" = some (some (.ref f_d_read)))
    (l_d_read : K.lookup f_d_read = some ⟨oc_d_read, od_d_read, .func (PySem.W.fnOf "read" "read" (defArgs sRead67) (defBody sRead67) (defScope sRead67) .none kV_d_read dc_d_read pm_d_read an_d_read cd_d_read ct_d_read), sl_d_read⟩)
    (c_d_read : PySem.W.codeIn K cd_d_read "read" = true)
    (k_d_read : PySem.W.keepIn K (.ref f_d_read) = true)
    (a_d_shown_rows : PySem.W.nsIn K mainGlobals "shown_rows" = some (some (.ref f_d_shown_rows)))
    (l_d_shown_rows : K.lookup f_d_shown_rows = some ⟨oc_d_shown_rows, od_d_shown_rows, .func (PySem.W.fnOf "shown_rows" "shown_rows" (defArgs sShRws) (defBody sShRws) (defScope sShRws) .none kV_d_shown_rows dc_d_shown_rows pm_d_shown_rows an_d_shown_rows cd_d_shown_rows ct_d_shown_rows), sl_d_shown_rows⟩)
    (c_d_shown_rows : PySem.W.codeIn K cd_d_shown_rows "shown_rows" = true)
    (k_d_shown_rows : PySem.W.keepIn K (.ref f_d_shown_rows) = true)
    (a_d_rows_in : PySem.W.nsIn K mainGlobals "rows_in" = some (some (.ref f_d_rows_in)))
    (l_d_rows_in : K.lookup f_d_rows_in = some ⟨oc_d_rows_in, od_d_rows_in, .func (PySem.W.fnOf "rows_in" "rows_in" (defArgs sRowsIn) (defBody sRowsIn) (defScope sRowsIn) .none kV_d_rows_in dc_d_rows_in pm_d_rows_in an_d_rows_in cd_d_rows_in ct_d_rows_in), sl_d_rows_in⟩)
    (c_d_rows_in : PySem.W.codeIn K cd_d_rows_in "rows_in" = true)
    (k_d_rows_in : PySem.W.keepIn K (.ref f_d_rows_in) = true)
    (a_d_law_ratio_text : PySem.W.nsIn K mainGlobals "_law_ratio_text" = some (some (.ref f_d_law_ratio_text)))
    (l_d_law_ratio_text : K.lookup f_d_law_ratio_text = some ⟨oc_d_law_ratio_text, od_d_law_ratio_text, .func (PySem.W.fnOf "_law_ratio_text" "_law_ratio_text" (defArgs sLRatT) (defBody sLRatT) (defScope sLRatT) .none kV_d_law_ratio_text dc_d_law_ratio_text pm_d_law_ratio_text an_d_law_ratio_text cd_d_law_ratio_text ct_d_law_ratio_text), sl_d_law_ratio_text⟩)
    (c_d_law_ratio_text : PySem.W.codeIn K cd_d_law_ratio_text "_law_ratio_text" = true)
    (k_d_law_ratio_text : PySem.W.keepIn K (.ref f_d_law_ratio_text) = true)
    (a_d_law_row_text : PySem.W.nsIn K mainGlobals "_law_row_text" = some (some (.ref f_d_law_row_text)))
    (l_d_law_row_text : K.lookup f_d_law_row_text = some ⟨oc_d_law_row_text, od_d_law_row_text, .func (PySem.W.fnOf "_law_row_text" "_law_row_text" (defArgs sLRowT) (defBody sLRowT) (defScope sLRowT) .none kV_d_law_row_text dc_d_law_row_text pm_d_law_row_text an_d_law_row_text cd_d_law_row_text ct_d_law_row_text), sl_d_law_row_text⟩)
    (c_d_law_row_text : PySem.W.codeIn K cd_d_law_row_text "_law_row_text" = true)
    (k_d_law_row_text : PySem.W.keepIn K (.ref f_d_law_row_text) = true)
    (a_d_law_rows_text : PySem.W.nsIn K mainGlobals "_law_rows_text" = some (some (.ref f_d_law_rows_text)))
    (l_d_law_rows_text : K.lookup f_d_law_rows_text = some ⟨oc_d_law_rows_text, od_d_law_rows_text, .func (PySem.W.fnOf "_law_rows_text" "_law_rows_text" (defArgs sLRowsT) (defBody sLRowsT) (defScope sLRowsT) .none kV_d_law_rows_text dc_d_law_rows_text pm_d_law_rows_text an_d_law_rows_text cd_d_law_rows_text ct_d_law_rows_text), sl_d_law_rows_text⟩)
    (c_d_law_rows_text : PySem.W.codeIn K cd_d_law_rows_text "_law_rows_text" = true)
    (k_d_law_rows_text : PySem.W.keepIn K (.ref f_d_law_rows_text) = true)
    (a_d_law_text : PySem.W.nsIn K mainGlobals "_law_text" = some (some (.ref f_d_law_text)))
    (l_d_law_text : K.lookup f_d_law_text = some ⟨oc_d_law_text, od_d_law_text, .func (PySem.W.fnOf "_law_text" "_law_text" (defArgs sLText) (defBody sLText) (defScope sLText) .none kV_d_law_text dc_d_law_text pm_d_law_text an_d_law_text cd_d_law_text ct_d_law_text), sl_d_law_text⟩)
    (c_d_law_text : PySem.W.codeIn K cd_d_law_text "_law_text" = true)
    (k_d_law_text : PySem.W.keepIn K (.ref f_d_law_text) = true)
    (a_d_law_right : PySem.W.nsIn K mainGlobals "_law_right" = some (some (.ref f_d_law_right)))
    (l_d_law_right : K.lookup f_d_law_right = some ⟨oc_d_law_right, od_d_law_right, .func (PySem.W.fnOf "_law_right" "_law_right" (defArgs sRight67) (defBody sRight67) (defScope sRight67) .none kV_d_law_right dc_d_law_right pm_d_law_right an_d_law_right cd_d_law_right ct_d_law_right), sl_d_law_right⟩)
    (c_d_law_right : PySem.W.codeIn K cd_d_law_right "_law_right" = true)
    (k_d_law_right : PySem.W.keepIn K (.ref f_d_law_right) = true)
    (a_d_law_great_so : PySem.W.nsIn K mainGlobals "_law_great_so" = some (some (.ref f_d_law_great_so)))
    (l_d_law_great_so : K.lookup f_d_law_great_so = some ⟨oc_d_law_great_so, od_d_law_great_so, .func (PySem.W.fnOf "_law_great_so" "_law_great_so" (defArgs sGso67) (defBody sGso67) (defScope sGso67) .none kV_d_law_great_so dc_d_law_great_so pm_d_law_great_so an_d_law_great_so cd_d_law_great_so ct_d_law_great_so), sl_d_law_great_so⟩)
    (c_d_law_great_so : PySem.W.codeIn K cd_d_law_great_so "_law_great_so" = true)
    (k_d_law_great_so : PySem.W.keepIn K (.ref f_d_law_great_so) = true)
    (a_d_law : PySem.W.nsIn K mainGlobals "law" = some (some (.ref f_d_law)))
    (l_d_law : K.lookup f_d_law = some ⟨oc_d_law, od_d_law, .func (PySem.W.fnOf "law" "law" (defArgs sLaw) (defBody sLaw) (defScope sLaw) .none kV_d_law dc_d_law pm_d_law an_d_law cd_d_law ct_d_law), sl_d_law⟩)
    (c_d_law : PySem.W.codeIn K cd_d_law "law" = true)
    (k_d_law : PySem.W.keepIn K (.ref f_d_law) = true)
    (a_d_total : PySem.W.nsIn K mainGlobals "total" = some (some (.ref f_d_total)))
    (FD_d_total : FunD K "total" "total" (defArgs sTotal) (defBody sTotal) (defScope sTotal) [V.non] [] f_d_total fd_d_total)
    (aC_N : PySem.W.nsIn K mainGlobals "NoCase" = some (some (.ref C_N)))
    (xC_N : K.lookup C_N = some (excClassObj nm_N q_N C_N N_N bs_N [.type "ValueError", .type "Exception", .type "BaseException", .type "object"] true sn_N su_N ab_N co_N dd_N m0_N m1_N m2_N m3_N m5_N "ValueError.__new__"))
    (sa_N : PySem.W.findIn K (.ref C_N) "__setattr__" = some (some (.builtin "object.__setattr__")))
    (ga_N : PySem.W.findIn K (.ref C_N) "__getattribute__" = some (some (.builtin "BaseException.__getattribute__")))
    (gg_N : PySem.W.findIn K (.ref C_N) "__getattr__" = some none)
    (cl_N : PySem.W.findIn K (.ref C_N) "__class__" = some (some (.builtin "object.__class__")))
    (mo_N : PySem.W.mroIn K C_N (.type "object") = some true)
    (kC_N : PySem.W.keepIn K (.ref C_N) = true)
    (eC_N : PySem.W.subIn K (.ref C_N) (.type "BaseException") = some true)
    (tC_N : PySem.W.typeIn K (.ref C_N) = some (.type "type"))
    (hd_N : PySem.W.hasDictIn K C_N = true)
    (vV_N : PySem.W.findCls K (.type "ValueError") (.type "type") "__init__" = some (.val (.builtin "ValueError.__init__")))
    (sp_ : PySem.W.specialIn K (.builtin "object.__class__") "__get__" = some (some (.builtin "getset_descriptor.__get__")))
    (tk_ : PySem.W.takesIn K (.builtin "object.__class__") = some true)
    (i_i_N : PySem.W.findIn K (.ref C_N) "__init__" = some (some (.ref f_i_N)))
    (ty_i_N : PySem.W.typeIn K (.ref f_i_N) = some (.type "function"))
    (l_i_N : K.lookup f_i_N = some ⟨oc_i_N, od_i_N, .func (PySem.W.fnOf "__init__" "NoCase.__init__" (defArgs sNcInit) (defBody sNcInit) (defScope sNcInit) .none kV_i_N dc_i_N pm_i_N an_i_N cd_i_N ct_i_N), sl_i_N⟩)
    (c_i_N : PySem.W.codeIn K cd_i_N "NoCase.__init__" = true)
    (k_i_N : PySem.W.keepIn K (.ref f_i_N) = true)
    (no_N_part : PySem.W.findIn K (.ref C_N) "part" = some none)
    (no_N_number : PySem.W.findIn K (.ref C_N) "number" = some none)
    (sb_N_N : PySem.W.subIn K (.ref C_N) (.ref C_N) = some true)
    (kt_N_ValueError : PySem.W.kitOne K (.ref C_N) (.type "ValueError") = some true)
    (aC_C : PySem.W.nsIn K mainGlobals "Case" = some (some (.ref C_C)))
    (pg_C : PySem.W.plainGet K C_C Str.empty = true)
    (hd_C : PySem.W.hasDictIn K C_C = true)
    (po_C : PySem.W.plainOver K C_C = true)
    (sa_C : PySem.W.findIn K (.ref C_C) "__setattr__" = some (some (.builtin "object.__setattr__")))
    (mk_C : PySem.W.makesIn K C_C = true)
    (kC_C : PySem.W.keepIn K (.ref C_C) = true)
    (xC_C : K.lookup C_C = some (excClassObj nm_C q_C C_C N_C bs_C [.type "object"] hc_C sn_C su_C ab_C co_C dd_C m0_C m1_C m2_C m3_C m5_C nw_C))
    (ne_C : PySem.W.nsIn K N_C "__ne__" = some none)
    (ha_C : PySem.W.findIn K (.ref C_C) "__class__" = some (some (.builtin "object.__class__")))
    (hm_C : PySem.W.mroIn K C_C (.type "object") = some true)
    (kt_C : PySem.W.kitOne K (.ref C_C) (.ref C_C) = some true)
    (no_C : PySem.W.nsOkIn K N_C = true)
    (i_m_C_init : PySem.W.findIn K (.ref C_C) "__init__" = some (some (.ref f_m_C_init)))
    (fn_m_C_init : PySem.W.isFn K (.ref f_m_C_init) = true)
    (l_m_C_init : K.lookup f_m_C_init = some ⟨oc_m_C_init, od_m_C_init, .func (PySem.W.fnOf "__init__" "Case.__init__" (defArgs sCInit) (defBody sCInit) (defScope sCInit) .none kV_m_C_init dc_m_C_init pm_m_C_init an_m_C_init cd_m_C_init ct_m_C_init), sl_m_C_init⟩)
    (c_m_C_init : PySem.W.codeIn K cd_m_C_init "Case.__init__" = true)
    (k_m_C_init : PySem.W.keepIn K (.ref f_m_C_init) = true)
    (no_own_shares : PySem.W.findIn K (.ref C_C) "own_shares" = some none)
    (no_own_hearer : PySem.W.findIn K (.ref C_C) "own_hearer" = some none)
    (no_own_teller : PySem.W.findIn K (.ref C_C) "own_teller" = some none)
    (g5_ : PySem.W.nsIn K mainGlobals "MOST_WORLDS" = some (some (.int 5 tk5)))
    (g6_ : PySem.W.nsIn K mainGlobals "MOST_DEEDS" = some (some (.int 6 tk6)))
    (i_m_C_eq : PySem.W.findIn K (.ref C_C) "__eq__" = some (some (.ref f_m_C_eq)))
    (fn_m_C_eq : PySem.W.isFn K (.ref f_m_C_eq) = true)
    (l_m_C_eq : K.lookup f_m_C_eq = some ⟨oc_m_C_eq, od_m_C_eq, .func (PySem.W.fnOf "__eq__" "Case.__eq__" (defArgs sCEq) (defBody sCEq) (defScope sCEq) .none kV_m_C_eq dc_m_C_eq pm_m_C_eq an_m_C_eq cd_m_C_eq ct_m_C_eq), sl_m_C_eq⟩)
    (c_m_C_eq : PySem.W.codeIn K cd_m_C_eq "Case.__eq__" = true)
    (k_m_C_eq : PySem.W.keepIn K (.ref f_m_C_eq) = true)
    (nq_m_C_eq : PySem.W.nsIn K N_C "__eq__" = some (some (.ref f_m_C_eq)))
    (oq_m_C_eq : oc_m_C_eq = .type "function")
    (i_m_C_worlds : PySem.W.findIn K (.ref C_C) "worlds" = some (some (.ref f_m_C_worlds)))
    (fn_m_C_worlds : PySem.W.isFn K (.ref f_m_C_worlds) = true)
    (l_m_C_worlds : K.lookup f_m_C_worlds = some ⟨oc_m_C_worlds, od_m_C_worlds, .func (PySem.W.fnOf "worlds" "Case.worlds" (defArgs sCWorlds) (defBody sCWorlds) (defScope sCWorlds) .none kV_m_C_worlds dc_m_C_worlds pm_m_C_worlds an_m_C_worlds cd_m_C_worlds ct_m_C_worlds), sl_m_C_worlds⟩)
    (c_m_C_worlds : PySem.W.codeIn K cd_m_C_worlds "Case.worlds" = true)
    (k_m_C_worlds : PySem.W.keepIn K (.ref f_m_C_worlds) = true)
    (i_m_C_deeds : PySem.W.findIn K (.ref C_C) "deeds" = some (some (.ref f_m_C_deeds)))
    (fn_m_C_deeds : PySem.W.isFn K (.ref f_m_C_deeds) = true)
    (l_m_C_deeds : K.lookup f_m_C_deeds = some ⟨oc_m_C_deeds, od_m_C_deeds, .func (PySem.W.fnOf "deeds" "Case.deeds" (defArgs sCDeeds) (defBody sCDeeds) (defScope sCDeeds) .none kV_m_C_deeds dc_m_C_deeds pm_m_C_deeds an_m_C_deeds cd_m_C_deeds ct_m_C_deeds), sl_m_C_deeds⟩)
    (c_m_C_deeds : PySem.W.codeIn K cd_m_C_deeds "Case.deeds" = true)
    (k_m_C_deeds : PySem.W.keepIn K (.ref f_m_C_deeds) = true)
    (i_m_C_shares : PySem.W.findIn K (.ref C_C) "shares" = some (some (.ref f_m_C_shares)))
    (fn_m_C_shares : PySem.W.isFn K (.ref f_m_C_shares) = true)
    (l_m_C_shares : K.lookup f_m_C_shares = some ⟨oc_m_C_shares, od_m_C_shares, .func (PySem.W.fnOf "shares" "Case.shares" (defArgs sCShares) (defBody sCShares) (defScope sCShares) .none kV_m_C_shares dc_m_C_shares pm_m_C_shares an_m_C_shares cd_m_C_shares ct_m_C_shares), sl_m_C_shares⟩)
    (c_m_C_shares : PySem.W.codeIn K cd_m_C_shares "Case.shares" = true)
    (k_m_C_shares : PySem.W.keepIn K (.ref f_m_C_shares) = true)
    (i_m_C_hearer : PySem.W.findIn K (.ref C_C) "hearer" = some (some (.ref f_m_C_hearer)))
    (fn_m_C_hearer : PySem.W.isFn K (.ref f_m_C_hearer) = true)
    (l_m_C_hearer : K.lookup f_m_C_hearer = some ⟨oc_m_C_hearer, od_m_C_hearer, .func (PySem.W.fnOf "hearer" "Case.hearer" (defArgs sCHearer) (defBody sCHearer) (defScope sCHearer) .none kV_m_C_hearer dc_m_C_hearer pm_m_C_hearer an_m_C_hearer cd_m_C_hearer ct_m_C_hearer), sl_m_C_hearer⟩)
    (c_m_C_hearer : PySem.W.codeIn K cd_m_C_hearer "Case.hearer" = true)
    (k_m_C_hearer : PySem.W.keepIn K (.ref f_m_C_hearer) = true)
    (i_m_C_teller : PySem.W.findIn K (.ref C_C) "teller" = some (some (.ref f_m_C_teller)))
    (fn_m_C_teller : PySem.W.isFn K (.ref f_m_C_teller) = true)
    (l_m_C_teller : K.lookup f_m_C_teller = some ⟨oc_m_C_teller, od_m_C_teller, .func (PySem.W.fnOf "teller" "Case.teller" (defArgs sCTeller) (defBody sCTeller) (defScope sCTeller) .none kV_m_C_teller dc_m_C_teller pm_m_C_teller an_m_C_teller cd_m_C_teller ct_m_C_teller), sl_m_C_teller⟩)
    (c_m_C_teller : PySem.W.codeIn K cd_m_C_teller "Case.teller" = true)
    (k_m_C_teller : PySem.W.keepIn K (.ref f_m_C_teller) = true)
    (a_HEADS : PySem.W.nsIn K mainGlobals "HEADS" = some (some (.ref f_d_HEADS)))
    (tu_HEADS : tupS K f_d_HEADS = some [hS, hH, hT])
    (z_abs : PySem.W.nsIn K mainGlobals "abs" = some none)
    (z_isinstance : PySem.W.nsIn K mainGlobals "isinstance" = some none)
    (z_int : PySem.W.nsIn K mainGlobals "int" = some none)
    (z_bool : PySem.W.nsIn K mainGlobals "bool" = some none)
    (z_tuple : PySem.W.nsIn K mainGlobals "tuple" = some none)
    (z_list : PySem.W.nsIn K mainGlobals "list" = some none)
    (z_len : PySem.W.nsIn K mainGlobals "len" = some none)
    (z_range : PySem.W.nsIn K mainGlobals "range" = some none)
    (z_str : PySem.W.nsIn K mainGlobals "str" = some none)
    (z_repr : PySem.W.nsIn K mainGlobals "repr" = some none)
    (z_sum : PySem.W.nsIn K mainGlobals "sum" = some none)
    (z_all : PySem.W.nsIn K mainGlobals "all" = some none)
    (z_any : PySem.W.nsIn K mainGlobals "any" = some none)
    (z_enumerate : PySem.W.nsIn K mainGlobals "enumerate" = some none)
    (z_zip : PySem.W.nsIn K mainGlobals "zip" = some none)
    (z_min : PySem.W.nsIn K mainGlobals "min" = some none)
    (z_max : PySem.W.nsIn K mainGlobals "max" = some none)
    (z_sorted : PySem.W.nsIn K mainGlobals "sorted" = some none)
    (z_ValueError : PySem.W.nsIn K mainGlobals "ValueError" = some none)
    (z_ZeroDivisionError : PySem.W.nsIn K mainGlobals "ZeroDivisionError" = some none)
    (z_OverflowError : PySem.W.nsIn K mainGlobals "OverflowError" = some none)
    (z_IndexError : PySem.W.nsIn K mainGlobals "IndexError" = some none)
    (z_LookupError : PySem.W.nsIn K mainGlobals "LookupError" = some none)
    (z_ArithmeticError : PySem.W.nsIn K mainGlobals "ArithmeticError" = some none)
    (z_KeyError : PySem.W.nsIn K mainGlobals "KeyError" = some none)
    (z_RuntimeError : PySem.W.nsIn K mainGlobals "RuntimeError" = some none) :
    ∃ fd : FuncData, (∀ (s : Shared) (v : Value), BindsTo s fd ⟨[v], []⟩ [("_law_script", v)]) ∧ ∀ base : Heap, K.In base → base.Ns mainGlobals mg → FnOkG l.prog w K mg base CX0 15 fa fd ["_law_script"] (spLaw K) := by
  have e := hfa.symm.trans (PySem.W.mg_of X G a_d_law)
  cases e
  have B : Blt mg := ⟨PySem.W.mg_none_of X G z_abs, PySem.W.mg_none_of X G z_isinstance, PySem.W.mg_none_of X G z_int, PySem.W.mg_none_of X G z_bool, PySem.W.mg_none_of X G z_tuple, PySem.W.mg_none_of X G z_list, PySem.W.mg_none_of X G z_len, PySem.W.mg_none_of X G z_range, PySem.W.mg_none_of X G z_str, PySem.W.mg_none_of X G z_repr, PySem.W.mg_none_of X G z_sum, PySem.W.mg_none_of X G z_all, PySem.W.mg_none_of X G z_any, PySem.W.mg_none_of X G z_enumerate, PySem.W.mg_none_of X G z_zip, PySem.W.mg_none_of X G z_min, PySem.W.mg_none_of X G z_max, PySem.W.mg_none_of X G z_sorted, PySem.W.mg_none_of X G z_ValueError, PySem.W.mg_none_of X G z_ZeroDivisionError, PySem.W.mg_none_of X G z_OverflowError, PySem.W.mg_none_of X G z_IndexError, PySem.W.mg_none_of X G z_LookupError, PySem.W.mg_none_of X G z_ArithmeticError, PySem.W.mg_none_of X G z_KeyError, PySem.W.mg_none_of X G z_RuntimeError⟩
  have F_d_is_whole := fun_mk (st := sWhole) l_d_is_whole c_d_is_whole k_d_is_whole
  have b_d_is_whole := F_d_is_whole.binds (ps := ["thing"]) fun _ _ _ _ _ _ us hl => match us, hl with | [_], _ => rfl
  have g_d_is_whole := PySem.W.mg_of X G a_d_is_whole
  have F_d_is_ratio := fun_mk (st := sIsR) l_d_is_ratio c_d_is_ratio k_d_is_ratio
  have b_d_is_ratio := F_d_is_ratio.binds (ps := ["thing"]) fun _ _ _ _ _ _ us hl => match us, hl with | [_], _ => rfl
  have g_d_is_ratio := PySem.W.mg_of X G a_d_is_ratio
  have F_d_plus := fun_mk (st := sPlus) l_d_plus c_d_plus k_d_plus
  have b_d_plus := F_d_plus.binds (ps := ["one", "other"]) fun _ _ _ _ _ _ us hl => match us, hl with | [_, _], _ => rfl
  have g_d_plus := PySem.W.mg_of X G a_d_plus
  have F_d_lowest := fun_mk (st := sLowest) l_d_lowest c_d_lowest k_d_lowest
  have b_d_lowest := F_d_lowest.binds (ps := ["top", "bottom"]) fun _ _ _ _ _ _ us hl => match us, hl with | [_, _], _ => rfl
  have g_d_lowest := PySem.W.mg_of X G a_d_lowest
  have F_d_divisor := fun_mk (st := sDiv) l_d_divisor c_d_divisor k_d_divisor
  have b_d_divisor := F_d_divisor.binds (ps := ["one", "other"]) fun _ _ _ _ _ _ us hl => match us, hl with | [_, _], _ => rfl
  have g_d_divisor := PySem.W.mg_of X G a_d_divisor
  have F_d_is_list_of := fun_mk (st := sListOf) l_d_is_list_of c_d_is_list_of k_d_is_list_of
  have b_d_is_list_of := F_d_is_list_of.binds (ps := ["thing", "least", "most"]) fun _ _ _ _ _ _ us hl => match us, hl with | [_, _, _], _ => rfl
  have g_d_is_list_of := PySem.W.mg_of X G a_d_is_list_of
  have F_d_is_share := fun_mk (st := sShare) l_d_is_share c_d_is_share k_d_is_share
  have b_d_is_share := F_d_is_share.binds (ps := ["thing"]) fun _ _ _ _ _ _ us hl => match us, hl with | [_], _ => rfl
  have g_d_is_share := PySem.W.mg_of X G a_d_is_share
  have F_d_is_ratio_row := fun_mk (st := sRRow) l_d_is_ratio_row c_d_is_ratio_row k_d_is_ratio_row
  have b_d_is_ratio_row := F_d_is_ratio_row.binds (ps := ["thing", "least", "most"]) fun _ _ _ _ _ _ us hl => match us, hl with | [_, _, _], _ => rfl
  have g_d_is_ratio_row := PySem.W.mg_of X G a_d_is_ratio_row
  have F_d_wrong_row := fun_mk (st := sWrong) l_d_wrong_row c_d_wrong_row k_d_wrong_row
  have b_d_wrong_row := F_d_wrong_row.binds (ps := ["rows", "is_row", "least", "most"]) fun _ _ _ _ _ _ us hl => match us, hl with | [_, _, _, _], _ => rfl
  have g_d_wrong_row := PySem.W.mg_of X G a_d_wrong_row
  have F_d_copied_rows := fun_mk (st := sCopied) l_d_copied_rows c_d_copied_rows k_d_copied_rows
  have b_d_copied_rows := F_d_copied_rows.binds (ps := ["rows"]) fun _ _ _ _ _ _ us hl => match us, hl with | [_], _ => rfl
  have g_d_copied_rows := PySem.W.mg_of X G a_d_copied_rows
  have F_d_check_shares := fun_mk (st := sChkS) l_d_check_shares c_d_check_shares k_d_check_shares
  have b_d_check_shares := F_d_check_shares.binds (ps := ["shares"]) fun _ _ _ _ _ _ us hl => match us, hl with | [_], _ => rfl
  have g_d_check_shares := PySem.W.mg_of X G a_d_check_shares
  have F_d_check_gains := fun_mk (st := sChkG) l_d_check_gains c_d_check_gains k_d_check_gains
  have b_d_check_gains := F_d_check_gains.binds (ps := ["part", "rows", "worlds", "least", "most"]) fun _ _ _ _ _ _ us hl => match us, hl with | [_, _, _, _, _], _ => rfl
  have g_d_check_gains := PySem.W.mg_of X G a_d_check_gains
  have F_d_times := fun_mk (st := sTimes) l_d_times c_d_times k_d_times
  have b_d_times := F_d_times.binds (ps := ["one", "other"]) fun _ _ _ _ _ _ us hl => match us, hl with | [_, _], _ => rfl
  have g_d_times := PySem.W.mg_of X G a_d_times
  have F_d_law_left := fun_mk (st := sLeft) l_d_law_left c_d_law_left k_d_law_left
  have b_d_law_left := F_d_law_left.binds (ps := ["_law_cell"]) fun _ _ _ _ _ _ us hl => match us, hl with | [_], _ => rfl
  have g_d_law_left := PySem.W.mg_of X G a_d_law_left
  have F_d_law_digit := fun_mk (st := sDigit) l_d_law_digit c_d_law_digit k_d_law_digit
  have b_d_law_digit := F_d_law_digit.binds (ps := ["_law_left_here", "_law_many"]) fun _ _ _ _ _ _ us hl => match us, hl with | [_, _], _ => rfl
  have g_d_law_digit := PySem.W.mg_of X G a_d_law_digit
  have F_d_law_low := fun_mk (st := sLow) l_d_law_low c_d_law_low k_d_law_low
  have b_d_law_low := F_d_law_low.binds (ps := ["_law_top", "_law_bottom"]) fun _ _ _ _ _ _ us hl => match us, hl with | [_, _], _ => rfl
  have g_d_law_low := PySem.W.mg_of X G a_d_law_low
  have F_d_law_parted := fun_mk (st := sParted) l_d_law_parted c_d_law_parted k_d_law_parted
  have b_d_law_parted := F_d_law_parted.binds (ps := ["_law_left_here", "_law_many", "_law_top"]) fun _ _ _ _ _ _ us hl => match us, hl with | [_, _, _], _ => rfl
  have g_d_law_parted := PySem.W.mg_of X G a_d_law_parted
  have F_d_law_gain := fun_mk (st := sGain) l_d_law_gain c_d_law_gain k_d_law_gain
  have b_d_law_gain := F_d_law_gain.binds (ps := ["_law_left_here"]) fun _ _ _ _ _ _ us hl => match us, hl with | [_], _ => rfl
  have g_d_law_gain := PySem.W.mg_of X G a_d_law_gain
  have F_d_law_gains := fun_mk (st := sGains) l_d_law_gains c_d_law_gains k_d_law_gains
  have b_d_law_gains := F_d_law_gains.binds (ps := ["_law_left_here", "_law_worlds", "_law_deeds"]) fun _ _ _ _ _ _ us hl => match us, hl with | [_, _, _], _ => rfl
  have g_d_law_gains := PySem.W.mg_of X G a_d_law_gains
  have F_d_law_parts := fun_mk (st := sParts) l_d_law_parts c_d_law_parts k_d_law_parts
  have b_d_law_parts := F_d_law_parts.binds (ps := ["_law_left_here", "_law_worlds", "_law_deeds"]) fun _ _ _ _ _ _ us hl => match us, hl with | [_, _, _], _ => rfl
  have g_d_law_parts := PySem.W.mg_of X G a_d_law_parts
  have F_d_shown_ratio := fun_mk (st := sShR) l_d_shown_ratio c_d_shown_ratio k_d_shown_ratio
  have b_d_shown_ratio := F_d_shown_ratio.binds (ps := ["one"]) fun _ _ _ _ _ _ us hl => match us, hl with | [_], _ => rfl
  have g_d_shown_ratio := PySem.W.mg_of X G a_d_shown_ratio
  have F_d_ratio_of := fun_mk (st := sRatOf) l_d_ratio_of c_d_ratio_of k_d_ratio_of
  have b_d_ratio_of := F_d_ratio_of.binds (ps := ["text"]) fun _ _ _ _ _ _ us hl => match us, hl with | [_], _ => rfl
  have g_d_ratio_of := PySem.W.mg_of X G a_d_ratio_of
  have F_d_is_figures := fun_mk (st := sFig) l_d_is_figures c_d_is_figures k_d_is_figures
  have b_d_is_figures := F_d_is_figures.binds (ps := ["text"]) fun _ _ _ _ _ _ us hl => match us, hl with | [_], _ => rfl
  have g_d_is_figures := PySem.W.mg_of X G a_d_is_figures
  have F_d_shown_row := fun_mk (st := sShRw) l_d_shown_row c_d_shown_row k_d_shown_row
  have b_d_shown_row := F_d_shown_row.binds (ps := ["row"]) fun _ _ _ _ _ _ us hl => match us, hl with | [_], _ => rfl
  have g_d_shown_row := PySem.W.mg_of X G a_d_shown_row
  have F_d_row_of := fun_mk (st := sRowOf) l_d_row_of c_d_row_of k_d_row_of
  have b_d_row_of := F_d_row_of.binds (ps := ["text"]) fun _ _ _ _ _ _ us hl => match us, hl with | [_], _ => rfl
  have g_d_row_of := PySem.W.mg_of X G a_d_row_of
  have F_d_shown := fun_mk (st := sShown) l_d_shown c_d_shown k_d_shown
  have b_d_shown := F_d_shown.binds (ps := ["case"]) fun _ _ _ _ _ _ us hl => match us, hl with | [_], _ => rfl
  have g_d_shown := PySem.W.mg_of X G a_d_shown
  have F_d_read := fun_mk (st := sRead67) l_d_read c_d_read k_d_read
  have b_d_read := F_d_read.binds (ps := ["text"]) fun _ _ _ _ _ _ us hl => match us, hl with | [_], _ => rfl
  have g_d_read := PySem.W.mg_of X G a_d_read
  have F_d_shown_rows := fun_mk (st := sShRws) l_d_shown_rows c_d_shown_rows k_d_shown_rows
  have b_d_shown_rows := F_d_shown_rows.binds (ps := ["rows"]) fun _ _ _ _ _ _ us hl => match us, hl with | [_], _ => rfl
  have g_d_shown_rows := PySem.W.mg_of X G a_d_shown_rows
  have F_d_rows_in := fun_mk (st := sRowsIn) l_d_rows_in c_d_rows_in k_d_rows_in
  have b_d_rows_in := F_d_rows_in.binds (ps := ["parts", "number"]) fun _ _ _ _ _ _ us hl => match us, hl with | [_, _], _ => rfl
  have g_d_rows_in := PySem.W.mg_of X G a_d_rows_in
  have F_d_law_ratio_text := fun_mk (st := sLRatT) l_d_law_ratio_text c_d_law_ratio_text k_d_law_ratio_text
  have b_d_law_ratio_text := F_d_law_ratio_text.binds (ps := ["_law_one"]) fun _ _ _ _ _ _ us hl => match us, hl with | [_], _ => rfl
  have g_d_law_ratio_text := PySem.W.mg_of X G a_d_law_ratio_text
  have F_d_law_row_text := fun_mk (st := sLRowT) l_d_law_row_text c_d_law_row_text k_d_law_row_text
  have b_d_law_row_text := F_d_law_row_text.binds (ps := ["_law_row"]) fun _ _ _ _ _ _ us hl => match us, hl with | [_], _ => rfl
  have g_d_law_row_text := PySem.W.mg_of X G a_d_law_row_text
  have F_d_law_rows_text := fun_mk (st := sLRowsT) l_d_law_rows_text c_d_law_rows_text k_d_law_rows_text
  have b_d_law_rows_text := F_d_law_rows_text.binds (ps := ["_law_rows_here"]) fun _ _ _ _ _ _ us hl => match us, hl with | [_], _ => rfl
  have g_d_law_rows_text := PySem.W.mg_of X G a_d_law_rows_text
  have F_d_law_text := fun_mk (st := sLText) l_d_law_text c_d_law_text k_d_law_text
  have b_d_law_text := F_d_law_text.binds (ps := ["_law_parts_here"]) fun _ _ _ _ _ _ us hl => match us, hl with | [_], _ => rfl
  have g_d_law_text := PySem.W.mg_of X G a_d_law_text
  have F_d_law_right := fun_mk (st := sRight67) l_d_law_right c_d_law_right k_d_law_right
  have b_d_law_right := F_d_law_right.binds (ps := ["_law_parts_here"]) fun _ _ _ _ _ _ us hl => match us, hl with | [_], _ => rfl
  have g_d_law_right := PySem.W.mg_of X G a_d_law_right
  have F_d_law_great_so := fun_mk (st := sGso67) l_d_law_great_so c_d_law_great_so k_d_law_great_so
  have b_d_law_great_so := F_d_law_great_so.binds (ps := []) fun _ _ _ _ _ _ us hl => match us, hl with | [], _ => rfl
  have g_d_law_great_so := PySem.W.mg_of X G a_d_law_great_so
  have F_d_law := fun_mk (st := sLaw) l_d_law c_d_law k_d_law
  have g_d_law := PySem.W.mg_of X G a_d_law
  have g_d_total := PySem.W.mg_of X G a_d_total
  have k_d_total := FD_d_total.kp
  have FM := FD_d_total
  have bM1 := FM.binds1 (ps := ["some", "start"]) 1 0 (by simp) rfl fun T kV doc pm an cdv ct us its hl hi => match us, its, hl, hi with | [_], [_], _, _ => ⟨_, rfl, rfl⟩
  have ex_N : ExcC K C_N := ⟨ga_N, gg_N, eC_N, hd_N, cl_N, sp_, tk_, mo_N⟩
  have xf_N : XfC K C_N := ⟨ga_N, gg_N, eC_N, hd_N⟩
  have gC_N := PySem.W.mg_of X G aC_N
  have oex_N : OexC K C_N := ⟨⟨nm_N, q_N, N_N, bs_N, _, sn_N, su_N, ab_N, co_N, dd_N, m0_N, m1_N, m2_N, m3_N, m5_N, xC_N, by decide +kernel⟩, sa_N, eC_N, tC_N, kC_N⟩
  have exc_N : ExC K C_N "ValueError.__new__" [.type "ValueError", .type "Exception", .type "BaseException", .type "object"] := ⟨⟨nm_N, q_N, N_N, bs_N, sn_N, su_N, ab_N, co_N, dd_N, m0_N, m1_N, m2_N, m3_N, m5_N, xC_N⟩, eC_N, tC_N, kC_N⟩
  have F_i_N := fun_mk (st := sNcInit) l_i_N c_i_N k_i_N
  have b_i_N := F_i_N.binds (ps := ["self", "part", "number"]) fun _ _ _ _ _ _ us hl => match us, hl with | [_, _, _], _ => rfl
  have em_N_N := PySem.W.exm_ref eC_N hd_N tC_N sb_N_N
  have cl_C : Cls K C_C := ⟨pg_C, hd_C, po_C, sa_C⟩
  have gC_C := PySem.W.mg_of X G aC_C
  have F_m_C_init := fun_mk (st := sCInit) l_m_C_init c_m_C_init k_m_C_init
  have b_m_C_init := F_m_C_init.binds (ps := ["self", "shares", "hearer", "teller"]) fun _ _ _ _ _ _ us hl => match us, hl with | [_, _, _, _], _ => rfl
  have N0 : NcT K mg C_N f_i_N := ⟨gC_N, i_i_N, ty_i_N, xf_N, ex_N, oex_N, no_N_part, no_N_number, vV_N, em_N_N, kt_N_ValueError⟩
  have C0 : CaT K mg C_C f_m_C_init := ⟨cl_C, gC_C, no_own_shares, no_own_hearer, no_own_teller, ⟨mk_C, i_m_C_init, fn_m_C_init, kC_C⟩, ⟨_, PySem.W.mg_of X G g5_⟩, ⟨_, PySem.W.mg_of X G g6_⟩⟩
  have F_m_C_eq := fun_mk (st := sCEq) l_m_C_eq c_m_C_eq k_m_C_eq
  have b_m_C_eq := F_m_C_eq.binds (ps := ["self", "other"]) fun _ _ _ _ _ _ us hl => match us, hl with | [_, _], _ => rfl
  have I_C : IsT K C_C := ⟨ha_C, sp_, tk_, hm_C, kt_C⟩
  have NE_C : NeC K C_C f_m_C_eq := ⟨⟨_, _, _, _, _, _, _, _, _, _, _, _, _, _, _, _, xC_C, no_C, nq_m_C_eq, ne_C⟩, ⟨_, l_m_C_eq, oq_m_C_eq⟩⟩
  have F_m_C_worlds := fun_mk (st := sCWorlds) l_m_C_worlds c_m_C_worlds k_m_C_worlds
  have b_m_C_worlds := F_m_C_worlds.binds (ps := ["self"]) fun _ _ _ _ _ _ us hl => match us, hl with | [_], _ => rfl
  have mt_worlds : Meth K C_C "worlds" f_m_C_worlds := ⟨i_m_C_worlds, fn_m_C_worlds, k_m_C_worlds⟩
  have F_m_C_deeds := fun_mk (st := sCDeeds) l_m_C_deeds c_m_C_deeds k_m_C_deeds
  have b_m_C_deeds := F_m_C_deeds.binds (ps := ["self"]) fun _ _ _ _ _ _ us hl => match us, hl with | [_], _ => rfl
  have mt_deeds : Meth K C_C "deeds" f_m_C_deeds := ⟨i_m_C_deeds, fn_m_C_deeds, k_m_C_deeds⟩
  have F_m_C_shares := fun_mk (st := sCShares) l_m_C_shares c_m_C_shares k_m_C_shares
  have b_m_C_shares := F_m_C_shares.binds (ps := ["self"]) fun _ _ _ _ _ _ us hl => match us, hl with | [_], _ => rfl
  have mt_shares : Meth K C_C "shares" f_m_C_shares := ⟨i_m_C_shares, fn_m_C_shares, k_m_C_shares⟩
  have F_m_C_hearer := fun_mk (st := sCHearer) l_m_C_hearer c_m_C_hearer k_m_C_hearer
  have b_m_C_hearer := F_m_C_hearer.binds (ps := ["self"]) fun _ _ _ _ _ _ us hl => match us, hl with | [_], _ => rfl
  have mt_hearer : Meth K C_C "hearer" f_m_C_hearer := ⟨i_m_C_hearer, fn_m_C_hearer, k_m_C_hearer⟩
  have F_m_C_teller := fun_mk (st := sCTeller) l_m_C_teller c_m_C_teller k_m_C_teller
  have b_m_C_teller := F_m_C_teller.binds (ps := ["self"]) fun _ _ _ _ _ _ us hl => match us, hl with | [_], _ => rfl
  have mt_teller : Meth K C_C "teller" f_m_C_teller := ⟨i_m_C_teller, fn_m_C_teller, k_m_C_teller⟩
  have gHd_ := PySem.W.mg_of X G a_HEADS
  have tHd_ : ∀ H : Hp, SqT K H f_d_HEADS [.str hS, .str hH, .str hT] := tupS_seq tu_HEADS (by decide)
  have kb_d_shown_case : KBn K _ ["case"] 0 ["case"] gA gA := kbn_of (n := 0) (ks := ["case"]) gA F_d_shown gA_rel fun _ _ _ _ _ _ us ws h1 h2 => match us, ws, h1, h2 with | [], [_], _, _ => rfl
  have kb_d_read_text : KBn K _ ["text"] 0 ["text"] gA gA := kbn_of (n := 0) (ks := ["text"]) gA F_d_read gA_rel fun _ _ _ _ _ _ us ws h1 h2 => match us, ws, h1, h2 with | [], [_], _, _ => rfl
  refine ⟨PySem.W.fnOf "law" "law" (defArgs sLaw) (defBody sLaw) (defScope sLaw) .none kV_d_law dc_d_law pm_d_law an_d_law cd_d_law ct_d_law, fun s v => .of_eq rfl, fun base _ _ => ?_⟩
  have G_d_divisor : FnOk l.prog w K mg base CX0 1 f_d_divisor _ ["one", "other"] spDiv := ok_div F_d_divisor  B
  have G_d_lowest : FnOk l.prog w K mg base CX0 2 f_d_lowest _ ["top", "bottom"] spLow := ok_lowest F_d_lowest (G_d_divisor.mono (by decide)) k_d_divisor b_d_divisor g_d_divisor
  have G_d_plus : FnOk l.prog w K mg base CX0 3 f_d_plus _ ["one", "other"] (spBin K (· + ·)) := ok_Plus F_d_plus (G_d_lowest.mono (by decide)) k_d_lowest b_d_lowest g_d_lowest
  have G_d_is_whole : FnOk l.prog w K mg base CX0 1 f_d_is_whole _ ["thing"] (spWholeZ K) := ok_WholeZ F_d_is_whole  B
  have G_d_is_ratio : FnOk l.prog w K mg base CX0 2 f_d_is_ratio _ ["thing"] (spIsRZ K) := ok_IsRZ F_d_is_ratio (G_d_is_whole.mono (by decide)) k_d_is_whole b_d_is_whole g_d_is_whole (G_d_divisor.mono (by decide)) k_d_divisor b_d_divisor g_d_divisor B
  have G_d_is_list_of : FnOk l.prog w K mg base CX0 1 f_d_is_list_of _ ["thing", "least", "most"] (spListOfZ K) := ok_ListOfZ F_d_is_list_of  B
  have G_d_is_share : FnOk l.prog w K mg base CX0 3 f_d_is_share _ ["thing"] (spShareZ K) := ok_ShareZ F_d_is_share (G_d_is_ratio.mono (by decide)) k_d_is_ratio b_d_is_ratio g_d_is_ratio
  have G_d_total : FnOk l.prog w K mg base CX0 4 f_d_total _ ["some", "start"] (Rs.spTotal K) := ok_Total FM (G_d_plus.mono (by decide)) k_d_plus b_d_plus g_d_plus
  have G_d_is_ratio_row : FnOk l.prog w K mg base CX0 3 f_d_is_ratio_row _ ["thing", "least", "most"] (spRowZ K) := ok_RRowZ F_d_is_ratio_row (G_d_is_list_of.mono (by decide)) k_d_is_list_of b_d_is_list_of g_d_is_list_of (G_d_is_ratio.mono (by decide)) k_d_is_ratio b_d_is_ratio g_d_is_ratio B
  have G_d_wrong_row : FnOk l.prog w K mg base CX0 4 f_d_wrong_row _ ["rows", "is_row", "least", "most"] (spWrongZ K f_d_is_ratio_row) := ok_WrongZ F_d_wrong_row (G_d_is_ratio_row.mono (by decide)) k_d_is_ratio_row b_d_is_ratio_row  B
  have G_d_copied_rows : FnOk l.prog w K mg base CX0 1 f_d_copied_rows _ ["rows"] (Rs.spCopied K) := ok_Copied F_d_copied_rows  B
  have G_i_N : FnOk l.prog w K mg base CX0 1 f_i_N _ ["self", "part", "number"] (spE2 C_N "part" "number") := ok_NcInit F_i_N N0 B
  have G_d_check_shares : FnOk l.prog w K mg base (L2.CX l.prog w) 7 f_d_check_shares _ ["shares"] (spChkS K C_N) := ok_ChkS F_d_check_shares C0 N0 (G_i_N.mono (by decide)) b_i_N (G_d_is_list_of.mono (by decide)) k_d_is_list_of b_d_is_list_of g_d_is_list_of (G_d_is_share.mono (by decide)) k_d_is_share b_d_is_share g_d_is_share (G_d_total.mono (by decide)) k_d_total bM1 g_d_total B
  have G_d_check_gains : FnOk l.prog w K mg base (L2.CX l.prog w) 7 f_d_check_gains _ ["part", "rows", "worlds", "least", "most"] (spChkG K C_N) := ok_ChkG F_d_check_gains N0 (G_i_N.mono (by decide)) b_i_N (G_d_is_list_of.mono (by decide)) k_d_is_list_of b_d_is_list_of g_d_is_list_of (G_d_wrong_row.mono (by decide)) k_d_wrong_row b_d_wrong_row g_d_wrong_row g_d_is_ratio_row
  have G_m_C_init : FnOk l.prog w K mg base (L2.CX l.prog w) 8 f_m_C_init _ ["self", "shares", "hearer", "teller"] (spCInit K C_C C_N) := ok_CInit F_m_C_init C0 (G_d_check_shares.mono (by decide)) k_d_check_shares b_d_check_shares g_d_check_shares (G_d_check_gains.mono (by decide)) k_d_check_gains b_d_check_gains g_d_check_gains (G_d_copied_rows.mono (by decide)) k_d_copied_rows b_d_copied_rows g_d_copied_rows B
  have GF_m_C_init : FnOk l.prog w K mg base (L2.CX l.prog w) 8 f_m_C_init _ ["self", "shares", "hearer", "teller"] (spCInitF K C_C C_N) := ok_CInitF F_m_C_init C0 (G_d_check_shares.mono (by decide)) k_d_check_shares b_d_check_shares g_d_check_shares (G_d_check_gains.mono (by decide)) k_d_check_gains b_d_check_gains g_d_check_gains (G_d_copied_rows.mono (by decide)) k_d_copied_rows b_d_copied_rows g_d_copied_rows B
  have G_m_C_worlds : FnOk l.prog w K mg base CX0 1 f_m_C_worlds _ ["self"] (spCWorlds K C_C) := ok_CWorlds F_m_C_worlds C0 B
  have G_m_C_deeds : FnOk l.prog w K mg base CX0 1 f_m_C_deeds _ ["self"] (spCDeeds K C_C) := ok_CDeeds F_m_C_deeds C0 B
  have G_m_C_shares : FnOk l.prog w K mg base CX0 1 f_m_C_shares _ ["self"] (spCShares K C_C) := ok_CShares F_m_C_shares C0 B
  have G_m_C_hearer : FnOk l.prog w K mg base CX0 2 f_m_C_hearer _ ["self"] (spCHearer K C_C) := ok_CHearer F_m_C_hearer C0 (G_d_copied_rows.mono (by decide)) k_d_copied_rows b_d_copied_rows g_d_copied_rows
  have G_m_C_teller : FnOk l.prog w K mg base CX0 2 f_m_C_teller _ ["self"] (spCTeller K C_C) := ok_CTeller F_m_C_teller C0 (G_d_copied_rows.mono (by decide)) k_d_copied_rows b_d_copied_rows g_d_copied_rows
  have G_m_C_eq : FnOk l.prog w K mg base CX0 1 f_m_C_eq _ ["self", "other"] (spCEq K C_C) := ok_CEq F_m_C_eq C0 I_C B
  have G_d_times : FnOk l.prog w K mg base CX0 3 f_d_times _ ["one", "other"] (spBin K (· * ·)) := ok_Times F_d_times (G_d_lowest.mono (by decide)) k_d_lowest b_d_lowest g_d_lowest
  have G_d_shown_ratio : FnOk l.prog w K mg base CX0 1 f_d_shown_ratio _ ["one"] (spShR K) := ok_ShR F_d_shown_ratio  B
  have G_d_is_figures : FnOk l.prog w K mg base CX0 1 f_d_is_figures _ ["text"] spFig := ok_Fig F_d_is_figures 
  have G_d_ratio_of : FnOk l.prog w K mg base CX0 3 f_d_ratio_of _ ["text"] (spRat K) := ok_RatOf F_d_ratio_of (G_d_is_figures.mono (by decide)) k_d_is_figures b_d_is_figures g_d_is_figures (G_d_is_ratio.mono (by decide)) k_d_is_ratio b_d_is_ratio g_d_is_ratio B
  have G_d_shown_row : FnOk l.prog w K mg base CX0 2 f_d_shown_row _ ["row"] (spShRw K) := ok_ShRw F_d_shown_row (G_d_shown_ratio.mono (by decide)) k_d_shown_ratio b_d_shown_ratio g_d_shown_ratio
  have G_d_row_of : FnOk l.prog w K mg base CX0 4 f_d_row_of _ ["text"] (spRowOf K) := ok_RowOf F_d_row_of (G_d_ratio_of.mono (by decide)) k_d_ratio_of b_d_ratio_of g_d_ratio_of
  have G_d_shown_rows : FnOk l.prog w K mg base CX0 3 f_d_shown_rows _ ["rows"] (spShRws K) := ok_ShRws F_d_shown_rows (G_d_shown_row.mono (by decide)) k_d_shown_row b_d_shown_row g_d_shown_row
  have G_d_shown : FnOk l.prog w K mg base CX0 4 f_d_shown _ ["case"] (spShown K C_C) := ok_Shown F_d_shown C0 mt_shares mt_hearer mt_teller gHd_ tHd_ (G_m_C_shares.mono (by decide)) b_m_C_shares (G_m_C_hearer.mono (by decide)) b_m_C_hearer (G_m_C_teller.mono (by decide)) b_m_C_teller (G_d_shown_row.mono (by decide)) k_d_shown_row b_d_shown_row g_d_shown_row (G_d_shown_rows.mono (by decide)) k_d_shown_rows b_d_shown_rows g_d_shown_rows B
  have G_d_rows_in : FnOk l.prog w K mg base CX0 5 f_d_rows_in _ ["parts", "number"] (spRowsIn K) := ok_RowsIn F_d_rows_in gHd_ tHd_ (G_d_row_of.mono (by decide)) k_d_row_of b_d_row_of g_d_row_of B
  have G_d_read : FnOk l.prog w K mg base CX0 10 f_d_read _ ["text"] (spRead67 K C_C) := ok_Read67 F_d_read C0 (GF_m_C_init.mono (by decide)) b_m_C_init gHd_ tHd_ (G_d_rows_in.mono (by decide)) k_d_rows_in b_d_rows_in g_d_rows_in B
  have G_d_law_left : FnOk l.prog w K mg base CX0 1 f_d_law_left _ ["_law_cell"] spLeft := ok_left F_d_law_left  B
  have G_d_law_digit : FnOk l.prog w K mg base CX0 1 f_d_law_digit _ ["_law_left_here", "_law_many"] spDigit := ok_digit F_d_law_digit 
  have G_d_law_low : FnOk l.prog w K mg base CX0 1 f_d_law_low _ ["_law_top", "_law_bottom"] spLow := ok_low F_d_law_low  B
  have G_d_law_parted : FnOk l.prog w K mg base CX0 2 f_d_law_parted _ ["_law_left_here", "_law_many", "_law_top"] (spParted K) := ok_Parted F_d_law_parted (G_d_law_digit.mono (by decide)) k_d_law_digit b_d_law_digit g_d_law_digit (G_d_law_low.mono (by decide)) k_d_law_low b_d_law_low g_d_law_low B
  have G_d_law_gain : FnOk l.prog w K mg base CX0 2 f_d_law_gain _ ["_law_left_here"] (Hr.spGain K) := ok_Gain F_d_law_gain (G_d_law_digit.mono (by decide)) k_d_law_digit b_d_law_digit g_d_law_digit (G_d_law_low.mono (by decide)) k_d_law_low b_d_law_low g_d_law_low
  have G_d_law_gains : FnOk l.prog w K mg base CX0 3 f_d_law_gains _ ["_law_left_here", "_law_worlds", "_law_deeds"] (Hr.spGains K) := ok_Gains F_d_law_gains (G_d_law_gain.mono (by decide)) k_d_law_gain b_d_law_gain g_d_law_gain (G_d_law_digit.mono (by decide)) k_d_law_digit b_d_law_digit g_d_law_digit B
  have G_d_law_parts : FnOk l.prog w K mg base CX0 4 f_d_law_parts _ ["_law_left_here", "_law_worlds", "_law_deeds"] (Hr.spParts K) := ok_Parts F_d_law_parts (G_d_law_parted.mono (by decide)) k_d_law_parted b_d_law_parted g_d_law_parted (G_d_law_gains.mono (by decide)) k_d_law_gains b_d_law_gains g_d_law_gains
  have G_d_law_ratio_text : FnOk l.prog w K mg base CX0 1 f_d_law_ratio_text _ ["_law_one"] (spShR K) := ok_LRatT F_d_law_ratio_text  B
  have G_d_law_row_text : FnOk l.prog w K mg base CX0 2 f_d_law_row_text _ ["_law_row"] (spShRw K) := ok_LRowT F_d_law_row_text (G_d_law_ratio_text.mono (by decide)) k_d_law_ratio_text b_d_law_ratio_text g_d_law_ratio_text
  have G_d_law_rows_text : FnOk l.prog w K mg base CX0 3 f_d_law_rows_text _ ["_law_rows_here"] (spShRws K) := ok_LRowsT F_d_law_rows_text (G_d_law_row_text.mono (by decide)) k_d_law_row_text b_d_law_row_text g_d_law_row_text
  have G_d_law_text : FnOk l.prog w K mg base CX0 4 f_d_law_text _ ["_law_parts_here"] (spLText K) := ok_LText F_d_law_text (G_d_law_row_text.mono (by decide)) k_d_law_row_text b_d_law_row_text g_d_law_row_text (G_d_law_rows_text.mono (by decide)) k_d_law_rows_text b_d_law_rows_text g_d_law_rows_text
  have G_d_law_right : FnOk l.prog w K mg base CX0 13 f_d_law_right _ ["_law_parts_here"] (spRight67 K C_C) := ok_Right67 F_d_law_right C0 mt_shares mt_hearer mt_teller (GF_m_C_init.mono (by decide)) b_m_C_init NE_C (G_m_C_eq.mono (by decide)) b_m_C_eq I_C kb_d_shown_case kb_d_read_text (G_m_C_shares.mono (by decide)) b_m_C_shares (G_m_C_hearer.mono (by decide)) b_m_C_hearer (G_m_C_teller.mono (by decide)) b_m_C_teller (G_d_law_text.mono (by decide)) k_d_law_text b_d_law_text g_d_law_text (G_d_shown.mono (by decide)) k_d_shown b_d_shown g_d_shown (G_d_read.mono (by decide)) k_d_read b_d_read g_d_read B
  have G_d_law_great_so : FnOk l.prog w K mg base CX0 13 f_d_law_great_so _ [] spGso67 := ok_Gso67 F_d_law_great_so C0 mt_hearer (GF_m_C_init.mono (by decide)) b_m_C_init NE_C (G_m_C_eq.mono (by decide)) b_m_C_eq I_C (G_m_C_hearer.mono (by decide)) b_m_C_hearer (G_d_times.mono (by decide)) k_d_times b_d_times g_d_times (G_d_shown.mono (by decide)) k_d_shown b_d_shown g_d_shown (G_d_read.mono (by decide)) k_d_read b_d_read g_d_read B
  exact ok_law (k := 13) F_d_law C0 (GF_m_C_init.mono (by decide)) b_m_C_init (G_d_law_left.mono (by decide)) k_d_law_left b_d_law_left g_d_law_left (G_d_law_digit.mono (by decide)) k_d_law_digit b_d_law_digit g_d_law_digit (G_d_law_parts.mono (by decide)) k_d_law_parts b_d_law_parts g_d_law_parts (G_d_law_right.mono (by decide)) k_d_law_right b_d_law_right g_d_law_right (G_d_law_great_so.mono (by decide)) k_d_law_great_so b_d_law_great_so g_d_law_great_so (G_d_shown.mono (by decide)) k_d_shown b_d_shown g_d_shown B
def fa0 : List Hk.Fk := [
  fun K => (He.Fa.code ("is_whole", none) "is_whole").ok K,
  fun K => (He.Fa.code ("is_ratio", none) "is_ratio").ok K,
  fun K => (He.Fa.code ("plus", none) "plus").ok K,
  fun K => (He.Fa.code ("lowest", none) "lowest").ok K,
  fun K => (He.Fa.code ("divisor", none) "divisor").ok K,
  fun K => (He.Fa.code ("is_list_of", none) "is_list_of").ok K,
  fun K => (He.Fa.code ("is_share", none) "is_share").ok K,
  fun K => (He.Fa.code ("is_ratio_row", none) "is_ratio_row").ok K,
  fun K => (He.Fa.code ("wrong_row", none) "wrong_row").ok K,
  fun K => (He.Fa.code ("copied_rows", none) "copied_rows").ok K,
  fun K => (He.Fa.code ("check_shares", none) "check_shares").ok K,
  fun K => (He.Fa.code ("check_gains", none) "check_gains").ok K,
  fun K => (He.Fa.code ("times", none) "times").ok K,
  fun K => (He.Fa.code ("_law_left", none) "_law_left").ok K,
  fun K => (He.Fa.code ("_law_digit", none) "_law_digit").ok K,
  fun K => (He.Fa.code ("_law_low", none) "_law_low").ok K]
def fa1 : List Hk.Fk := [
  fun K => (He.Fa.code ("_law_parted", none) "_law_parted").ok K,
  fun K => (He.Fa.code ("_law_gain", none) "_law_gain").ok K,
  fun K => (He.Fa.code ("_law_gains", none) "_law_gains").ok K,
  fun K => (He.Fa.code ("_law_parts", none) "_law_parts").ok K,
  fun K => (He.Fa.code ("shown_ratio", none) "shown_ratio").ok K,
  fun K => (He.Fa.code ("ratio_of", none) "ratio_of").ok K,
  fun K => (He.Fa.code ("is_figures", none) "is_figures").ok K,
  fun K => (He.Fa.code ("shown_row", none) "shown_row").ok K,
  fun K => (He.Fa.code ("row_of", none) "row_of").ok K,
  fun K => (He.Fa.code ("shown", none) "shown").ok K,
  fun K => (He.Fa.code ("read", none) "read").ok K,
  fun K => (He.Fa.code ("shown_rows", none) "shown_rows").ok K,
  fun K => (He.Fa.code ("rows_in", none) "rows_in").ok K,
  fun K => (He.Fa.code ("_law_ratio_text", none) "_law_ratio_text").ok K,
  fun K => (He.Fa.code ("_law_row_text", none) "_law_row_text").ok K,
  fun K => (He.Fa.code ("_law_rows_text", none) "_law_rows_text").ok K]
def fa2 : List Hk.Fk := [
  fun K => (He.Fa.code ("_law_text", none) "_law_text").ok K,
  fun K => (He.Fa.code ("_law_right", none) "_law_right").ok K,
  fun K => (He.Fa.code ("_law_great_so", none) "_law_great_so").ok K,
  fun K => (He.Fa.code ("law", none) "law").ok K,
  fun K => (He.Fa.code ("NoCase", some "__init__") "NoCase.__init__").ok K,
  fun K => (He.Fa.code ("Case", some "__init__") "Case.__init__").ok K,
  fun K => (He.Fa.code ("Case", some "__eq__") "Case.__eq__").ok K,
  fun K => (He.Fa.code ("Case", some "worlds") "Case.worlds").ok K,
  fun K => (He.Fa.code ("Case", some "deeds") "Case.deeds").ok K,
  fun K => (He.Fa.code ("Case", some "shares") "Case.shares").ok K,
  fun K => (He.Fa.code ("Case", some "hearer") "Case.hearer").ok K,
  fun K => (He.Fa.code ("Case", some "teller") "Case.teller").ok K,
  fun K => He.DefD.ok K ⟨("total", none), "total", "total", defArgs sTotal, defBody sTotal, defScope sTotal, [.non], []⟩,
  Hk.clsB (fun K => He.ga K "NoCase") [.type "ValueError", .type "Exception", .type "BaseException", .type "object"] true "ValueError.__new__",
  Hk.clsB (fun K => He.ga K "Case") [.type "object"] false "object.__new__",
  Hk.intB "MOST_WORLDS" 5]
def fa3 : List Hk.Fk := [
  Hk.intB "MOST_DEEDS" 6,
  Hk.tyB (fun K => (He.ma K (He.ga K "Case") "__eq__")) "function",
  fun K => decide (PySem.W.nsIn K mainGlobals "is_whole" = some (some (.ref (He.ga K "is_whole")))),
  fun K => decide (PySem.W.keepIn K (.ref (He.ga K "is_whole")) = true),
  fun K => decide (PySem.W.nsIn K mainGlobals "is_ratio" = some (some (.ref (He.ga K "is_ratio")))),
  fun K => decide (PySem.W.keepIn K (.ref (He.ga K "is_ratio")) = true),
  fun K => decide (PySem.W.nsIn K mainGlobals "plus" = some (some (.ref (He.ga K "plus")))),
  fun K => decide (PySem.W.keepIn K (.ref (He.ga K "plus")) = true),
  fun K => decide (PySem.W.nsIn K mainGlobals "lowest" = some (some (.ref (He.ga K "lowest")))),
  fun K => decide (PySem.W.keepIn K (.ref (He.ga K "lowest")) = true),
  fun K => decide (PySem.W.nsIn K mainGlobals "divisor" = some (some (.ref (He.ga K "divisor")))),
  fun K => decide (PySem.W.keepIn K (.ref (He.ga K "divisor")) = true),
  fun K => decide (PySem.W.nsIn K mainGlobals "is_list_of" = some (some (.ref (He.ga K "is_list_of")))),
  fun K => decide (PySem.W.keepIn K (.ref (He.ga K "is_list_of")) = true),
  fun K => decide (PySem.W.nsIn K mainGlobals "is_share" = some (some (.ref (He.ga K "is_share")))),
  fun K => decide (PySem.W.keepIn K (.ref (He.ga K "is_share")) = true)]
def fa4 : List Hk.Fk := [
  fun K => decide (PySem.W.nsIn K mainGlobals "is_ratio_row" = some (some (.ref (He.ga K "is_ratio_row")))),
  fun K => decide (PySem.W.keepIn K (.ref (He.ga K "is_ratio_row")) = true),
  fun K => decide (PySem.W.nsIn K mainGlobals "wrong_row" = some (some (.ref (He.ga K "wrong_row")))),
  fun K => decide (PySem.W.keepIn K (.ref (He.ga K "wrong_row")) = true),
  fun K => decide (PySem.W.nsIn K mainGlobals "copied_rows" = some (some (.ref (He.ga K "copied_rows")))),
  fun K => decide (PySem.W.keepIn K (.ref (He.ga K "copied_rows")) = true),
  fun K => decide (PySem.W.nsIn K mainGlobals "check_shares" = some (some (.ref (He.ga K "check_shares")))),
  fun K => decide (PySem.W.keepIn K (.ref (He.ga K "check_shares")) = true),
  fun K => decide (PySem.W.nsIn K mainGlobals "check_gains" = some (some (.ref (He.ga K "check_gains")))),
  fun K => decide (PySem.W.keepIn K (.ref (He.ga K "check_gains")) = true),
  fun K => decide (PySem.W.nsIn K mainGlobals "times" = some (some (.ref (He.ga K "times")))),
  fun K => decide (PySem.W.keepIn K (.ref (He.ga K "times")) = true),
  fun K => decide (PySem.W.nsIn K mainGlobals "_law_left" = some (some (.ref (He.ga K "_law_left")))),
  fun K => decide (PySem.W.keepIn K (.ref (He.ga K "_law_left")) = true),
  fun K => decide (PySem.W.nsIn K mainGlobals "_law_digit" = some (some (.ref (He.ga K "_law_digit")))),
  fun K => decide (PySem.W.keepIn K (.ref (He.ga K "_law_digit")) = true)]
def fa5 : List Hk.Fk := [
  fun K => decide (PySem.W.nsIn K mainGlobals "_law_low" = some (some (.ref (He.ga K "_law_low")))),
  fun K => decide (PySem.W.keepIn K (.ref (He.ga K "_law_low")) = true),
  fun K => decide (PySem.W.nsIn K mainGlobals "_law_parted" = some (some (.ref (He.ga K "_law_parted")))),
  fun K => decide (PySem.W.keepIn K (.ref (He.ga K "_law_parted")) = true),
  fun K => decide (PySem.W.nsIn K mainGlobals "_law_gain" = some (some (.ref (He.ga K "_law_gain")))),
  fun K => decide (PySem.W.keepIn K (.ref (He.ga K "_law_gain")) = true),
  fun K => decide (PySem.W.nsIn K mainGlobals "_law_gains" = some (some (.ref (He.ga K "_law_gains")))),
  fun K => decide (PySem.W.keepIn K (.ref (He.ga K "_law_gains")) = true),
  fun K => decide (PySem.W.nsIn K mainGlobals "_law_parts" = some (some (.ref (He.ga K "_law_parts")))),
  fun K => decide (PySem.W.keepIn K (.ref (He.ga K "_law_parts")) = true),
  fun K => decide (PySem.W.nsIn K mainGlobals "shown_ratio" = some (some (.ref (He.ga K "shown_ratio")))),
  fun K => decide (PySem.W.keepIn K (.ref (He.ga K "shown_ratio")) = true),
  fun K => decide (PySem.W.nsIn K mainGlobals "ratio_of" = some (some (.ref (He.ga K "ratio_of")))),
  fun K => decide (PySem.W.keepIn K (.ref (He.ga K "ratio_of")) = true),
  fun K => decide (PySem.W.nsIn K mainGlobals "is_figures" = some (some (.ref (He.ga K "is_figures")))),
  fun K => decide (PySem.W.keepIn K (.ref (He.ga K "is_figures")) = true)]
def fa6 : List Hk.Fk := [
  fun K => decide (PySem.W.nsIn K mainGlobals "shown_row" = some (some (.ref (He.ga K "shown_row")))),
  fun K => decide (PySem.W.keepIn K (.ref (He.ga K "shown_row")) = true),
  fun K => decide (PySem.W.nsIn K mainGlobals "row_of" = some (some (.ref (He.ga K "row_of")))),
  fun K => decide (PySem.W.keepIn K (.ref (He.ga K "row_of")) = true),
  fun K => decide (PySem.W.nsIn K mainGlobals "shown" = some (some (.ref (He.ga K "shown")))),
  fun K => decide (PySem.W.keepIn K (.ref (He.ga K "shown")) = true),
  fun K => decide (PySem.W.nsIn K mainGlobals "read" = some (some (.ref (He.ga K "read")))),
  fun K => decide (PySem.W.keepIn K (.ref (He.ga K "read")) = true),
  fun K => decide (PySem.W.nsIn K mainGlobals "shown_rows" = some (some (.ref (He.ga K "shown_rows")))),
  fun K => decide (PySem.W.keepIn K (.ref (He.ga K "shown_rows")) = true),
  fun K => decide (PySem.W.nsIn K mainGlobals "rows_in" = some (some (.ref (He.ga K "rows_in")))),
  fun K => decide (PySem.W.keepIn K (.ref (He.ga K "rows_in")) = true),
  fun K => decide (PySem.W.nsIn K mainGlobals "_law_ratio_text" = some (some (.ref (He.ga K "_law_ratio_text")))),
  fun K => decide (PySem.W.keepIn K (.ref (He.ga K "_law_ratio_text")) = true),
  fun K => decide (PySem.W.nsIn K mainGlobals "_law_row_text" = some (some (.ref (He.ga K "_law_row_text")))),
  fun K => decide (PySem.W.keepIn K (.ref (He.ga K "_law_row_text")) = true)]
def fa7 : List Hk.Fk := [
  fun K => decide (PySem.W.nsIn K mainGlobals "_law_rows_text" = some (some (.ref (He.ga K "_law_rows_text")))),
  fun K => decide (PySem.W.keepIn K (.ref (He.ga K "_law_rows_text")) = true),
  fun K => decide (PySem.W.nsIn K mainGlobals "_law_text" = some (some (.ref (He.ga K "_law_text")))),
  fun K => decide (PySem.W.keepIn K (.ref (He.ga K "_law_text")) = true),
  fun K => decide (PySem.W.nsIn K mainGlobals "_law_right" = some (some (.ref (He.ga K "_law_right")))),
  fun K => decide (PySem.W.keepIn K (.ref (He.ga K "_law_right")) = true),
  fun K => decide (PySem.W.nsIn K mainGlobals "_law_great_so" = some (some (.ref (He.ga K "_law_great_so")))),
  fun K => decide (PySem.W.keepIn K (.ref (He.ga K "_law_great_so")) = true),
  fun K => decide (PySem.W.nsIn K mainGlobals "law" = some (some (.ref (He.ga K "law")))),
  fun K => decide (PySem.W.keepIn K (.ref (He.ga K "law")) = true),
  fun K => decide (PySem.W.nsIn K mainGlobals "total" = some (some (.ref (He.ga K "total")))),
  fun K => decide (PySem.W.nsIn K mainGlobals "NoCase" = some (some (.ref (He.ga K "NoCase")))),
  fun K => decide (PySem.W.findIn K (.ref (He.ga K "NoCase")) "__setattr__" = some (some (.builtin "object.__setattr__"))),
  fun K => decide (PySem.W.findIn K (.ref (He.ga K "NoCase")) "__getattribute__" = some (some (.builtin "BaseException.__getattribute__"))),
  fun K => decide (PySem.W.findIn K (.ref (He.ga K "NoCase")) "__getattr__" = some none),
  fun K => decide (PySem.W.findIn K (.ref (He.ga K "NoCase")) "__class__" = some (some (.builtin "object.__class__")))]
def fa8 : List Hk.Fk := [
  fun K => decide (PySem.W.mroIn K (He.ga K "NoCase") (.type "object") = some true),
  fun K => decide (PySem.W.keepIn K (.ref (He.ga K "NoCase")) = true),
  fun K => decide (PySem.W.subIn K (.ref (He.ga K "NoCase")) (.type "BaseException") = some true),
  fun K => decide (PySem.W.typeIn K (.ref (He.ga K "NoCase")) = some (.type "type")),
  fun K => decide (PySem.W.hasDictIn K (He.ga K "NoCase") = true),
  fun K => decide (PySem.W.findIn K (.ref (He.ga K "NoCase")) "__init__" = some (some (.ref (He.ma K (He.ga K "NoCase") "__init__")))),
  fun K => decide (PySem.W.typeIn K (.ref (He.ma K (He.ga K "NoCase") "__init__")) = some (.type "function")),
  fun K => decide (PySem.W.keepIn K (.ref (He.ma K (He.ga K "NoCase") "__init__")) = true),
  fun K => decide (PySem.W.findIn K (.ref (He.ga K "NoCase")) "part" = some none),
  fun K => decide (PySem.W.findIn K (.ref (He.ga K "NoCase")) "number" = some none),
  fun K => decide (PySem.W.subIn K (.ref (He.ga K "NoCase")) (.ref (He.ga K "NoCase")) = some true),
  fun K => decide (PySem.W.kitOne K (.ref (He.ga K "NoCase")) (.type "ValueError") = some true),
  fun K => decide (PySem.W.nsIn K mainGlobals "Case" = some (some (.ref (He.ga K "Case")))),
  fun K => decide (PySem.W.plainGet K (He.ga K "Case") Str.empty = true),
  fun K => decide (PySem.W.hasDictIn K (He.ga K "Case") = true),
  fun K => decide (PySem.W.plainOver K (He.ga K "Case") = true)]
def fa9 : List Hk.Fk := [
  fun K => decide (PySem.W.findIn K (.ref (He.ga K "Case")) "__setattr__" = some (some (.builtin "object.__setattr__"))),
  fun K => decide (PySem.W.makesIn K (He.ga K "Case") = true),
  fun K => decide (PySem.W.keepIn K (.ref (He.ga K "Case")) = true),
  fun K => decide (PySem.W.nsIn K (Hk.nsA K (He.ga K "Case")) "__ne__" = some none),
  fun K => decide (PySem.W.findIn K (.ref (He.ga K "Case")) "__class__" = some (some (.builtin "object.__class__"))),
  fun K => decide (PySem.W.mroIn K (He.ga K "Case") (.type "object") = some true),
  fun K => decide (PySem.W.kitOne K (.ref (He.ga K "Case")) (.ref (He.ga K "Case")) = some true),
  fun K => decide (PySem.W.nsOkIn K (Hk.nsA K (He.ga K "Case")) = true),
  fun K => decide (PySem.W.findIn K (.ref (He.ga K "Case")) "__init__" = some (some (.ref (He.ma K (He.ga K "Case") "__init__")))),
  fun K => decide (PySem.W.isFn K (.ref (He.ma K (He.ga K "Case") "__init__")) = true),
  fun K => decide (PySem.W.keepIn K (.ref (He.ma K (He.ga K "Case") "__init__")) = true),
  fun K => decide (PySem.W.findIn K (.ref (He.ga K "Case")) "own_shares" = some none),
  fun K => decide (PySem.W.findIn K (.ref (He.ga K "Case")) "own_hearer" = some none),
  fun K => decide (PySem.W.findIn K (.ref (He.ga K "Case")) "own_teller" = some none),
  fun K => decide (PySem.W.findIn K (.ref (He.ga K "Case")) "__eq__" = some (some (.ref (He.ma K (He.ga K "Case") "__eq__")))),
  fun K => decide (PySem.W.isFn K (.ref (He.ma K (He.ga K "Case") "__eq__")) = true)]
def fa10 : List Hk.Fk := [
  fun K => decide (PySem.W.keepIn K (.ref (He.ma K (He.ga K "Case") "__eq__")) = true),
  fun K => decide (PySem.W.nsIn K (Hk.nsA K (He.ga K "Case")) "__eq__" = some (some (.ref (He.ma K (He.ga K "Case") "__eq__")))),
  fun K => decide (PySem.W.findIn K (.ref (He.ga K "Case")) "worlds" = some (some (.ref (He.ma K (He.ga K "Case") "worlds")))),
  fun K => decide (PySem.W.isFn K (.ref (He.ma K (He.ga K "Case") "worlds")) = true),
  fun K => decide (PySem.W.keepIn K (.ref (He.ma K (He.ga K "Case") "worlds")) = true),
  fun K => decide (PySem.W.findIn K (.ref (He.ga K "Case")) "deeds" = some (some (.ref (He.ma K (He.ga K "Case") "deeds")))),
  fun K => decide (PySem.W.isFn K (.ref (He.ma K (He.ga K "Case") "deeds")) = true),
  fun K => decide (PySem.W.keepIn K (.ref (He.ma K (He.ga K "Case") "deeds")) = true),
  fun K => decide (PySem.W.findIn K (.ref (He.ga K "Case")) "shares" = some (some (.ref (He.ma K (He.ga K "Case") "shares")))),
  fun K => decide (PySem.W.isFn K (.ref (He.ma K (He.ga K "Case") "shares")) = true),
  fun K => decide (PySem.W.keepIn K (.ref (He.ma K (He.ga K "Case") "shares")) = true),
  fun K => decide (PySem.W.findIn K (.ref (He.ga K "Case")) "hearer" = some (some (.ref (He.ma K (He.ga K "Case") "hearer")))),
  fun K => decide (PySem.W.isFn K (.ref (He.ma K (He.ga K "Case") "hearer")) = true),
  fun K => decide (PySem.W.keepIn K (.ref (He.ma K (He.ga K "Case") "hearer")) = true),
  fun K => decide (PySem.W.findIn K (.ref (He.ga K "Case")) "teller" = some (some (.ref (He.ma K (He.ga K "Case") "teller")))),
  fun K => decide (PySem.W.isFn K (.ref (He.ma K (He.ga K "Case") "teller")) = true)]
def fa11 : List Hk.Fk := [
  fun K => decide (PySem.W.keepIn K (.ref (He.ma K (He.ga K "Case") "teller")) = true),
  fun K => decide (PySem.W.nsIn K mainGlobals "HEADS" = some (some (.ref (He.ga K "HEADS")))),
  fun K => decide (tupS K (He.ga K "HEADS") = some [hS, hH, hT]),
  fun K => decide (PySem.W.nsIn K mainGlobals "abs" = some none),
  fun K => decide (PySem.W.nsIn K mainGlobals "isinstance" = some none),
  fun K => decide (PySem.W.nsIn K mainGlobals "int" = some none),
  fun K => decide (PySem.W.nsIn K mainGlobals "bool" = some none),
  fun K => decide (PySem.W.nsIn K mainGlobals "tuple" = some none),
  fun K => decide (PySem.W.nsIn K mainGlobals "list" = some none),
  fun K => decide (PySem.W.nsIn K mainGlobals "len" = some none),
  fun K => decide (PySem.W.nsIn K mainGlobals "range" = some none),
  fun K => decide (PySem.W.nsIn K mainGlobals "str" = some none),
  fun K => decide (PySem.W.nsIn K mainGlobals "repr" = some none),
  fun K => decide (PySem.W.nsIn K mainGlobals "sum" = some none),
  fun K => decide (PySem.W.nsIn K mainGlobals "all" = some none),
  fun K => decide (PySem.W.nsIn K mainGlobals "any" = some none)]
def fa12 : List Hk.Fk := [
  fun K => decide (PySem.W.nsIn K mainGlobals "enumerate" = some none),
  fun K => decide (PySem.W.nsIn K mainGlobals "zip" = some none),
  fun K => decide (PySem.W.nsIn K mainGlobals "min" = some none),
  fun K => decide (PySem.W.nsIn K mainGlobals "max" = some none),
  fun K => decide (PySem.W.nsIn K mainGlobals "sorted" = some none),
  fun K => decide (PySem.W.nsIn K mainGlobals "ValueError" = some none),
  fun K => decide (PySem.W.nsIn K mainGlobals "ZeroDivisionError" = some none),
  fun K => decide (PySem.W.nsIn K mainGlobals "OverflowError" = some none),
  fun K => decide (PySem.W.nsIn K mainGlobals "IndexError" = some none),
  fun K => decide (PySem.W.nsIn K mainGlobals "LookupError" = some none),
  fun K => decide (PySem.W.nsIn K mainGlobals "ArithmeticError" = some none),
  fun K => decide (PySem.W.nsIn K mainGlobals "KeyError" = some none),
  fun K => decide (PySem.W.nsIn K mainGlobals "RuntimeError" = some none)]
def pk0 : List (List Hk.Fk) := [fa0, fa1, fa2, fa3, fa4, fa5, fa6, fa7, fa8, fa9]
def pk1 : List (List Hk.Fk) := [fa10, fa11, fa12]
def faa : List (List Hk.Fk) := pk0 ++ (pk1)
def fns0 : List He.FnD := [
  ⟨("is_whole", none), "is_whole", "is_whole", defArgs sWhole, defBody sWhole, defScope sWhole⟩,
  ⟨("is_ratio", none), "is_ratio", "is_ratio", defArgs sIsR, defBody sIsR, defScope sIsR⟩,
  ⟨("plus", none), "plus", "plus", defArgs sPlus, defBody sPlus, defScope sPlus⟩,
  ⟨("lowest", none), "lowest", "lowest", defArgs sLowest, defBody sLowest, defScope sLowest⟩,
  ⟨("divisor", none), "divisor", "divisor", defArgs sDiv, defBody sDiv, defScope sDiv⟩,
  ⟨("is_list_of", none), "is_list_of", "is_list_of", defArgs sListOf, defBody sListOf, defScope sListOf⟩,
  ⟨("is_share", none), "is_share", "is_share", defArgs sShare, defBody sShare, defScope sShare⟩,
  ⟨("is_ratio_row", none), "is_ratio_row", "is_ratio_row", defArgs sRRow, defBody sRRow, defScope sRRow⟩,
  ⟨("wrong_row", none), "wrong_row", "wrong_row", defArgs sWrong, defBody sWrong, defScope sWrong⟩,
  ⟨("copied_rows", none), "copied_rows", "copied_rows", defArgs sCopied, defBody sCopied, defScope sCopied⟩,
  ⟨("check_shares", none), "check_shares", "check_shares", defArgs sChkS, defBody sChkS, defScope sChkS⟩,
  ⟨("check_gains", none), "check_gains", "check_gains", defArgs sChkG, defBody sChkG, defScope sChkG⟩,
  ⟨("times", none), "times", "times", defArgs sTimes, defBody sTimes, defScope sTimes⟩,
  ⟨("_law_left", none), "_law_left", "_law_left", defArgs sLeft, defBody sLeft, defScope sLeft⟩,
  ⟨("_law_digit", none), "_law_digit", "_law_digit", defArgs sDigit, defBody sDigit, defScope sDigit⟩,
  ⟨("_law_low", none), "_law_low", "_law_low", defArgs sLow, defBody sLow, defScope sLow⟩,
  ⟨("_law_parted", none), "_law_parted", "_law_parted", defArgs sParted, defBody sParted, defScope sParted⟩,
  ⟨("_law_gain", none), "_law_gain", "_law_gain", defArgs sGain, defBody sGain, defScope sGain⟩,
  ⟨("_law_gains", none), "_law_gains", "_law_gains", defArgs sGains, defBody sGains, defScope sGains⟩,
  ⟨("_law_parts", none), "_law_parts", "_law_parts", defArgs sParts, defBody sParts, defScope sParts⟩,
  ⟨("shown_ratio", none), "shown_ratio", "shown_ratio", defArgs sShR, defBody sShR, defScope sShR⟩,
  ⟨("ratio_of", none), "ratio_of", "ratio_of", defArgs sRatOf, defBody sRatOf, defScope sRatOf⟩,
  ⟨("is_figures", none), "is_figures", "is_figures", defArgs sFig, defBody sFig, defScope sFig⟩,
  ⟨("shown_row", none), "shown_row", "shown_row", defArgs sShRw, defBody sShRw, defScope sShRw⟩,
  ⟨("row_of", none), "row_of", "row_of", defArgs sRowOf, defBody sRowOf, defScope sRowOf⟩,
  ⟨("shown", none), "shown", "shown", defArgs sShown, defBody sShown, defScope sShown⟩,
  ⟨("read", none), "read", "read", defArgs sRead67, defBody sRead67, defScope sRead67⟩,
  ⟨("shown_rows", none), "shown_rows", "shown_rows", defArgs sShRws, defBody sShRws, defScope sShRws⟩,
  ⟨("rows_in", none), "rows_in", "rows_in", defArgs sRowsIn, defBody sRowsIn, defScope sRowsIn⟩,
  ⟨("_law_ratio_text", none), "_law_ratio_text", "_law_ratio_text", defArgs sLRatT, defBody sLRatT, defScope sLRatT⟩]
def fns1 : List He.FnD := [
  ⟨("_law_row_text", none), "_law_row_text", "_law_row_text", defArgs sLRowT, defBody sLRowT, defScope sLRowT⟩,
  ⟨("_law_rows_text", none), "_law_rows_text", "_law_rows_text", defArgs sLRowsT, defBody sLRowsT, defScope sLRowsT⟩,
  ⟨("_law_text", none), "_law_text", "_law_text", defArgs sLText, defBody sLText, defScope sLText⟩,
  ⟨("_law_right", none), "_law_right", "_law_right", defArgs sRight67, defBody sRight67, defScope sRight67⟩,
  ⟨("_law_great_so", none), "_law_great_so", "_law_great_so", defArgs sGso67, defBody sGso67, defScope sGso67⟩,
  ⟨("law", none), "law", "law", defArgs sLaw, defBody sLaw, defScope sLaw⟩,
  ⟨("NoCase", some "__init__"), "__init__", "NoCase.__init__", defArgs sNcInit, defBody sNcInit, defScope sNcInit⟩,
  ⟨("Case", some "__init__"), "__init__", "Case.__init__", defArgs sCInit, defBody sCInit, defScope sCInit⟩,
  ⟨("Case", some "__eq__"), "__eq__", "Case.__eq__", defArgs sCEq, defBody sCEq, defScope sCEq⟩,
  ⟨("Case", some "worlds"), "worlds", "Case.worlds", defArgs sCWorlds, defBody sCWorlds, defScope sCWorlds⟩,
  ⟨("Case", some "deeds"), "deeds", "Case.deeds", defArgs sCDeeds, defBody sCDeeds, defScope sCDeeds⟩,
  ⟨("Case", some "shares"), "shares", "Case.shares", defArgs sCShares, defBody sCShares, defScope sCShares⟩,
  ⟨("Case", some "hearer"), "hearer", "Case.hearer", defArgs sCHearer, defBody sCHearer, defScope sCHearer⟩,
  ⟨("Case", some "teller"), "teller", "Case.teller", defArgs sCTeller, defBody sCTeller, defScope sCTeller⟩]
def fns : List He.FnD := fns0 ++ (fns1)
def fds : List He.DefD := [⟨("total", none), "total", "total", defArgs sTotal, defBody sTotal, defScope sTotal, [.non], []⟩]
def nm0 : List PySem.Str := ["_wall", "__name__", "NoText", "NoCase", "is_whole", "is_ratio", "plus", "times", "total", "lowest", "divisor", "MOST_WORLDS", "MOST_DEEDS", "is_list_of", "is_share", "is_ratio_row", "wrong_row", "copied_rows", "Case", "check_shares", "check_gains", "shown_ratio", "ratio_of", "is_figures", "shown_row"]
def nm1 : List PySem.Str := ["row_of", "HEADS", "shown", "read", "shown_rows", "rows_in", "_law_left", "_law_digit", "_law_low", "_law_plus", "_law_times", "_law_sum", "_law_parted", "_law_gain", "_law_gains", "_law_parts", "_law_rows", "_law_ratio_text", "_law_row_text", "_law_rows_text", "_law_text", "_law_right", "_law_great_so"]
def names : List PySem.Str := nm0 ++ nm1
def as0 : List Addr := [3, 6, 4, 21, 38, 58, 68, 75, 82, 89, 97, 104, 111, 118, 125, 130, 137, 142, 229, 240, 247, 254, 261, 268, 273]
def as1 : List Addr := [278, 279, 284, 291, 296, 301, 308, 315, 322, 329, 336, 343, 348, 355, 360, 367, 372, 379, 384, 389, 396, 403, 410, 417, 0]
def as2 : List Addr := [20, 37, 57, 67, 74, 81, 88, 96, 90, 103, 110, 117, 124, 129, 136, 141, 228, 239, 246, 253, 260, 267, 272, 277, 283]
def as3 : List Addr := [290, 295, 300, 307, 314, 321, 328, 335, 342, 347, 354, 359, 366, 371, 378, 383, 388, 395, 402, 409, 416, 15, 16, 17, 18]
def as4 : List Addr := [19, 35, 36, 39, 55, 56, 59, 62, 63, 64, 65, 66, 69, 70, 71, 72, 73, 76, 77, 78, 79, 80, 83, 84, 85]
def as5 : List Addr := [86, 87, 91, 92, 93, 94, 95, 98, 99, 100, 101, 102, 105, 106, 107, 108, 109, 112, 113, 114, 115, 116, 119, 120, 121]
def as6 : List Addr := [122, 123, 126, 127, 128, 131, 132, 133, 134, 135, 138, 139, 140, 156, 163, 170, 177, 184, 191, 198, 205, 212, 219, 226, 227]
def as7 : List Addr := [230, 231, 234, 235, 236, 237, 238, 241, 242, 243, 244, 245, 248, 249, 250, 251, 252, 255, 256, 257, 258, 259, 262, 263, 264]
def as8 : List Addr := [265, 266, 269, 270, 271, 274, 275, 276, 280, 281, 282, 285, 286, 287, 288, 289, 292, 293, 294, 297, 298, 299, 302, 303, 304]
def as9 : List Addr := [305, 306, 309, 310, 311, 312, 313, 316, 317, 318, 319, 320, 323, 324, 325, 326, 327, 330, 331, 332, 333, 334, 337, 338, 339]
def as10 : List Addr := [340, 341, 344, 345, 346, 349, 350, 351, 352, 353, 356, 357, 358, 361, 362, 363, 364, 365, 368, 369, 370, 373, 374, 375, 376]
def as11 : List Addr := [377, 380, 381, 382, 385, 386, 387, 390, 391, 392, 393, 394, 397, 398, 399, 400, 401, 404, 405, 406, 407, 408, 411, 412, 413]
def as12 : List Addr := [414, 415, 34, 54, 155, 162, 169, 176, 183, 190, 197, 204, 211, 218, 225, 29, 30, 31, 32, 33, 49, 50, 51, 52, 53]
def as13 : List Addr := [150, 151, 152, 153, 154, 157, 158, 159, 160, 161, 164, 165, 166, 167, 168, 171, 172, 173, 174, 175, 178, 179, 180, 181, 182]
def as14 : List Addr := [185, 186, 187, 188, 189, 192, 193, 194, 195, 196, 199, 200, 201, 202, 203, 206, 207, 208, 209, 210, 213, 214, 215, 216, 217]
def as15 : List Addr := [220, 221, 222, 223, 224]
def as : List Addr := as0 ++ (as1 ++ (as2 ++ (as3 ++ (as4 ++ (as5 ++ (as6 ++ (as7 ++ (as8 ++ (as9 ++ (as10 ++ (as11 ++ (as12 ++ (as13 ++ (as14 ++ (as15)))))))))))))))
abbrev R : PySem.W.OpenRow := PySem.W.OpenLaw.row PySem.Challenge.rw_besttelling_k67_cases_written
abbrev hkx : PySem.W.Hook := Hk.hook as faa fns fds
def ob (s : PySem.W.SharedT) : Hk.Ao := Hk.seeG as faa fns fds (HandSHeadRun.getT s)
theorem ob_eq (s : PySem.W.SharedT) : ob s = hkx.obs s.abs := Hk.seeG_eq (HandSHeadRun.getT_eq s)
abbrev kf (s : PySem.W.SharedT) : PySem.W.Frag := He.frG (HandSHeadRun.getT s) as
abbrev qv : Program := PySem.W.view R.prog [54]
noncomputable abbrev Ev (w : World) (os : OsState) : Option PySem.W.SharedT := HandSHeadRun.endF (HandSHeadRun.stepQ (HandSHeadRun.denQ HandSHeadRun.tabQ) R.prog w) 12000 R.prog w os
set_option maxHeartbeats 0
theorem run_a (w : World) (os : OsState) : (Ev w os).map (fun s => HandSHeadRun.looksF R.prog (PySem.W.boot_heap w.params) s.abs) = some true := by
  kernel_rfl
theorem run_b (w : World) (os : OsState) : (Ev w os).map (fun s => HandSHeadRun.seenQ qv names (importedModules R.prog.main.body) (fun s => PySem.W.xlAt qv [] s && PySem.W.recOk R.toRowW.records s) s.abs) = some (PySem.W.openGood qv names) := by
  kernel_rfl
theorem run_f0 (w : World) (os : OsState) : (Ev w os).map (Hk.facB kf pk0) = some true := by
  kernel_rfl
theorem run_f1 (w : World) (os : OsState) : (Ev w os).map (Hk.facB kf pk1) = some true := by
  kernel_rfl
theorem run_d0 (w : World) (os : OsState) : (Ev w os).map (Hk.defB kf fns0) = some (fns0.map He.FnD.val) := by
  kernel_rfl
theorem run_d1 (w : World) (os : OsState) : (Ev w os).map (Hk.defB kf fns1) = some (fns1.map He.FnD.val) := by
  kernel_rfl
theorem run_e (w : World) (os : OsState) : (Ev w os).map (fun s => fds.map (fun d => He.fnW (kf s) d.at_)) = some (fds.map He.DefD.val) := by
  kernel_rfl
theorem run (w : World) : HandSHeadRun.RunEq R qv hkx ob 12000 names w := fun os => Hk.both (run_a w os) (Hk.both (run_b w os) (Hk.both (Hk.facs (run_f0 w os) (run_f1 w os)) (Hk.both (Hk.defs (run_d0 w os) (run_d1 w os)) (run_e w os))))
end K67
open PySem PySem.W PySem.Calls PyProof.Rows
set_option maxRecDepth 100000 in
set_option maxHeartbeats 0 in
theorem PySem.Challenge.cw_besttelling_k67_cases_written_holds : PySem.Challenge.rw_besttelling_k67_cases_written.Holds := by
  w_on; o_law
  refine HandSHeadRun.head_any (r := OpenLaw.row PySem.Challenge.rw_besttelling_k67_cases_written) (q := view (OpenLaw.row PySem.Challenge.rw_besttelling_k67_cases_written).prog [54]) (H := K67.hkx) (ob := K67.ob) (M := 12000) (loose := K67.names) (d := HandSHeadRun.topDef (OpenLaw.row PySem.Challenge.rw_besttelling_k67_cases_written).prog 54) (kwd := []) K67.ob_eq
    (by kernel_rfl) (fun s => by kernel_rfl) K67.run (by kernel_rfl) (by kernel_rfl) (by kernel_rfl) (by rfl) (by first | assumption | decide +kernel) (by decide +kernel) ⟨rfl, rfl, rfl, rfl, rfl, by decide +kernel⟩ ?hw ?hc
  case hw => w_witness2
  case hc =>
    refine Hk.walk_ofEG (l := PySem.Challenge.rw_besttelling_k67_cases_written) (n := 63) (k := 15) (x := "_law_script") (CX := L2.CX0) rfl (by decide) (by kernel_rfl) ⟨rfl, by decide, by decide⟩ ?F (fun _ _ _ _ z => z)
    intro w mg fa h Y G hmg0
    obtain ⟨K, KX, c⟩ := Y
    have hmg : mg ("law" : PySem.Str) = some (.ref fa) := by
      have e : (HandSHeadRun.topDef (OpenLaw.row PySem.Challenge.rw_besttelling_k67_cases_written).prog 54).name = ("law" : PySem.Str) := by kernel_rfl
      rw [← e]
      exact hmg0
    obtain ⟨oc_d_is_whole, od_d_is_whole, sl_d_is_whole, kV_d_is_whole, dc_d_is_whole, pm_d_is_whole, an_d_is_whole, cd_d_is_whole, ct_d_is_whole, l_d_is_whole, c_d_is_whole⟩ := c.fnAt 0 rfl (c.fact 0 0 rfl rfl)
    obtain ⟨oc_d_is_ratio, od_d_is_ratio, sl_d_is_ratio, kV_d_is_ratio, dc_d_is_ratio, pm_d_is_ratio, an_d_is_ratio, cd_d_is_ratio, ct_d_is_ratio, l_d_is_ratio, c_d_is_ratio⟩ := c.fnAt 1 rfl (c.fact 0 1 rfl rfl)
    obtain ⟨oc_d_plus, od_d_plus, sl_d_plus, kV_d_plus, dc_d_plus, pm_d_plus, an_d_plus, cd_d_plus, ct_d_plus, l_d_plus, c_d_plus⟩ := c.fnAt 2 rfl (c.fact 0 2 rfl rfl)
    obtain ⟨oc_d_lowest, od_d_lowest, sl_d_lowest, kV_d_lowest, dc_d_lowest, pm_d_lowest, an_d_lowest, cd_d_lowest, ct_d_lowest, l_d_lowest, c_d_lowest⟩ := c.fnAt 3 rfl (c.fact 0 3 rfl rfl)
    obtain ⟨oc_d_divisor, od_d_divisor, sl_d_divisor, kV_d_divisor, dc_d_divisor, pm_d_divisor, an_d_divisor, cd_d_divisor, ct_d_divisor, l_d_divisor, c_d_divisor⟩ := c.fnAt 4 rfl (c.fact 0 4 rfl rfl)
    obtain ⟨oc_d_is_list_of, od_d_is_list_of, sl_d_is_list_of, kV_d_is_list_of, dc_d_is_list_of, pm_d_is_list_of, an_d_is_list_of, cd_d_is_list_of, ct_d_is_list_of, l_d_is_list_of, c_d_is_list_of⟩ := c.fnAt 5 rfl (c.fact 0 5 rfl rfl)
    obtain ⟨oc_d_is_share, od_d_is_share, sl_d_is_share, kV_d_is_share, dc_d_is_share, pm_d_is_share, an_d_is_share, cd_d_is_share, ct_d_is_share, l_d_is_share, c_d_is_share⟩ := c.fnAt 6 rfl (c.fact 0 6 rfl rfl)
    obtain ⟨oc_d_is_ratio_row, od_d_is_ratio_row, sl_d_is_ratio_row, kV_d_is_ratio_row, dc_d_is_ratio_row, pm_d_is_ratio_row, an_d_is_ratio_row, cd_d_is_ratio_row, ct_d_is_ratio_row, l_d_is_ratio_row, c_d_is_ratio_row⟩ := c.fnAt 7 rfl (c.fact 0 7 rfl rfl)
    obtain ⟨oc_d_wrong_row, od_d_wrong_row, sl_d_wrong_row, kV_d_wrong_row, dc_d_wrong_row, pm_d_wrong_row, an_d_wrong_row, cd_d_wrong_row, ct_d_wrong_row, l_d_wrong_row, c_d_wrong_row⟩ := c.fnAt 8 rfl (c.fact 0 8 rfl rfl)
    obtain ⟨oc_d_copied_rows, od_d_copied_rows, sl_d_copied_rows, kV_d_copied_rows, dc_d_copied_rows, pm_d_copied_rows, an_d_copied_rows, cd_d_copied_rows, ct_d_copied_rows, l_d_copied_rows, c_d_copied_rows⟩ := c.fnAt 9 rfl (c.fact 0 9 rfl rfl)
    obtain ⟨oc_d_check_shares, od_d_check_shares, sl_d_check_shares, kV_d_check_shares, dc_d_check_shares, pm_d_check_shares, an_d_check_shares, cd_d_check_shares, ct_d_check_shares, l_d_check_shares, c_d_check_shares⟩ := c.fnAt 10 rfl (c.fact 0 10 rfl rfl)
    obtain ⟨oc_d_check_gains, od_d_check_gains, sl_d_check_gains, kV_d_check_gains, dc_d_check_gains, pm_d_check_gains, an_d_check_gains, cd_d_check_gains, ct_d_check_gains, l_d_check_gains, c_d_check_gains⟩ := c.fnAt 11 rfl (c.fact 0 11 rfl rfl)
    obtain ⟨oc_d_times, od_d_times, sl_d_times, kV_d_times, dc_d_times, pm_d_times, an_d_times, cd_d_times, ct_d_times, l_d_times, c_d_times⟩ := c.fnAt 12 rfl (c.fact 0 12 rfl rfl)
    obtain ⟨oc_d_law_left, od_d_law_left, sl_d_law_left, kV_d_law_left, dc_d_law_left, pm_d_law_left, an_d_law_left, cd_d_law_left, ct_d_law_left, l_d_law_left, c_d_law_left⟩ := c.fnAt 13 rfl (c.fact 0 13 rfl rfl)
    obtain ⟨oc_d_law_digit, od_d_law_digit, sl_d_law_digit, kV_d_law_digit, dc_d_law_digit, pm_d_law_digit, an_d_law_digit, cd_d_law_digit, ct_d_law_digit, l_d_law_digit, c_d_law_digit⟩ := c.fnAt 14 rfl (c.fact 0 14 rfl rfl)
    obtain ⟨oc_d_law_low, od_d_law_low, sl_d_law_low, kV_d_law_low, dc_d_law_low, pm_d_law_low, an_d_law_low, cd_d_law_low, ct_d_law_low, l_d_law_low, c_d_law_low⟩ := c.fnAt 15 rfl (c.fact 0 15 rfl rfl)
    obtain ⟨oc_d_law_parted, od_d_law_parted, sl_d_law_parted, kV_d_law_parted, dc_d_law_parted, pm_d_law_parted, an_d_law_parted, cd_d_law_parted, ct_d_law_parted, l_d_law_parted, c_d_law_parted⟩ := c.fnAt 16 rfl (c.fact 1 0 rfl rfl)
    obtain ⟨oc_d_law_gain, od_d_law_gain, sl_d_law_gain, kV_d_law_gain, dc_d_law_gain, pm_d_law_gain, an_d_law_gain, cd_d_law_gain, ct_d_law_gain, l_d_law_gain, c_d_law_gain⟩ := c.fnAt 17 rfl (c.fact 1 1 rfl rfl)
    obtain ⟨oc_d_law_gains, od_d_law_gains, sl_d_law_gains, kV_d_law_gains, dc_d_law_gains, pm_d_law_gains, an_d_law_gains, cd_d_law_gains, ct_d_law_gains, l_d_law_gains, c_d_law_gains⟩ := c.fnAt 18 rfl (c.fact 1 2 rfl rfl)
    obtain ⟨oc_d_law_parts, od_d_law_parts, sl_d_law_parts, kV_d_law_parts, dc_d_law_parts, pm_d_law_parts, an_d_law_parts, cd_d_law_parts, ct_d_law_parts, l_d_law_parts, c_d_law_parts⟩ := c.fnAt 19 rfl (c.fact 1 3 rfl rfl)
    obtain ⟨oc_d_shown_ratio, od_d_shown_ratio, sl_d_shown_ratio, kV_d_shown_ratio, dc_d_shown_ratio, pm_d_shown_ratio, an_d_shown_ratio, cd_d_shown_ratio, ct_d_shown_ratio, l_d_shown_ratio, c_d_shown_ratio⟩ := c.fnAt 20 rfl (c.fact 1 4 rfl rfl)
    obtain ⟨oc_d_ratio_of, od_d_ratio_of, sl_d_ratio_of, kV_d_ratio_of, dc_d_ratio_of, pm_d_ratio_of, an_d_ratio_of, cd_d_ratio_of, ct_d_ratio_of, l_d_ratio_of, c_d_ratio_of⟩ := c.fnAt 21 rfl (c.fact 1 5 rfl rfl)
    obtain ⟨oc_d_is_figures, od_d_is_figures, sl_d_is_figures, kV_d_is_figures, dc_d_is_figures, pm_d_is_figures, an_d_is_figures, cd_d_is_figures, ct_d_is_figures, l_d_is_figures, c_d_is_figures⟩ := c.fnAt 22 rfl (c.fact 1 6 rfl rfl)
    obtain ⟨oc_d_shown_row, od_d_shown_row, sl_d_shown_row, kV_d_shown_row, dc_d_shown_row, pm_d_shown_row, an_d_shown_row, cd_d_shown_row, ct_d_shown_row, l_d_shown_row, c_d_shown_row⟩ := c.fnAt 23 rfl (c.fact 1 7 rfl rfl)
    obtain ⟨oc_d_row_of, od_d_row_of, sl_d_row_of, kV_d_row_of, dc_d_row_of, pm_d_row_of, an_d_row_of, cd_d_row_of, ct_d_row_of, l_d_row_of, c_d_row_of⟩ := c.fnAt 24 rfl (c.fact 1 8 rfl rfl)
    obtain ⟨oc_d_shown, od_d_shown, sl_d_shown, kV_d_shown, dc_d_shown, pm_d_shown, an_d_shown, cd_d_shown, ct_d_shown, l_d_shown, c_d_shown⟩ := c.fnAt 25 rfl (c.fact 1 9 rfl rfl)
    obtain ⟨oc_d_read, od_d_read, sl_d_read, kV_d_read, dc_d_read, pm_d_read, an_d_read, cd_d_read, ct_d_read, l_d_read, c_d_read⟩ := c.fnAt 26 rfl (c.fact 1 10 rfl rfl)
    obtain ⟨oc_d_shown_rows, od_d_shown_rows, sl_d_shown_rows, kV_d_shown_rows, dc_d_shown_rows, pm_d_shown_rows, an_d_shown_rows, cd_d_shown_rows, ct_d_shown_rows, l_d_shown_rows, c_d_shown_rows⟩ := c.fnAt 27 rfl (c.fact 1 11 rfl rfl)
    obtain ⟨oc_d_rows_in, od_d_rows_in, sl_d_rows_in, kV_d_rows_in, dc_d_rows_in, pm_d_rows_in, an_d_rows_in, cd_d_rows_in, ct_d_rows_in, l_d_rows_in, c_d_rows_in⟩ := c.fnAt 28 rfl (c.fact 1 12 rfl rfl)
    obtain ⟨oc_d_law_ratio_text, od_d_law_ratio_text, sl_d_law_ratio_text, kV_d_law_ratio_text, dc_d_law_ratio_text, pm_d_law_ratio_text, an_d_law_ratio_text, cd_d_law_ratio_text, ct_d_law_ratio_text, l_d_law_ratio_text, c_d_law_ratio_text⟩ := c.fnAt 29 rfl (c.fact 1 13 rfl rfl)
    obtain ⟨oc_d_law_row_text, od_d_law_row_text, sl_d_law_row_text, kV_d_law_row_text, dc_d_law_row_text, pm_d_law_row_text, an_d_law_row_text, cd_d_law_row_text, ct_d_law_row_text, l_d_law_row_text, c_d_law_row_text⟩ := c.fnAt 30 rfl (c.fact 1 14 rfl rfl)
    obtain ⟨oc_d_law_rows_text, od_d_law_rows_text, sl_d_law_rows_text, kV_d_law_rows_text, dc_d_law_rows_text, pm_d_law_rows_text, an_d_law_rows_text, cd_d_law_rows_text, ct_d_law_rows_text, l_d_law_rows_text, c_d_law_rows_text⟩ := c.fnAt 31 rfl (c.fact 1 15 rfl rfl)
    obtain ⟨oc_d_law_text, od_d_law_text, sl_d_law_text, kV_d_law_text, dc_d_law_text, pm_d_law_text, an_d_law_text, cd_d_law_text, ct_d_law_text, l_d_law_text, c_d_law_text⟩ := c.fnAt 32 rfl (c.fact 2 0 rfl rfl)
    obtain ⟨oc_d_law_right, od_d_law_right, sl_d_law_right, kV_d_law_right, dc_d_law_right, pm_d_law_right, an_d_law_right, cd_d_law_right, ct_d_law_right, l_d_law_right, c_d_law_right⟩ := c.fnAt 33 rfl (c.fact 2 1 rfl rfl)
    obtain ⟨oc_d_law_great_so, od_d_law_great_so, sl_d_law_great_so, kV_d_law_great_so, dc_d_law_great_so, pm_d_law_great_so, an_d_law_great_so, cd_d_law_great_so, ct_d_law_great_so, l_d_law_great_so, c_d_law_great_so⟩ := c.fnAt 34 rfl (c.fact 2 2 rfl rfl)
    obtain ⟨oc_d_law, od_d_law, sl_d_law, kV_d_law, dc_d_law, pm_d_law, an_d_law, cd_d_law, ct_d_law, l_d_law, c_d_law⟩ := c.fnAt 35 rfl (c.fact 2 3 rfl rfl)
    obtain ⟨oc_i_N, od_i_N, sl_i_N, kV_i_N, dc_i_N, pm_i_N, an_i_N, cd_i_N, ct_i_N, l_i_N, c_i_N⟩ := c.fnAt 36 rfl (c.fact 2 4 rfl rfl)
    obtain ⟨oc_m_C_init, od_m_C_init, sl_m_C_init, kV_m_C_init, dc_m_C_init, pm_m_C_init, an_m_C_init, cd_m_C_init, ct_m_C_init, l_m_C_init, c_m_C_init⟩ := c.fnAt 37 rfl (c.fact 2 5 rfl rfl)
    obtain ⟨oc_m_C_eq, od_m_C_eq, sl_m_C_eq, kV_m_C_eq, dc_m_C_eq, pm_m_C_eq, an_m_C_eq, cd_m_C_eq, ct_m_C_eq, l_m_C_eq, c_m_C_eq⟩ := c.fnAt 38 rfl (c.fact 2 6 rfl rfl)
    obtain ⟨oc_m_C_worlds, od_m_C_worlds, sl_m_C_worlds, kV_m_C_worlds, dc_m_C_worlds, pm_m_C_worlds, an_m_C_worlds, cd_m_C_worlds, ct_m_C_worlds, l_m_C_worlds, c_m_C_worlds⟩ := c.fnAt 39 rfl (c.fact 2 7 rfl rfl)
    obtain ⟨oc_m_C_deeds, od_m_C_deeds, sl_m_C_deeds, kV_m_C_deeds, dc_m_C_deeds, pm_m_C_deeds, an_m_C_deeds, cd_m_C_deeds, ct_m_C_deeds, l_m_C_deeds, c_m_C_deeds⟩ := c.fnAt 40 rfl (c.fact 2 8 rfl rfl)
    obtain ⟨oc_m_C_shares, od_m_C_shares, sl_m_C_shares, kV_m_C_shares, dc_m_C_shares, pm_m_C_shares, an_m_C_shares, cd_m_C_shares, ct_m_C_shares, l_m_C_shares, c_m_C_shares⟩ := c.fnAt 41 rfl (c.fact 2 9 rfl rfl)
    obtain ⟨oc_m_C_hearer, od_m_C_hearer, sl_m_C_hearer, kV_m_C_hearer, dc_m_C_hearer, pm_m_C_hearer, an_m_C_hearer, cd_m_C_hearer, ct_m_C_hearer, l_m_C_hearer, c_m_C_hearer⟩ := c.fnAt 42 rfl (c.fact 2 10 rfl rfl)
    obtain ⟨oc_m_C_teller, od_m_C_teller, sl_m_C_teller, kV_m_C_teller, dc_m_C_teller, pm_m_C_teller, an_m_C_teller, cd_m_C_teller, ct_m_C_teller, l_m_C_teller, c_m_C_teller⟩ := c.fnAt 43 rfl (c.fact 2 11 rfl rfl)
    obtain ⟨fd_d_total, FD_d_total⟩ := c.fdAt 0 rfl (c.fact 2 12 rfl rfl)
    obtain ⟨nm_N, q_N, N_N, bs_N, sn_N, su_N, ab_N, co_N, dd_N, m0_N, m1_N, m2_N, m3_N, m5_N, xC_N⟩ := Hk.clsT (c.fact 2 13 rfl rfl)
    obtain ⟨nm_C, q_C, bs_C, hc_C, sn_C, su_C, ab_C, co_C, dd_C, m0_C, m1_C, m2_C, m3_C, m5_C, xC_C, _⟩ := Hk.clsB_ok (c.fact 2 14 rfl rfl)
    obtain ⟨tk_5, g5_⟩ := Hk.intB_ok (c.fact 2 15 rfl rfl)
    obtain ⟨tk_6, g6_⟩ := Hk.intB_ok (c.fact 3 0 rfl rfl)
    obtain ⟨fd, hb, hF⟩ := K67.all_mk (l := PySem.Challenge.rw_besttelling_k67_cases_written) (w := w) KX G hmg
      (of_decide_eq_true (c.fact 3 2 rfl rfl))
      l_d_is_whole
      c_d_is_whole
      (of_decide_eq_true (c.fact 3 3 rfl rfl))
      (of_decide_eq_true (c.fact 3 4 rfl rfl))
      l_d_is_ratio
      c_d_is_ratio
      (of_decide_eq_true (c.fact 3 5 rfl rfl))
      (of_decide_eq_true (c.fact 3 6 rfl rfl))
      l_d_plus
      c_d_plus
      (of_decide_eq_true (c.fact 3 7 rfl rfl))
      (of_decide_eq_true (c.fact 3 8 rfl rfl))
      l_d_lowest
      c_d_lowest
      (of_decide_eq_true (c.fact 3 9 rfl rfl))
      (of_decide_eq_true (c.fact 3 10 rfl rfl))
      l_d_divisor
      c_d_divisor
      (of_decide_eq_true (c.fact 3 11 rfl rfl))
      (of_decide_eq_true (c.fact 3 12 rfl rfl))
      l_d_is_list_of
      c_d_is_list_of
      (of_decide_eq_true (c.fact 3 13 rfl rfl))
      (of_decide_eq_true (c.fact 3 14 rfl rfl))
      l_d_is_share
      c_d_is_share
      (of_decide_eq_true (c.fact 3 15 rfl rfl))
      (of_decide_eq_true (c.fact 4 0 rfl rfl))
      l_d_is_ratio_row
      c_d_is_ratio_row
      (of_decide_eq_true (c.fact 4 1 rfl rfl))
      (of_decide_eq_true (c.fact 4 2 rfl rfl))
      l_d_wrong_row
      c_d_wrong_row
      (of_decide_eq_true (c.fact 4 3 rfl rfl))
      (of_decide_eq_true (c.fact 4 4 rfl rfl))
      l_d_copied_rows
      c_d_copied_rows
      (of_decide_eq_true (c.fact 4 5 rfl rfl))
      (of_decide_eq_true (c.fact 4 6 rfl rfl))
      l_d_check_shares
      c_d_check_shares
      (of_decide_eq_true (c.fact 4 7 rfl rfl))
      (of_decide_eq_true (c.fact 4 8 rfl rfl))
      l_d_check_gains
      c_d_check_gains
      (of_decide_eq_true (c.fact 4 9 rfl rfl))
      (of_decide_eq_true (c.fact 4 10 rfl rfl))
      l_d_times
      c_d_times
      (of_decide_eq_true (c.fact 4 11 rfl rfl))
      (of_decide_eq_true (c.fact 4 12 rfl rfl))
      l_d_law_left
      c_d_law_left
      (of_decide_eq_true (c.fact 4 13 rfl rfl))
      (of_decide_eq_true (c.fact 4 14 rfl rfl))
      l_d_law_digit
      c_d_law_digit
      (of_decide_eq_true (c.fact 4 15 rfl rfl))
      (of_decide_eq_true (c.fact 5 0 rfl rfl))
      l_d_law_low
      c_d_law_low
      (of_decide_eq_true (c.fact 5 1 rfl rfl))
      (of_decide_eq_true (c.fact 5 2 rfl rfl))
      l_d_law_parted
      c_d_law_parted
      (of_decide_eq_true (c.fact 5 3 rfl rfl))
      (of_decide_eq_true (c.fact 5 4 rfl rfl))
      l_d_law_gain
      c_d_law_gain
      (of_decide_eq_true (c.fact 5 5 rfl rfl))
      (of_decide_eq_true (c.fact 5 6 rfl rfl))
      l_d_law_gains
      c_d_law_gains
      (of_decide_eq_true (c.fact 5 7 rfl rfl))
      (of_decide_eq_true (c.fact 5 8 rfl rfl))
      l_d_law_parts
      c_d_law_parts
      (of_decide_eq_true (c.fact 5 9 rfl rfl))
      (of_decide_eq_true (c.fact 5 10 rfl rfl))
      l_d_shown_ratio
      c_d_shown_ratio
      (of_decide_eq_true (c.fact 5 11 rfl rfl))
      (of_decide_eq_true (c.fact 5 12 rfl rfl))
      l_d_ratio_of
      c_d_ratio_of
      (of_decide_eq_true (c.fact 5 13 rfl rfl))
      (of_decide_eq_true (c.fact 5 14 rfl rfl))
      l_d_is_figures
      c_d_is_figures
      (of_decide_eq_true (c.fact 5 15 rfl rfl))
      (of_decide_eq_true (c.fact 6 0 rfl rfl))
      l_d_shown_row
      c_d_shown_row
      (of_decide_eq_true (c.fact 6 1 rfl rfl))
      (of_decide_eq_true (c.fact 6 2 rfl rfl))
      l_d_row_of
      c_d_row_of
      (of_decide_eq_true (c.fact 6 3 rfl rfl))
      (of_decide_eq_true (c.fact 6 4 rfl rfl))
      l_d_shown
      c_d_shown
      (of_decide_eq_true (c.fact 6 5 rfl rfl))
      (of_decide_eq_true (c.fact 6 6 rfl rfl))
      l_d_read
      c_d_read
      (of_decide_eq_true (c.fact 6 7 rfl rfl))
      (of_decide_eq_true (c.fact 6 8 rfl rfl))
      l_d_shown_rows
      c_d_shown_rows
      (of_decide_eq_true (c.fact 6 9 rfl rfl))
      (of_decide_eq_true (c.fact 6 10 rfl rfl))
      l_d_rows_in
      c_d_rows_in
      (of_decide_eq_true (c.fact 6 11 rfl rfl))
      (of_decide_eq_true (c.fact 6 12 rfl rfl))
      l_d_law_ratio_text
      c_d_law_ratio_text
      (of_decide_eq_true (c.fact 6 13 rfl rfl))
      (of_decide_eq_true (c.fact 6 14 rfl rfl))
      l_d_law_row_text
      c_d_law_row_text
      (of_decide_eq_true (c.fact 6 15 rfl rfl))
      (of_decide_eq_true (c.fact 7 0 rfl rfl))
      l_d_law_rows_text
      c_d_law_rows_text
      (of_decide_eq_true (c.fact 7 1 rfl rfl))
      (of_decide_eq_true (c.fact 7 2 rfl rfl))
      l_d_law_text
      c_d_law_text
      (of_decide_eq_true (c.fact 7 3 rfl rfl))
      (of_decide_eq_true (c.fact 7 4 rfl rfl))
      l_d_law_right
      c_d_law_right
      (of_decide_eq_true (c.fact 7 5 rfl rfl))
      (of_decide_eq_true (c.fact 7 6 rfl rfl))
      l_d_law_great_so
      c_d_law_great_so
      (of_decide_eq_true (c.fact 7 7 rfl rfl))
      (of_decide_eq_true (c.fact 7 8 rfl rfl))
      l_d_law
      c_d_law
      (of_decide_eq_true (c.fact 7 9 rfl rfl))
      (of_decide_eq_true (c.fact 7 10 rfl rfl))
      FD_d_total
      (of_decide_eq_true (c.fact 7 11 rfl rfl))
      xC_N
      (of_decide_eq_true (c.fact 7 12 rfl rfl))
      (of_decide_eq_true (c.fact 7 13 rfl rfl))
      (of_decide_eq_true (c.fact 7 14 rfl rfl))
      (of_decide_eq_true (c.fact 7 15 rfl rfl))
      (of_decide_eq_true (c.fact 8 0 rfl rfl))
      (of_decide_eq_true (c.fact 8 1 rfl rfl))
      (of_decide_eq_true (c.fact 8 2 rfl rfl))
      (of_decide_eq_true (c.fact 8 3 rfl rfl))
      (of_decide_eq_true (c.fact 8 4 rfl rfl))
      (by first | rfl | decide +kernel)
      (by first | rfl | decide +kernel)
      (by first | rfl | decide +kernel)
      (of_decide_eq_true (c.fact 8 5 rfl rfl))
      (of_decide_eq_true (c.fact 8 6 rfl rfl))
      l_i_N
      c_i_N
      (of_decide_eq_true (c.fact 8 7 rfl rfl))
      (of_decide_eq_true (c.fact 8 8 rfl rfl))
      (of_decide_eq_true (c.fact 8 9 rfl rfl))
      (of_decide_eq_true (c.fact 8 10 rfl rfl))
      (of_decide_eq_true (c.fact 8 11 rfl rfl))
      (of_decide_eq_true (c.fact 8 12 rfl rfl))
      (of_decide_eq_true (c.fact 8 13 rfl rfl))
      (of_decide_eq_true (c.fact 8 14 rfl rfl))
      (of_decide_eq_true (c.fact 8 15 rfl rfl))
      (of_decide_eq_true (c.fact 9 0 rfl rfl))
      (of_decide_eq_true (c.fact 9 1 rfl rfl))
      (of_decide_eq_true (c.fact 9 2 rfl rfl))
      xC_C
      (of_decide_eq_true (c.fact 9 3 rfl rfl))
      (of_decide_eq_true (c.fact 9 4 rfl rfl))
      (of_decide_eq_true (c.fact 9 5 rfl rfl))
      (of_decide_eq_true (c.fact 9 6 rfl rfl))
      (of_decide_eq_true (c.fact 9 7 rfl rfl))
      (of_decide_eq_true (c.fact 9 8 rfl rfl))
      (of_decide_eq_true (c.fact 9 9 rfl rfl))
      l_m_C_init
      c_m_C_init
      (of_decide_eq_true (c.fact 9 10 rfl rfl))
      (of_decide_eq_true (c.fact 9 11 rfl rfl))
      (of_decide_eq_true (c.fact 9 12 rfl rfl))
      (of_decide_eq_true (c.fact 9 13 rfl rfl))
      g5_
      g6_
      (of_decide_eq_true (c.fact 9 14 rfl rfl))
      (of_decide_eq_true (c.fact 9 15 rfl rfl))
      l_m_C_eq
      c_m_C_eq
      (of_decide_eq_true (c.fact 10 0 rfl rfl))
      (of_decide_eq_true (c.fact 10 1 rfl rfl))
      (Hk.tyB_ok (c.fact 3 1 rfl rfl) l_m_C_eq)
      (of_decide_eq_true (c.fact 10 2 rfl rfl))
      (of_decide_eq_true (c.fact 10 3 rfl rfl))
      l_m_C_worlds
      c_m_C_worlds
      (of_decide_eq_true (c.fact 10 4 rfl rfl))
      (of_decide_eq_true (c.fact 10 5 rfl rfl))
      (of_decide_eq_true (c.fact 10 6 rfl rfl))
      l_m_C_deeds
      c_m_C_deeds
      (of_decide_eq_true (c.fact 10 7 rfl rfl))
      (of_decide_eq_true (c.fact 10 8 rfl rfl))
      (of_decide_eq_true (c.fact 10 9 rfl rfl))
      l_m_C_shares
      c_m_C_shares
      (of_decide_eq_true (c.fact 10 10 rfl rfl))
      (of_decide_eq_true (c.fact 10 11 rfl rfl))
      (of_decide_eq_true (c.fact 10 12 rfl rfl))
      l_m_C_hearer
      c_m_C_hearer
      (of_decide_eq_true (c.fact 10 13 rfl rfl))
      (of_decide_eq_true (c.fact 10 14 rfl rfl))
      (of_decide_eq_true (c.fact 10 15 rfl rfl))
      l_m_C_teller
      c_m_C_teller
      (of_decide_eq_true (c.fact 11 0 rfl rfl))
      (of_decide_eq_true (c.fact 11 1 rfl rfl))
      (of_decide_eq_true (c.fact 11 2 rfl rfl))
      (of_decide_eq_true (c.fact 11 3 rfl rfl))
      (of_decide_eq_true (c.fact 11 4 rfl rfl))
      (of_decide_eq_true (c.fact 11 5 rfl rfl))
      (of_decide_eq_true (c.fact 11 6 rfl rfl))
      (of_decide_eq_true (c.fact 11 7 rfl rfl))
      (of_decide_eq_true (c.fact 11 8 rfl rfl))
      (of_decide_eq_true (c.fact 11 9 rfl rfl))
      (of_decide_eq_true (c.fact 11 10 rfl rfl))
      (of_decide_eq_true (c.fact 11 11 rfl rfl))
      (of_decide_eq_true (c.fact 11 12 rfl rfl))
      (of_decide_eq_true (c.fact 11 13 rfl rfl))
      (of_decide_eq_true (c.fact 11 14 rfl rfl))
      (of_decide_eq_true (c.fact 11 15 rfl rfl))
      (of_decide_eq_true (c.fact 12 0 rfl rfl))
      (of_decide_eq_true (c.fact 12 1 rfl rfl))
      (of_decide_eq_true (c.fact 12 2 rfl rfl))
      (of_decide_eq_true (c.fact 12 3 rfl rfl))
      (of_decide_eq_true (c.fact 12 4 rfl rfl))
      (of_decide_eq_true (c.fact 12 5 rfl rfl))
      (of_decide_eq_true (c.fact 12 6 rfl rfl))
      (of_decide_eq_true (c.fact 12 7 rfl rfl))
      (of_decide_eq_true (c.fact 12 8 rfl rfl))
      (of_decide_eq_true (c.fact 12 9 rfl rfl))
      (of_decide_eq_true (c.fact 12 10 rfl rfl))
      (of_decide_eq_true (c.fact 12 11 rfl rfl))
      (of_decide_eq_true (c.fact 12 12 rfl rfl))
    exact ⟨K, fd, K67.spLaw K, KX, hb, fun H a ns hl _ hS => ⟨a, ns, rfl, hS, hl, fun _ => rfl⟩, hF⟩
