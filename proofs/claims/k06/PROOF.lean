import PyProof.Rows.All
import Wide.All
import OpenK.AllK
import Wide.FinOn
import HandS.Base
import HandS.Call
import HandS.List
import HandS.Ends
import HandS.Words
import HandS.Exc
import HandS.ExcOwn
import HandS.ExcInit
import HandS.ExcField
import HandS.ExcIs
import HandS.WordsExc
import HandS.TryOnly
import HandS.TryMany
import KE.KExcIs
import PyProof.ReprRoads
import HandS.Wide
import HandS.IsInst
import HandS.Defaults
import HandS.Style
import HandS.Comp
import HandS.Flow
import HandS.Iter
import HandS.Zip
import HandS.CallLocal
import HandS.Dict
import HandS.Walk
import HandS.MakeKw
import HandS.Deep
import PyProof.InstNe
import PyProof.InstEq
import HandS.OwnEq
import PyProof.TupleOfSeq
import PyProof.Rows.SortWalk
import HandS.ExcValue
import HandS.FStr
import KE.KCallOwn
import PyProof.FitsInt
import HandS.Text
import HandS.Codes
import KE.KStateDown
import HandS.HeadEnd
import HandS.HeadHook1
import HandS.HeadHook2
import HandS.Head0
import HandS.Head1
import HandS.Head2
import PySem.Challenge.RW_besttelling_k06_cases_told
set_option Elab.async false
set_option linter.all false
set_option maxRecDepth 100000
set_option maxHeartbeats 4000000
namespace BX
open PySem PySem.Spec PyProof.Rows L2
/-! ### several clauses «except x as n» -/
structure Clause where
  cls : Value
  slot : Nat
  ts : Addr → Value → Option Addr → TS
def wClauses (K : PySem.W.Frag) (Wout : WX) (D : Ends) : List Clause → WX
  | [] => Wout
  | c :: r => wAs K c.cls c.slot c.ts (wClauses K Wout D r) D
inductive ClausesOk (X : Cx) : List ExceptHandler → List Clause → Prop
  | nil : ClausesOk X [] []
  | cons {x n : Str} {c : Value} {i : Nat} {ts : Addr → Value → Option Addr → TS} {b₀ : Stmt} {suite : List Stmt} {np pos' : Pos} {hds : List ExceptHandler} {l : List Clause} (hi : X.N[i]? = some n) (hln : X.env.kindOf n = some .local) (hc : Names X x c)
      (hsu : ∀ (a : Addr) (oe : Obj) (cls : Value) (d : Option Addr) (pn : List (Addr × Obj)), Zc cls d oe → (∃ vs, oe.data = .fields vs) → PSs (X.suite a ((a, oe) :: pn)) (b₀ :: suite) (ts a cls d)) (r : ClausesOk X hds l) :
      ClausesOk X (.ExceptHandler (some (.Name x np)) (some n) (b₀ :: suite) pos' :: hds) (⟨c, i, ts⟩ :: l)
section
variable {X : Cx} {body : List Stmt} {h₀ : ExceptHandler} {hds : List ExceptHandler} {l : List Clause} {pos : Pos} {tb : WX → TS} {Wout : WX}
theorem ps_try_clauses (hs : X.stack = X.env :: X.outer) (hf : X.env.frame = some X.env.locals) (hN : X.N.Nodup) (tk : Takes X Wout)
    (hb : ∀ (W : WX) (pn : List (Addr × Obj)) (xe : Value → Shared → Prop), Takes (X.tr pn xe) W → PassesOwn (model X.prog X.w) X.A X.env xe → PSs (X.tr pn xe) body (tb W))
    (hh : ClausesOk X (h₀ :: hds) l) : PS X (.Try body (h₀ :: hds) [] [] pos) (fun D σ H => tb (wClauses X.K Wout D l) D σ H) := by
  refine ⟨fun pins s σ H D I h => ?_⟩
  have ok := I.ok
  have hfr : X.A.frames = some (X.env :: X.outer) := by rw [ok.frames, hs]
  refine wpAny_Try_except ?_
  refine wpAny_mono ((hb (wClauses X.K Wout D l) (X.pn ++ pins) (fun e s₁ => wpAny (model X.prog X.w) X.A (noteFrame e X.env) (fun _ s₂ => wpAny (model X.prog X.w) X.A (setFlight e none) (fun _ s₃ =>
    wpAny (model X.prog X.w) X.A (handleBy e X.env (h₀ :: hds)) (SP X pins D) X.xe s₃) X.xe s₂) X.xe s₁) (fun u s' xx => ?_) PassesOwn.looking).run [] s σ H D (I.toTry _) h) (fun f s1 hsp => ?_) (fun e s1 he => he)
  · obtain ⟨a, B, sI, pins', σ', H', cls, d, rfl, J', nb, up, sky, na, os, ag, ww⟩ := xx
    have J : Inv X pins σ' H' sI := J'.ofTry ok
    have sky' : Sky B (X.env :: X.outer) a (Zc cls d) X.env.locals s'.heap := by rw [← hs]; exact sky
    show wpAny (model X.prog X.w) X.A (noteFrame (.ref a) X.env) _ _ _
    refine Sky.land Zc.steady hfr hf sky' fun h3 fl3 up3 => ?_
    have J3 : Inv X pins σ' H' { s' with heap := h3 } := J.landed nb fl3.1 (up.trans up3) os ag
    obtain ⟨oe3, vs3, he3, hz3, hd3⟩ := fl3.there
    have nfr : a ∉ frs (X.env :: X.outer) := fun hm => by
      obtain ⟨_, o', e', hnf⟩ := fl3.2.2.1.mem hm
      rw [he3] at e'; cases e'
      exact hnf _ hd3
    have nL : a ≠ X.env.locals := fun z => nfr (List.mem_filterMap.mpr ⟨X.env, List.mem_cons_self, by rw [hf, z]⟩)
    have nF : a ∉ X.fs := fun hm => by
      obtain ⟨e, he, q⟩ := List.mem_filterMap.mp hm
      exact nfr (List.mem_filterMap.mpr ⟨e, List.mem_cons_of_mem _ he, q⟩)
    have S3 := J3.suite he3 hd3 na nL nF
    have go : ∀ {hds' : List ExceptHandler} {l' : List Clause}, ClausesOk X hds' l' → wClauses X.K Wout D l' cls d σ' H' →
        wpAny (model X.prog X.w) X.A (handleBy (.ref a) X.env hds') (SP X pins D) X.xe { s' with heap := h3 } := by
      intro hds' l' hk
      induction hk with
      | nil =>
        intro ww
        refine wpAny_handleBy_nil ?_
        obtain ⟨k1, k2, k3, oe, vs, T, oT, ts', he, hz, hd, h1, hr⟩ := id fl3
        unfold PySem.passOn
        refine wpAny_bind (wpAny_field he hd h1 ?_)
        rw [if_neg (show ¬ ((Value.ref T == Value.none) = true) from by simp)]
        have fin : wpAny (model X.prog X.w) X.A (setFlight (.ref a) X.env.frame) (fun _ s4 => wpAny (model X.prog X.w) X.A (throw (.ref a) : Sem Flow) (SP X pins D) X.xe s4) X.xe { s' with heap := h3 } := by
          rw [hf]
          refine HandSPX.setFlight_upZ fl3 fun h4 hh4 up4 => wpAny_throw (tk _ _ ?_)
          exact ⟨a, B, sI, pins, σ', H', cls, d, rfl, J, nb, (up.trans up3).trans up4, .inr (.inr (by rw [hs]; exact hh4)), na, os, ag, ww⟩
        first
          | exact wpAny_bind (wpAny_pure (wpAny_bind fin))
          | exact wpAny_bind fin
      | @cons x n c i ts b₀ suite np pos' hds2 l2 hi hln hc hsu r ih =>
        intro ww
        have hloc : Loc X.env.scope n := .inl hln
        obtain ⟨b, hb1, hyes, hno⟩ := ww
        refine wpAny_handleBy_cons (codeAny_handlers_test ?_) (by intro q; cases q)
        have LT : PySem.W.Looks (model X.prog X.w) h3 (typeOf (.ref a)) cls := fun A Q E s k q => wpAny_typeOf_ref (k _ _ he3) (by rw [hz3.1]; exact q)
        have LM := PySem.W.exm_one (M := model X.prog X.w) (J3.kIn) LT hb1
        have test : ∀ {Q : Value → Shared → Prop} {E : Value → Shared → Prop}, Q c { s' with heap := h3 } → wpAny (model X.prog X.w) (X.A.mark (some (.ref a))) (eval (.Name x np) X.env) Q E { s' with heap := h3 } := fun {Q E} q => by
          obtain ⟨hg, hdbg, hm | ⟨hm, hv, hnn⟩⟩ := hc
          · exact ld_glob (X := X.suite a ((a, oe3) :: (X.pn ++ pins))) S3 hg hm q hdbg
          · exact ld_blt (X := X.suite a ((a, oe3) :: (X.pn ++ pins))) S3 hg hm hv q hnn hdbg
        refine test (LM.here ?_)
        cases b with
        | true =>
          refine codeAny_handlers_suite_as ?_
          refine HandSPX.lands_againZ fl3 fun h4 fl4 up4 => ?_
          have J4 : Inv X pins σ' H' { s' with heap := h4 } := J.landed nb fl4.1 ((up.trans up3).trans up4) os ag
          obtain ⟨oe4, vs4, he4, hz4, hd4⟩ := fl4.there
          have S4 := J4.suite he4 hd4 na nL nF
          refine store_ok (X := X.suite a ((a, oe4) :: (X.pn ++ pins))) (v := .ref a) S4 hN hi hloc rfl (fun s5 S5 => ?_) (.inr hln)
          refine wpAny_mono ((hsu a oe4 cls d (X.pn ++ pins) hz4 ⟨_, hd4⟩).run [] s5 _ H' _ S5 (hyes rfl a na)) (fun f s6 hsp => ?_) (fun _ _ z => False.elim z)
          have end_ : ∀ {σ6 : L2.St} {H6 : Hp} {Q : Shared → Prop}, Inv (X.suite a ((a, oe4) :: (X.pn ++ pins))) [] σ6 H6 s6 → (∀ s7, Inv X pins (σ6.set i none) H6 s7 → Q s7) →
              wpAny (model X.prog X.w) X.A (do bindName X.env n .none; unbindBehindTheSuite X.env n pos') (fun _ s7 => Q s7) X.xe s6 := fun {σ6 H6 Q} S6 hq => gone_ok (S6.unsuite ok) hN hi hln hq
          cases f with
          | next =>
            obtain ⟨σ6, H6, S6, q6⟩ := hsp
            exact end_ S6 fun s7 J7 => ⟨_, _, J7, q6⟩
          | brk =>
            obtain ⟨σ6, H6, S6, q6⟩ := hsp
            exact end_ S6 fun s7 J7 => ⟨_, _, J7, q6⟩
          | cont =>
            obtain ⟨σ6, H6, S6, q6⟩ := hsp
            exact end_ S6 fun s7 J7 => ⟨_, _, J7, q6⟩
          | ret u =>
            obtain ⟨v6, σ6, H6, S6, r6, q6⟩ := hsp
            exact end_ S6 fun s7 J7 => ⟨_, _, _, J7, r6, q6⟩
        | false =>
          show wpAny _ X.A (handleBy (.ref a) X.env hds2) _ _ _
          exact ih (hno rfl)
    exact go hh ww
  · cases f with
    | next =>
      obtain ⟨σ', H', J', q⟩ := hsp
      exact wpAny_execs_nil ⟨σ', H', J'.ofTry ok, q⟩
    | brk =>
      obtain ⟨σ', H', J', q⟩ := hsp
      exact ⟨σ', H', J'.ofTry ok, q⟩
    | cont =>
      obtain ⟨σ', H', J', q⟩ := hsp
      exact ⟨σ', H', J'.ofTry ok, q⟩
    | ret u =>
      obtain ⟨v, σ', H', J', r, q⟩ := hsp
      exact ⟨v, σ', H', J'.ofTry ok, r, q⟩
end
/-! ### isinstance of a caught error, with or without fields -/
def rIsX (K : PySem.W.Frag) (D a : Addr) (cls : Value) (d : Option Addr) : List V → Hp → VK → Prop := fun xs H Q => ∃ (c : V) (u : Value) (b : Bool), xs = [.ref a, c] ∧ cls = .ref D ∧ ClsE c u ∧ (d = none ∨ ∃ dd fs, d = some dd ∧ H dd = some (.xd fs)) ∧ PySem.W.kitOne K (.ref D) u = some b ∧ Q (.bl b) H
where ClsE (c : V) (u : Value) : Prop := ∀ w, RelV c w → w = u
theorem call_isX {X : Cx} {a D : Addr} {oe : Obj} {cls : Value} {d : Option Addr} {pn : List (Addr × Obj)} (C : ExcC X.K D) (hz : Zc cls d oe) (hf : ∃ vs, oe.data = .fields vs) : CallR (X.suite a ((a, oe) :: pn)) (.builtin "isinstance") (rIsX X.K D a cls d) := by
  intro pins s σ H xs us Q I r h
  obtain ⟨c, u, b, rfl, rfl, hcv, hdd, e, q⟩ := h
  cases r with
  | cons rx rr =>
    cases rr with
    | cons rt rr =>
      cases rr
      cases rx
      have ec := hcv _ rt
      subst ec
      obtain ⟨hget, _⟩ := I.pin (a, oe) (List.mem_append.mpr (.inl List.mem_cons_self))
      obtain ⟨vs, hv⟩ := hf
      have hcl : (PySem.W.clsIn X.K D).isSome = true := by
        obtain ⟨cd, hc, _⟩ := PySem.W.any_some C.hd
        rw [hc]
        rfl
      have J : ∃ od, PySem.W.InstAt s.heap a oe D od := by
        obtain ⟨oc, od, oda, osl⟩ := oe
        obtain ⟨h1, h2⟩ := hz
        dsimp only at h1 h2 hv
        subst h1 h2 hv
        rcases hdd with rfl | ⟨dd, fs, rfl, hx⟩
        · exact ⟨none, hget, rfl, rfl, trivial⟩
        · obtain ⟨o, ho⟩ := objOk_get (I.hok dd _ hx)
          exact ⟨some o, hget, rfl, rfl, ho⟩
      obtain ⟨od, J⟩ := J
      exact PySem.W.kia_one (PySem.W.kitx_exc hcl C.hg C.hk C.hs C.ha C.hn C.ht C.hm) I.kIn J e (fun z => nomatch z) fun tk => ⟨.bl b, H, I.kept (t' := tk) fun _ _ z => z, rfl, q⟩
end BX

set_option Elab.async false
set_option linter.all false
set_option maxRecDepth 100000
set_option maxHeartbeats 4000000
namespace BX
open PySem PySem.Spec PyProof.Rows L2
/-! ### promises of defs that are called where nothing is being shown -/
structure FnOkG (P : Program) (w : World) (K : PySem.W.Frag) (mg : Str → Option Value) (base : Heap) (CX : CXT) (k : Nat) (f : Addr) (fd : FuncData) (ps : List Str) (sp : Sp) : Prop where
  len : ∀ vs H Q E, sp vs H Q E → vs.length = ps.length
  run : ∀ (A : Around) (outer : List Env) (s : Shared) (H : Hp) (args : Args) (us : List Value) (vs : List V) (Q : VK) (E : XK), Room k A → A.guards = some [] → Env0 P w K mg base A outer s H → BindsTo s fd args (ps.zip us) → Vals vs us → sp vs H Q E →
    codeAny (model P w) A (.call (.ref f) args) (CR CX outer P w H s Q E) s
section
variable {P : Program} {w : World} {K : PySem.W.Frag} {mg : Str → Option Value} {base : Heap} {CX : CXT} {k : Nat} {f : Addr} {fd : FuncData} {ps : List Str} {sp : Sp}
theorem FnOkG.of (F : FnOk P w K mg base CX k f fd ps sp) : FnOkG P w K mg base CX k f fd ps sp := ⟨F.len, fun A outer s H args us vs Q E hr _ e b r h => F.run A outer s H args us vs Q E hr e b r h⟩
theorem FnOkG.mono {j : Nat} (F : FnOkG P w K mg base CX j f fd ps sp) (h : j ≤ k) : FnOkG P w K mg base CX k f fd ps sp := ⟨F.len, fun A outer s H args us vs Q E hr => F.run A outer s H args us vs Q E (hr.mono h)⟩
/-- the body of such a def -/
theorem fn_ofG {name qual : Str} {params : Arguments} {body : List Stmt} {scope : Scope} {dV kV doc pm cdv ct oc : Value} {an od : Option Addr} {osl : Array (Option Value)} {N : List Str}
    (lk : K.lookup f = some ⟨oc, od, .func (PySem.W.fnOf name qual params body scope dV kV doc pm an cdv ct), osl⟩) (hcd : PySem.W.codeIn K cdv qual = true) (S : FnScope N ps scope) (len : ∀ vs H Q E, sp vs H Q E → vs.length = ps.length)
    (hbody : ∀ (A : Around) (outer : List Env) (s : Shared) (H : Hp) (vs : List V) (Q : VK) (E : XK), Room k (A.deeper (envOfC qual scope s.heap.objs.size f cdv)) → (A.deeper (envOfC qual scope s.heap.objs.size f cdv)).guards = some [] → sp vs H Q E →
      ∃ t, PSs (cxOf CX P w K mg base N qual scope f cdv A outer s H E) body t ∧ t { nx := fun _ H' => Q .non H', rt := Q } (start N vs) H) :
    FnOkG P w K mg base CX (k + 1) f (PySem.W.fnOf name qual params body scope dV kV doc pm an cdv ct) ps sp := by
  refine ⟨len, fun A outer s H args us vs Q E hr hgd e0 hb r hsp => ?_⟩
  have KX : K.In s.heap := e0.mod.kin.keeps fun b o e => (e0.bs b o e).1
  have lim : s.heap.NoLimit := e0.mod.nolimit.keeps fun b o e => (e0.bs b o e).1
  have hkind : ∀ y ∈ ps.zip us, scope.names.lookup y.1 = some .local ∨ (scope.names.lookup y.1 = some .cell ∧ ((cellsFrom (s.heap.objs.size + 1) scope.names []).lookup y.1).isSome = true) := fun ⟨n, v⟩ hy => by
    rcases S.par n (List.of_mem_zip hy).1 with q | q
    · exact .inl q
    · exact .inr ⟨q, PySem.W.cellsFrom_some _ _ _ (.inl q)⟩
  refine codeAny_call_function hr.depth (KX _ _ lk) rfl S.co S.gen rfl (PySem.W.codeRec_of KX hcd) (hb _ _ _ _ ?_)
  refine wpAny_newFunctionEnv_cells S.kind hkind fun env he s1 x => ?_
  subst he
  refine ⟨lim.keeps x.toInCall.keep, codeAny_func ?_⟩
  obtain ⟨t, ht, hq⟩ := hbody A outer s H vs Q E (hr.deeper _) hgd hsp
  have I : Inv (cxOf CX P w K mg base N qual scope f cdv A outer s H E) [] (start N vs) H s1 := inv_start S hr.hd e0 (len _ _ _ _ hsp) r x
  refine wpAny_mono (ht.run [] s1 (start N vs) H _ I hq) (fun fl s' hs => ?_) fun e s' hs => hs
  have fin : ∀ {σ' : L2.St} {H' : Hp} {v : V} {u : Value}, Inv (cxOf CX P w K mg base N qual scope f cdv A outer s H E) [] σ' H' s' → RelV v u → Q v H' → CE outer P w H s Q u s' :=
    fun {σ' H' v u} J rv q => ⟨v, H', J.os, J.bare, J.base, J.hok, rv, q⟩
  cases fl with
  | ret u =>
    obtain ⟨v, σ', H', J, rv, q⟩ := hs
    exact fin J rv q
  | next =>
    obtain ⟨σ', H', J, q⟩ := hs
    exact fin (v := V.non) (u := Value.none) J rfl q
  | brk =>
    obtain ⟨_, _, _, q⟩ := hs
    exact False.elim q
  | cont =>
    obtain ⟨_, _, _, q⟩ := hs
    exact False.elim q
theorem okG {x qual : Str} {st : Stmt} {N : List Str} (F : Fun K x qual st f fd) (S : FnScope N ps (defScope st)) (len : ∀ vs H Q E, sp vs H Q E → vs.length = ps.length)
    (hbody : ∀ (cdv : Value) (A : Around) (outer : List Env) (s : Shared) (H : Hp) (vs : List V) (Q : VK) (E : XK), Room k (A.deeper (envOfC qual (defScope st) s.heap.objs.size f cdv)) → (A.deeper (envOfC qual (defScope st) s.heap.objs.size f cdv)).guards = some [] → sp vs H Q E →
      ∃ t, PSs (cxOf CX0 P w K mg base N qual (defScope st) f cdv A outer s H E).nox (defBody st) t ∧ t { nx := fun _ H' => Q .non H', rt := Q } (start N vs) H) : FnOkG P w K mg base CX0 (k + 1) f fd ps sp := by
  obtain ⟨oc, od, kV, doc, pm, an, cdv, ct, osl, rfl, lk, hcd⟩ := F.ex
  refine fn_ofG lk hcd S len fun A outer s H vs Q E hr hgd hsp => ?_
  obtain ⟨t, h, q⟩ := hbody cdv A outer s H vs Q E hr hgd hsp
  exact ⟨t, h.nox, q⟩
end
section
variable {X : Cx} {CX : CXT} {k : Nat} {f : Addr} {fd : FuncData} {ps : List Str} {sp : Sp} {E : XK} {x : Str} {p pos : Pos} {e : Expr} {es : List Expr} {t : TA} {ds : List Value} {dvs : List V}
theorem run_fnG {pins : List (Addr × Obj)} {σ : L2.St} {H : Hp} {s : Shared} {Q : VK} {us : List Value} {vs : List V} (F : FnOkG X.prog X.w X.K X.mg X.base CX k f fd ps sp) (hr : Room k X.A) (hgd : X.A.guards = some []) (hb : Binds X.K fd ps ds) (hd : Vals dvs ds) (hx : Passes CX X E)
    (I : Inv X pins σ H s) (r : Vals vs us) (h : sp (vs ++ dvs) H Q E) : wpAny (model X.prog X.w) X.A (call (.ref f) us) (EP X pins σ Q) X.xe s := by
  have r2 : Vals (vs ++ dvs) (us ++ ds) := r.append hd
  have hl : (us ++ ds).length = ps.length := by rw [← r2.length]; exact F.len _ _ _ _ h
  refine wpAny_call (codeAny_mono (F.run X.A X.stack s H ⟨us, []⟩ (us ++ ds) (vs ++ dvs) Q E hr hgd I.env0 (hb s us I.kIn hl) r2 h) fun r s' hq => ?_)
  cases r with
  | error e => exact hx pins σ H s e s' I hq
  | ok fl =>
    cases fl with
    | ret u => exact I.after hq
    | next => exact False.elim hq
    | brk => exact False.elim hq
    | cont => exact False.elim hq
theorem pe_callG (F : FnOkG X.prog X.w X.K X.mg X.base CX k f fd ps sp) (hr : Room k X.A) (hgd : X.A.guards = some []) (hg : Gl X x) (hm : X.mg x = some (.ref f)) (hk : PySem.W.keepIn X.K (.ref f) = true) (hb : Binds X.K fd ps ds) (hd : Vals dvs ds) (hx : Passes CX X E)
    (ha : PA X (e :: es) t) (hdb : (x == ("__debug__" : Str)) = false := by decide) (he : starEach (e :: es) X.env = (false, eval e X.env) :: starEach es X.env := by rfl) (hpl : (backTo pos (starEach es X.env)).any (·.1) = false := by rfl) :
    PE X (.Call (.Name x p) (e :: es) [] pos) (tCall sp dvs E t) := by
  refine ⟨fun pins s σ H Q I h => ?_⟩
  refine wpAny_Call_Name_kw (ld_glob I hg hm ?_ hdb)
  refine PySem.W.callWith_K (h₀ := X.base) I.ok.mod.kin hk (thn (ha.run pos pins s σ H _ I h) fun us s1 ⟨vs, H1, I1, r, q⟩ => ⟨I1.kIn, ?_⟩) he hpl
  exact run_fnG F hr hgd hb hd hx I1 r q
end
/-! ### repr -/
/-- data, or the empty dict -/
def Dq (K : PySem.W.Frag) (H : Hp) (v : V) (d : PyData) : Prop := Dp K H v d ∨ ∃ a, v = .ref a ∧ H a = some (.dK []) ∧ d = .dict []
mutual
theorem noDict {K : PySem.W.Frag} {H : Hp} : ∀ (d : PyData) (v : V), Dp K H v d → d.hasDict = false
  | .none, _, _ => rfl
  | .bool _, _, _ => rfl
  | .int _, _, _ => rfl
  | .str _, _, _ => rfl
  | .list ds, _, h => by
    cases h with
    | lst _ ha => exact noDicts ds _ ha
  | .tuple ds, _, h => by
    cases h with
    | tup _ ha => exact noDicts ds _ ha
  | .dict _, _, h => by cases h
theorem noDicts {K : PySem.W.Frag} {H : Hp} : ∀ (ds : List PyData) (vs : List V), DpAll K H vs ds → PyData.hasDictAll ds = false
  | [], _, _ => rfl
  | d :: ds, _, h => by
    cases h with
    | cons h1 h2 =>
      show (PyData.hasDict d || PyData.hasDictAll ds) = false
      rw [noDict d _ h1, noDicts ds _ h2]
      rfl
end
def rRepr (K : PySem.W.Frag) : List V → Hp → VK → Prop := fun xs H Q => ∃ x d, xs = [x] ∧ Dq K H x d ∧ d.showable = true ∧ d.depth ≤ 64 ∧ d.shown.length ≤ sizeLine ∧ Q (.str d.shown) H
theorem call_reprD {X : Cx} (hgd : X.A.guards = some []) (hu : X.A.units + 80 < cLine) : CallR X (.builtin "repr") (rRepr X.K) := by
  intro pins s σ H xs us Q I r h
  obtain ⟨x, d, rfl, hd, hs, hdp, hsz, q⟩ := h
  cases r with
  | @cons _ u _ _ ru rn =>
    cases rn
    have up : ∀ {a : Addr} {as : List Addr}, Reads s.heap (.ref a) d as → (d.hasDict = true → sysModules ∉ as) → wpAny (model X.prog X.w) X.A (call (.builtin "repr") [.ref a]) (EP X pins σ Q) X.xe s := fun {a as} rd hsm =>
      repr_of_reads' rd hs hsm hgd (by omega) (fun _ _ z => z) (fun h' u tk hk => ⟨.str d.shown, H, I.kept (t' := tk) hk, ⟨_, rfl⟩, q⟩) hsz
    rcases hd with hd | ⟨a, rfl, ha, rfl⟩
    · have nd := noDict d x hd
      cases hd with
      | non => cases (show u = Value.none from ru); exact P.repr_of_none ⟨.str (PyData.shown .none), H, I.tok _, ⟨_, rfl⟩, q⟩
      | bl b => cases (show u = Value.bool b from ru); exact P.repr_of_bool ⟨.str (PyData.shown (.bool b)), H, I.tok _, ⟨_, rfl⟩, q⟩
      | int i => obtain ⟨t, e⟩ := (show ∃ t, u = Value.int i t from ru); cases e; exact P.repr_of_int (of_decide_eq_true hs) ⟨.str (PyData.shown (.int i)), H, I.tok _, ⟨_, rfl⟩, q⟩
      | str y => obtain ⟨t, e⟩ := (show ∃ t, u = Value.str y t from ru); cases e; exact P.repr_of_str ⟨.str (PyData.shown (.str y)), H, I.tok _, ⟨_, rfl⟩, q⟩ hsz
      | @lst a xs ds h1 h2 =>
        cases (show u = Value.ref a from ru)
        obtain ⟨as, rd⟩ := Dp.reads I _ _ _ (Dp.lst h1 h2) (show RelV (.ref a) (.ref a) from rfl)
        exact up rd (fun z => by rw [nd] at z; cases z)
      | @tup a xs ds h1 h2 =>
        cases (show u = Value.ref a from ru)
        obtain ⟨as, rd⟩ := Dp.reads I _ _ _ (Dp.tup h1 h2) (show RelV (.ref a) (.ref a) from rfl)
        exact up rd (fun z => by rw [nd] at z; cases z)
    · cases (show u = Value.ref a from ru)
      obtain ⟨_, hns, vs, hkv, o, es, ep, h1, h2, h3, h4, h5, _⟩ := (show ObjOk X.prog X.w H s.heap a (.dK []) from I.hok a _ ha)
      cases hkv
      have he : es.toList = [] := List.eq_nil_of_length_eq_zero h5.length
      refine up (as := a :: [] ++ []) (Reads.dict h1 h2.1 h3 (by rw [he]; exact .nil) (by rw [he]; exact .nil)) (fun _ hm => ?_)
      have ea : sysModules = a := by simpa using hm
      rw [← ea] at hns
      exact absurd hns (by decide +kernel)
end BX

namespace Fr
theorem fmod_abs (a : Int) {b : Int} (h : b ≠ 0) : (a.fmod b).natAbs < b.natAbs := by
  by_cases hb : 0 < b
  · have h1 := Int.fmod_lt_of_pos a hb
    have h2 := Int.fmod_nonneg_of_pos a hb
    omega
  · have hb' : 0 < -b := by omega
    have e := Int.neg_fmod_neg (-a) (-b)
    rw [Int.neg_neg, Int.neg_neg] at e
    have h1 := Int.fmod_lt_of_pos (-a) hb'
    have h2 := Int.fmod_nonneg_of_pos (-a) hb'
    omega
theorem gcd_step (a b : Int) : Int.gcd b (a.fmod b) = Int.gcd a b := by
  rw [Int.fmod_def, Int.mul_comm, Int.gcd_sub_mul_right_right, Int.gcd_comm]
theorem gcd_pos {t b : Int} (h : b ≠ 0) : (0 : Int) < (Int.gcd t b : Int) := by
  have : 0 < Int.gcd t b := Int.gcd_pos_of_ne_zero_right t h
  omega
theorem low_num {t b : Int} (hb : 0 < b) : t.fdiv (Int.gcd t b) = (Rat.divInt t b).num := by
  rw [Rat.num_divInt, Int.sign_eq_one_of_pos hb, Int.one_mul, Int.gcd_comm b t, Int.fdiv_eq_ediv_of_nonneg _ (by omega)]
theorem low_den {t b : Int} (hb : 0 < b) : b.fdiv (Int.gcd t b) = ((Rat.divInt t b).den : Int) := by
  rw [Rat.den_divInt, if_neg (by omega), Int.gcd_comm b t, Int.fdiv_eq_ediv_of_nonneg _ (by omega), Int.natCast_ediv]
  congr 1
  omega
theorem lowN_num {t b : Int} (hb : b < 0) : t.fdiv (-(Int.gcd t b : Int)) = (Rat.divInt t b).num := by
  have e := Int.neg_fdiv_neg (-t) (Int.gcd t b : Int)
  rw [Int.neg_neg] at e
  rw [e, Rat.num_divInt, Int.sign_eq_neg_one_of_neg hb, Int.gcd_comm b t, Int.fdiv_eq_ediv_of_nonneg _ (by omega), Int.neg_mul, Int.one_mul]
theorem lowN_den {t b : Int} (hb : b < 0) : b.fdiv (-(Int.gcd t b : Int)) = ((Rat.divInt t b).den : Int) := by
  have e := Int.neg_fdiv_neg (-b) (Int.gcd t b : Int)
  rw [Int.neg_neg] at e
  rw [e, Rat.den_divInt, if_neg (by omega), Int.gcd_comm b t, Int.fdiv_eq_ediv_of_nonneg _ (by omega), Int.natCast_ediv]
  congr 1
  omega
/-- top and bottom below 2 ^ n -/
def Bd (n : Nat) (q : Rat) : Prop := q.num.natAbs < 2 ^ n ∧ q.den < 2 ^ n
theorem Bd.mono {n m : Nat} {q : Rat} (h : Bd n q) (l : n ≤ m) : Bd m q :=
  ⟨Nat.lt_of_lt_of_le h.1 (Nat.pow_le_pow_right (by decide) l), Nat.lt_of_lt_of_le h.2 (Nat.pow_le_pow_right (by decide) l)⟩
theorem bd_low {t b : Int} {n : Nat} (ht : t.natAbs < 2 ^ n) (hb : b.natAbs < 2 ^ n) (h : b ≠ 0) : Bd n (Rat.divInt t b) := by
  constructor
  · rw [Rat.num_divInt]
    have h1 : (b.sign * t).natAbs = t.natAbs := by
      rw [Int.natAbs_mul, Int.natAbs_sign_of_ne_zero h, Nat.one_mul]
    have h2 : (b.sign * t / (b.gcd t : Int)).natAbs ≤ (b.sign * t).natAbs := Int.natAbs_ediv_le_natAbs _ _
    omega
  · rw [Rat.den_divInt, if_neg h]
    exact Nat.lt_of_le_of_lt (Nat.div_le_self _ _) hb
theorem den_pos (q : Rat) : (0 : Int) < (q.den : Int) := by
  have := q.den_pos
  omega
theorem den_ne (q : Rat) : (q.den : Int) ≠ 0 := Int.ne_of_gt (den_pos q)
theorem add_eq (a b : Rat) : Rat.divInt (a.num * b.den + b.num * a.den) (a.den * b.den) = a + b := by
  rw [← Rat.divInt_add_divInt _ _ (den_ne a) (den_ne b), Rat.num_divInt_den, Rat.num_divInt_den]
theorem sub_eq (a b : Rat) : Rat.divInt (a.num * b.den - b.num * a.den) (a.den * b.den) = a - b := by
  rw [Rat.sub_def, Rat.normalize_eq_mkRat, ← Int.natCast_mul]
  rfl
theorem mul_eq (a b : Rat) : Rat.divInt (a.num * b.num) (a.den * b.den) = a * b := by
  rw [← Rat.divInt_mul_divInt, Rat.num_divInt_den, Rat.num_divInt_den]
theorem div_eq (a b : Rat) : Rat.divInt (a.num * b.den) (a.den * b.num) = a / b := by
  rw [Rat.div_def, Rat.inv_def, ← Rat.divInt_mul_divInt, Rat.num_divInt_den]
theorem mul_bd {i j : Int} {n m : Nat} (hi : i.natAbs < 2 ^ n) (hj : j.natAbs < 2 ^ m) : (i * j).natAbs < 2 ^ (n + m) := by
  rw [Int.natAbs_mul, Nat.pow_add]
  exact Nat.mul_lt_mul'' hi hj
theorem add_bd {i j : Int} {n : Nat} (hi : i.natAbs < 2 ^ n) (hj : j.natAbs < 2 ^ n) : (i + j).natAbs < 2 ^ (n + 1) := by
  rw [Nat.pow_succ]
  omega
theorem sub_bd {i j : Int} {n : Nat} (hi : i.natAbs < 2 ^ n) (hj : j.natAbs < 2 ^ n) : (i - j).natAbs < 2 ^ (n + 1) := by
  rw [Nat.pow_succ]
  omega
theorem Bd.dn {n : Nat} {q : Rat} (h : Bd n q) : (q.den : Int).natAbs < 2 ^ n := by
  rw [Int.natAbs_natCast]
  exact h.2
theorem up {i : Int} {n m : Nat} (h : i.natAbs < 2 ^ n) (l : n ≤ m) : i.natAbs < 2 ^ m := Nat.lt_of_lt_of_le h (Nat.pow_le_pow_right (by decide) l)
theorem dd_ne (a b : Rat) : (a.den : Int) * (b.den : Int) ≠ 0 := Int.mul_ne_zero (den_ne a) (den_ne b)
theorem bd_add {a b : Rat} {n m : Nat} (ha : Bd n a) (hb : Bd m b) : Bd (n + m + 1) (a + b) := by
  rw [← add_eq]
  refine bd_low ?_ (up (mul_bd ha.dn hb.dn) (Nat.le_succ _)) (dd_ne a b)
  have h2 := mul_bd hb.1 ha.dn
  rw [Nat.add_comm m n] at h2
  exact add_bd (mul_bd ha.1 hb.dn) h2
theorem bd_sub {a b : Rat} {n m : Nat} (ha : Bd n a) (hb : Bd m b) : Bd (n + m + 1) (a - b) := by
  rw [← sub_eq]
  refine bd_low ?_ (up (mul_bd ha.dn hb.dn) (Nat.le_succ _)) (dd_ne a b)
  have h2 := mul_bd hb.1 ha.dn
  rw [Nat.add_comm m n] at h2
  exact sub_bd (mul_bd ha.1 hb.dn) h2
theorem bd_mul {a b : Rat} {n m : Nat} (ha : Bd n a) (hb : Bd m b) : Bd (n + m) (a * b) := by
  rw [← mul_eq]
  exact bd_low (mul_bd ha.1 hb.1) (mul_bd ha.dn hb.dn) (dd_ne a b)
theorem ratio_gcd (q : Rat) : Int.gcd q.num q.den = 1 := by
  have := q.reduced
  rw [Int.gcd, Int.natAbs_natCast]
  exact this
theorem foldl_add (l : List Rat) : ∀ a : Rat, l.foldl (· + ·) a = a + l.sum := by
  induction l with
  | nil => intro a; rw [List.foldl_nil, List.sum_nil, Rat.add_zero]
  | cons x r ih => intro a; rw [List.foldl_cons, ih, List.sum_cons, Rat.add_assoc]
theorem sum_rev (l : List Rat) : l.reverse.sum = l.sum := by
  induction l with
  | nil => rfl
  | cons x r ih => rw [List.reverse_cons, List.sum_append, ih, List.sum_cons, List.sum_cons, List.sum_nil, Rat.add_zero, Rat.add_comm]
theorem div_self' {a : Rat} (h : a ≠ 0) : a / a = 1 := by
  rw [Rat.div_def]
  exact Rat.mul_inv_cancel a h
end Fr

set_option Elab.async false
set_option linter.all false
set_option maxRecDepth 100000
set_option maxHeartbeats 2000000
namespace Co
open PySem PySem.Spec PyProof.Rows L2
open Fr (Bd)
/-! ### // by any number but nought -/
def CDivZ (_ j : Int) : Prop := j ≠ 0 ∧ j.natAbs.log2 < 9000
theorem op_fdivZ {X : Cx} : OpR X (binaryOp .FloorDiv) (rI CDivZ fun i j => .int (i.fdiv j)) := opI fun i j _ _ _ _ _ hc q => floordiv_int hc.1 q (.inl (PyProof.noPylong_of_log2 hc.2))
theorem divZ {i j : Int} {n : Nat} (h : j ≠ 0) (hb : j.natAbs < 2 ^ n) (h0 : 0 < n) (h9 : n ≤ 9000) : CDivZ i j := ⟨h, Nat.lt_of_lt_of_le (PySem.Flt.log2_lt_of h0 hb) h9⟩
theorem same_new {H : Hp} {p : Addr} (h : H p = none) (o : HO) : Same H (upd H p o) := fun b u q => by rw [upd_ne (ne_of_none q h)]; exact q
theorem seqT {K : PySem.W.Frag} {H H' : Hp} {a : Addr} {xs : List V} (e : Same H H') (h : SqT K H a xs) : SqT K H' a xs := by
  rcases h with (h | ⟨o, h⟩) | h
  · exact .inl (.inl (e _ _ h))
  · exact .inl (.inr ⟨o, e _ _ h⟩)
  · exact .inr h
/-- what stands in a fraction's tuple -/
def rp (q : Rat) : List V := [.int q.num, .int (q.den : Int)]
def spDiv : Sp := fun vs H Q _ => ∃ a b : Int, vs = [.int a, .int b] ∧ Q (.int (Int.gcd a b : Int)) H
def spLow : Sp := fun vs H Q _ => ∃ (t b : Int) (n : Nat), vs = [.int t, .int b] ∧ t.natAbs < 2 ^ n ∧ b.natAbs < 2 ^ n ∧ b ≠ 0 ∧ n ≤ 8950 ∧ ∀ p, H p = none → Q (.ref p) (upd H p (.tup (rp (Rat.divInt t b))))
theorem gcd_bd {t b : Int} {n : Nat} (h : b ≠ 0) (hb : b.natAbs < 2 ^ n) : (Int.gcd t b : Int).natAbs < 2 ^ n := by
  rw [Int.natAbs_natCast]
  exact Nat.lt_of_le_of_lt (Nat.le_of_dvd (by omega) (Int.gcd_dvd_natAbs_right t b)) hb
theorem wmul {i j : Int} {n m : Nat} (hi : i.natAbs < 2 ^ n) (hj : j.natAbs < 2 ^ m) (h : n + m ≤ 9000) : CMulW i j :=
  wide_mul (a := n + 1) (b := m + 1) (Fr.up hi (Nat.le_succ _)) (Fr.up hj (Nat.le_succ _)) (Nat.succ_pos _) (Nat.succ_pos _) (by omega)
theorem at0 (q : Rat) : atI (rp q) 0 = some (.int q.num) := atI_nat (j := 0) rfl
theorem at1 (q : Rat) : atI (rp q) 1 = some (.int (q.den : Int)) := atI_nat (j := 1) rfl
/-- a fraction made of two -/
def spBin (K : PySem.W.Frag) (g : Rat → Rat → Rat) : Sp := fun vs H Q _ => ∃ (a b : Addr) (x y : Rat) (n m : Nat), vs = [.ref a, .ref b] ∧ SqT K H a (rp x) ∧ SqT K H b (rp y) ∧ Bd n x ∧ Bd m y ∧ n + m ≤ 8900 ∧ ∀ p, H p = none → Q (.ref p) (upd H p (.tup (rp (g x y))))
def spUnder (K : PySem.W.Frag) : Sp := fun vs H Q _ => ∃ (a b : Addr) (x y : Rat) (n m : Nat), vs = [.ref a, .ref b] ∧ SqT K H a (rp x) ∧ SqT K H b (rp y) ∧ Bd n x ∧ Bd m y ∧ n + m ≤ 8900 ∧ Q (.bl (decide (x.num * y.den < y.num * x.den))) H
theorem abs_eq (x : Int) : (if x < 0 then -x else x) = (x.natAbs : Int) := by split <;> omega
theorem tyT {K : PySem.W.Frag} {H : Hp} {a : Addr} {xs : List V} (h : SqT K H a xs) : TyX K H (.ref a) (.type "tuple") := by
  rcases h with (h | ⟨o, h⟩) | ⟨o, its, n, e, c, _⟩
  · exact .base (.tup h)
  · exact .fTuple h
  · exact .kTuple e c
/-- what the module leaves of the built-in names -/
structure Blt (mg : Str → Option Value) : Prop where
  abs_ : mg "abs" = none
  isinstance_ : mg "isinstance" = none
  int_ : mg "int" = none
  bool_ : mg "bool" = none
  tuple_ : mg "tuple" = none
  list_ : mg "list" = none
  len_ : mg "len" = none
  range_ : mg "range" = none
  str_ : mg "str" = none
  repr_ : mg "repr" = none
  sum_ : mg "sum" = none
  all_ : mg "all" = none
  any_ : mg "any" = none
  enumerate_ : mg "enumerate" = none
  zip_ : mg "zip" = none
  min_ : mg "min" = none
  max_ : mg "max" = none
  sorted_ : mg "sorted" = none
  ValueError_ : mg "ValueError" = none
  ZeroDivisionError_ : mg "ZeroDivisionError" = none
  OverflowError_ : mg "OverflowError" = none
  IndexError_ : mg "IndexError" = none
  LookupError_ : mg "LookupError" = none
  ArithmeticError_ : mg "ArithmeticError" = none
  KeyError_ : mg "KeyError" = none
  RuntimeError_ : mg "RuntimeError" = none
/-- a list of fractions: its items, and what they are worth -/
structure FrL (K : PySem.W.Frag) (H : Hp) (refs : List V) (qs : List Rat) : Prop where
  len : refs.length = qs.length
  at_ : ∀ (i : Nat) (v : V), refs[i]? = some v → ∃ (a : Addr) (q : Rat), qs[i]? = some q ∧ v = .ref a ∧ SqT K H a (rp q) ∧ Bd 100 q
theorem FrL.keep {K : PySem.W.Frag} {H H' : Hp} {refs : List V} {qs : List Rat} (h : FrL K H refs qs) (k : ∀ a xs, SqT K H a xs → SqT K H' a xs) : FrL K H' refs qs :=
  ⟨h.len, fun i v e => let ⟨a, q, e1, e2, e3, e4⟩ := h.at_ i v e; ⟨a, q, e1, e2, k _ _ e3, e4⟩⟩
theorem FrL.same {K : PySem.W.Frag} {H H' : Hp} {refs : List V} {qs : List Rat} (h : FrL K H refs qs) (e : Same H H') : FrL K H' refs qs := h.keep fun _ _ => seqT e
theorem FrL.nil {K : PySem.W.Frag} {H : Hp} : FrL K H [] [] := ⟨rfl, fun i v e => by simp at e⟩
theorem FrL.snoc {K : PySem.W.Frag} {H : Hp} {refs : List V} {qs : List Rat} {a : Addr} {q : Rat} (h : FrL K H refs qs) (ha : SqT K H a (rp q)) (hb : Bd 100 q) : FrL K H (refs ++ [.ref a]) (qs ++ [q]) := by
  refine ⟨by rw [List.length_append, List.length_append, h.len]; rfl, fun i v e => ?_⟩
  by_cases hi : i < refs.length
  · rw [List.getElem?_append_left hi] at e
    obtain ⟨a', q', e1, e2, e3, e4⟩ := h.at_ i v e
    exact ⟨a', q', by rw [List.getElem?_append_left (by rw [← h.len]; exact hi)]; exact e1, e2, e3, e4⟩
  · rw [List.getElem?_append_right (by omega)] at e
    have e0 : i - refs.length = 0 := by
      cases z : i - refs.length with
      | zero => rfl
      | succ j => rw [z] at e; simp at e
    rw [e0] at e
    have ev : (V.ref a) = v := Option.some.inj e
    refine ⟨a, q, ?_, ev.symm, ha, hb⟩
    rw [List.getElem?_append_right (by rw [← h.len]; omega), ← h.len, e0]
    rfl
theorem keep_lst {K : PySem.W.Frag} {H : Hp} {l : Addr} {ys zs : List V} (hl : H l = some (.lst ys)) : ∀ a xs, SqT K H a xs → SqT K (upd H l (.lst zs)) a xs := fun a xs h => by
  rcases h with (h | ⟨o, h⟩) | h
  · exact .inl (.inl (by rw [upd_ne (ne_of h hl (by intro z; cases z))]; exact h))
  · exact .inl (.inr ⟨o, by rw [upd_ne (ne_of h hl (by intro z; cases z))]; exact h⟩)
  · exact .inr h
theorem sum_snoc {qs : List Rat} {i : Nat} {q : Rat} (h : qs[i]? = some q) : (qs.take (i + 1)).sum = (qs.take i).sum + q := by
  rw [List.take_add_one, h, List.sum_append]
  show _ + ([q] : List Rat).sum = _
  rw [List.sum_cons, List.sum_nil, Rat.add_zero]
def spLeft : Sp := fun vs H Q _ => ∃ c : Int, vs = [.int c] ∧ ∀ p n, H p = none → Q (.ref p) (upd H p (.lst [.int n]))
def spDigit : Sp := fun vs H Q _ => ∃ (l : Addr) (n m : Int), vs = [.ref l, .int m] ∧ H l = some (.lst [.int n]) ∧ 0 < m ∧ m.natAbs < 2 ^ 200 ∧ ∀ d n' : Int, 0 ≤ d → d < m → Q (.int d) (upd H l (.lst [.int n']))
theorem lt100 {i : Int} (h : i.natAbs ≤ 10 ^ 20) : i.natAbs < 2 ^ 100 := Nat.lt_of_le_of_lt h (by decide)
/-- a fraction as data -/
def dR (q : Rat) : PyData := .tuple [.int q.num, .int (q.den : Int)]
theorem dp_r {K : PySem.W.Frag} {H : Hp} {a : Addr} {q : Rat} (h : SqT K H a (rp q)) : Dp K H (.ref a) (dR q) := .tup h (.cons (.int _) (.cons (.int _) .nil))
theorem dR_lay (q : Rat) : (dR q).canLay0 = true := rfl
theorem dR_depth (q : Rat) : (dR q).depth = 1 := rfl
theorem dR_shaped (q : Rat) : SeqAt.shaped (dR q) = true := rfl
theorem FrL.dp {K : PySem.W.Frag} {H : Hp} : ∀ {refs : List V} {qs : List Rat}, FrL K H refs qs → DpAll K H refs (qs.map dR)
  | [], [], _ => .nil
  | [], _ :: _, h => by have := h.len; simp at this
  | _ :: _, [], h => by have := h.len; simp at this
  | v :: refs, q :: qs, h => by
    obtain ⟨a, q', e1, rfl, e3, _⟩ := h.at_ 0 v rfl
    have e : q = q' := Option.some.inj e1
    subst e
    refine .cons (dp_r e3) (FrL.dp ⟨by have := h.len; simpa using this, fun i v e => ?_⟩)
    exact h.at_ (i + 1) v e
theorem lays : ∀ qs : List Rat, PyData.canLayAll0 (qs.map dR) = true
  | [] => rfl
  | q :: qs => by
    show (PyData.canLay0 (dR q) && PyData.canLayAll0 (qs.map dR)) = true
    rw [lays qs]
    rfl
theorem deps : ∀ qs : List Rat, PyData.depthAll (qs.map dR) ≤ 1
  | [] => by decide
  | q :: qs => by
    have := deps qs
    show max (PyData.depth (dR q)) (PyData.depthAll (qs.map dR)) ≤ 1
    rw [dR_depth]
    omega
theorem list_lay (qs : List Rat) : (PyData.list (qs.map dR)).canLay0 = true := lays qs
theorem list_shaped (qs : List Rat) : SeqAt.shaped (.list (qs.map dR)) = true := by
  unfold SeqAt.shaped
  rw [list_lay, Bool.true_and]
  refine decide_eq_true ?_
  have := deps qs
  show PyData.depthAll (qs.map dR) + 1 ≤ 64
  omega
theorem FrL.rev {K : PySem.W.Frag} {H : Hp} {refs : List V} {qs : List Rat} (h : FrL K H refs qs) : FrL K H refs.reverse qs.reverse := by
  refine ⟨by rw [List.length_reverse, List.length_reverse, h.len], fun i v e => ?_⟩
  have hi : i < refs.length := by
    have := (List.getElem?_eq_some_iff.mp e).1
    rw [List.length_reverse] at this
    exact this
  rw [List.getElem?_reverse hi] at e
  obtain ⟨a, q, e1, e2, e3, e4⟩ := h.at_ _ v e
  refine ⟨a, q, ?_, e2, e3, e4⟩
  rw [List.getElem?_reverse (by rw [← h.len]; exact hi), ← h.len]
  exact e1
theorem cut_mem {xs : List V} {lo hi : Option Int} {x : V} (h : x ∈ cutV xs lo hi) : x ∈ xs := List.mem_of_mem_drop (List.mem_of_mem_take h)
theorem FrL.mem {K : PySem.W.Frag} {H : Hp} {refs : List V} {qs : List Rat} {v : V} (h : FrL K H refs qs) (hv : v ∈ refs) : ∃ (a : Addr) (q : Rat), v = .ref a ∧ SqT K H a (rp q) ∧ Bd 100 q := by
  obtain ⟨i, hi, e⟩ := List.getElem_of_mem hv
  obtain ⟨a, q, _, e2, e3, e4⟩ := h.at_ i v (by rw [List.getElem?_eq_getElem hi, e])
  exact ⟨a, q, e2, e3, e4⟩
theorem int_of {ns : List Int} {x : V} {lo hi : Option Int} {z : Int} {i : Nat} (h : (cutV (ns.map V.int) lo hi ++ [V.int z])[i]? = some x) : ∃ c : Int, x = .int c := by
  have hm := List.mem_of_getElem? h
  rcases List.mem_append.mp hm with hm | hm
  · obtain ⟨c, _, e⟩ := List.mem_map.mp (cut_mem hm)
    exact ⟨c, e.symm⟩
  · exact ⟨z, by simpa using hm⟩
/-- an error of the class at S is what «except S» names -/
theorem exm_self {K : PySem.W.Frag} {S : Addr} (h1 : PySem.W.subIn K (.ref S) (.type "BaseException") = some true) (h2 : PySem.W.isClsIn K S = true) (h3 : PySem.W.typeIn K (.ref S) = some (.type "type")) (h4 : PySem.W.subIn K (.ref S) (.ref S) = some true) :
    PySem.W.exmOne K (.ref S) (.ref S) = some true := by
  have e1 : (PySem.W.subIn K (.ref S) (.type "BaseException") == some true) = true := by rw [h1] <;> rfl
  have e2 : ((PySem.W.clsIn K S).isSome && PySem.W.typeIn K (.ref S) == some (.type "type")) = true := by
    have h2' : (PySem.W.clsIn K S).isSome = true := h2
    rw [h2', h3] <;> rfl
  show (if (PySem.W.subIn K (.ref S) (.type "BaseException") == some true) = true then (if ((PySem.W.clsIn K S).isSome && PySem.W.typeIn K (.ref S) == some (.type "type")) = true then PySem.W.subIn K (.ref S) (.ref S) else none) else none) = some true
  rw [if_pos e1, if_pos e2]
  exact h4
end Co

set_option Elab.async false
set_option linter.all false
set_option maxRecDepth 100000
set_option maxHeartbeats 4000000
namespace EXB
open PySem PySem.Spec PyProof.Rows L2
/-- what the written part says of an own error class over B -/
structure ExC (K : PySem.W.Frag) (C : Addr) (newId : String) (bmB : List Value) : Prop where
  cls : ∃ nm q N bs sn sub ab col dd k0 k1 k2 k3 k5, K.lookup C = some (excClassObj nm q C N bs bmB true sn sub ab col dd k0 k1 k2 k3 k5 newId)
  exC : PySem.W.subIn K (.ref C) (.type "BaseException") = some true
  tyC : PySem.W.typeIn K (.ref C) = some (.type "type")
  kC : PySem.W.keepIn K (.ref C) = true
section
variable {X : Cx} {pins : List (Addr × Obj)} {σ : L2.St} {H : Hp} {s : Shared} {a C : Addr} {A : Around} {E : Value → Shared → Prop} {B newId initId : String} {bmB : List Value}
/-- B.__init__(self, ..): nothing of it is told -/
theorem einit_ok {us : List Value} {Q : Value → Shared → Prop} (Fb : ExcBaseFacts B newId initId bmB) (T : ExC X.K C newId bmB) (I : Inv X pins σ H s) (e : H a = some (exo a C none)) (hl : us.length ≤ sizeLine) (h : ∀ s', Inv X pins σ H s' → Q .none s') :
    wpAny (model X.prog X.w) A (call (.builtin initId) (.ref a :: us)) Q E s := by
  obtain ⟨nm, q, N, bs, sn, sub, ab, col, dd, k0, k1, k2, k3, k5, hC⟩ := T.cls
  obtain ⟨t1, ho⟩ := exo_at I.hok e
  obtain ⟨hp, g, d, t, os⟩ := s
  refine wpAny_call (PySem.HandSPX.init_base Fb (fun Y => rfl) (I.kIn _ _ hC) ho hl fun h' t2 k hx => ?_)
  have J := I.write (t' := t) (x := a) (e := a) (o := exo a C none) (by rw [e]; exact True.intro) (.inl rfl) k ⟨_, hx⟩ (exo_ok hx)
  have eu : upd H a (exo a C none) = H := by
    funext b
    by_cases hb : b = a
    · rw [hb, upd_same, e]
    · rw [upd_ne hb]
  rw [eu] at J
  exact h _ J
end
def tExI (K : PySem.W.Frag) (newId : String) (bmB : List Value) (ta : TA) : TE := fun σ H Q => ta σ H fun vs H1 => ∃ (a C : Addr) (ws : List V), vs = .ref a :: ws ∧ ws.length ≤ 1000 ∧ ExC K C newId bmB ∧ H1 a = some (exo a C none) ∧ Q .non H1
section
variable {X : Cx} {e : Expr} {es : List Expr} {ta : TA} {p p1 p2 pos : Pos} {B newId initId : String} {bmB : List Value}
theorem typ_ZD : typeOf (.type "ZeroDivisionError") = pure (.type "type") := by kernel_rfl
theorem pe_zdinit {pl : Sem Bool} (hg : Gl X "ZeroDivisionError") (hm : X.mg "ZeroDivisionError" = none) (vV : PySem.W.findCls X.K (.type "ZeroDivisionError") (.type "type") "__init__" = some (.val (.builtin "ZeroDivisionError.__init__"))) (ha : PA X (e :: es) ta)
    (hc : eval (.Call (.Attribute (.Name "ZeroDivisionError" p1) "__init__" p2) (e :: es) [] pos) X.env = (do
      let ov ← eval (.Name "ZeroDivisionError" p1) X.env
      standAt p2.atName
      let (f, first) ← holding [ov] (getMethod ov "__init__" pl)
      callWith pos f first (backTo pos (starEach (e :: es) X.env)) (backToKw pos (keywordEach [] X.env))) := by rfl)
    (he : starEach (e :: es) X.env = (false, eval e X.env) :: starEach es X.env := by rfl) (hpl : (backTo pos (starEach es X.env)).any (·.1) = false := by rfl) :
    PE X (.Call (.Attribute (.Name "ZeroDivisionError" p1) "__init__" p2) (e :: es) [] pos) (tExI X.K "ZeroDivisionError.__new__" [.type "ZeroDivisionError", .type "ArithmeticError", .type "Exception", .type "BaseException", .type "object"] ta) := by
  refine ⟨fun pins s σ H Q I h => ?_⟩
  refine PySem.W.methodCall_KW (ld_blt I hg hm PyProof.Rows.Boot.«ZeroDivisionError» ?_ (by decide) (by decide)) hc
  obtain ⟨m, fr⟩ := I.fr
  refine PySem.W.method_type fr I.ok.mod.kin typ_ZD (by decide +kernel) vV (by decide +kernel) ?_
  show wpAny _ _ (callWith pos (Value.builtin "ZeroDivisionError.__init__") [] (backTo pos (starEach (e :: es) X.env)) []) _ _ _
  refine PyProof.Rows.callWith_method1 (thn (ha.run pos pins _ σ H _ (I.tok _) h) fun us s1 ⟨vs, H1, I1, r1, a, C, ws, ev, hl, T, ea, q⟩ => ?_) he hpl
  subst ev
  cases r1 with
  | @cons _ u0 _ ur ra rw' =>
    obtain rfl : u0 = Value.ref a := ra
    have hlen : ur.length ≤ sizeLine := by
      rw [← Paired.length rw', sizeLine_eq]
      omega
    exact einit_ok PySem.F.excBase_ZeroDivisionError T I1 ea hlen fun s' J => ⟨.non, H1, J, rfl, q⟩
/-- the end of C(..), no field: the exception is let go -/
theorem mk_endN {pins : List (Addr × Obj)} {σ : L2.St} {H1 H2 : Hp} {Q : XK} {hp hp2 h2 : Heap} {g1 g2 : Array GenState} {d1 d2 : Drawn} {t1 t2 : Nat} {os1 os2 : OsState} {a C : Addr} (T : Raises X (.ref C)) (I1 : Inv X pins σ H1 ⟨hp, g1, d1, t1, os1⟩)
    (ha : hp.objs.size ≤ a) (k : ∀ b o, hp.get? b = some o → hp2.get? b = some o) (un : Un (frs X.stack) [] (upd H1 a (exo a C none)) H2 hp2 h2) (hok : HOk X.prog X.w H2 h2) (ho : os2 = os1) (hb : AllBare g2)
    (ea : H2 a = some (exo a C none)) (q : Q (.ref C) none (del H2 a)) : MkP X pins σ Q (.ref a) ⟨h2, g2, d2, t2, os2⟩ := by
  obtain ⟨t0, hoe⟩ := exo_at hok ea
  have hn : H1 a = none := I1.hok.fresh ha
  obtain ⟨G, g1', g2'⟩ := restrict h2 fun b => decide (b ≠ a)
  have gk : ∀ b, b ≠ a → G.get? b = h2.get? b := fun b hb => g1' b (decide_eq_true hb)
  have ge : G.get? a = none := g2' a (by simp)
  have nha : ∀ {b : Addr} {o : Obj}, hp.get? b = some o → b ≠ a := fun {b o} z => Nat.ne_of_lt (Nat.lt_of_lt_of_le (Heap.lt_size z) ha)
  have up : ∀ {b : Addr}, b ≠ a → H1 b = none → upd H1 a (exo a C none) b = none := fun {b} hb n => by rw [upd_ne hb]; exact n
  have U : Un (frs X.stack) [] H1 (del H2 a) hp G := {
    keep := fun b o z n hf hx => by
      rw [gk b (nha z)]
      exact un.keep b o (k b o z) (up (nha z) n) hf hx
    slot := fun b o z n hf hx => by
      rw [gk b (nha z)]
      exact un.slot b o (k b o z) (up (nha z) n) hf hx
    free := fun b o z n hx => by
      rw [del_ne (nha z)]
      exact un.free b o (k b o z) (up (nha z) n) hx
    there := fun b o z hx => by
      rw [gk b (nha z)]
      exact un.there b o (k b o z) hx
    tups := fun b xs z => by
      rw [del_ne (ne_of_none z hn)]
      exact un.tups b xs (by rw [upd_ne (ne_of_none z hn)]; exact z)
    frzs := fun b o v z => by
      rw [del_ne (ne_of_none z hn)]
      exact un.frzs b o v (by rw [upd_ne (ne_of_none z hn)]; exact z)
    tbls := fun b ps z => by
      rw [del_ne (ne_of_none z hn)]
      exact un.tbls b ps (by rw [upd_ne (ne_of_none z hn)]; exact z) }
  have hok3 : HOk X.prog X.w (del H2 a) G := fun b o z => by
    have hba : b ≠ a := fun e => by
      rw [e, del_same] at z
      cases z
    rw [del_ne hba] at z
    have noa : ∀ {c : Addr}, H2 c = some (.own b) → c ≠ a := fun {c} hc => at_ne ea hc exo_own
    exact (hok b o z).stay (fun c v hc y => by
        have hca : c ≠ a := by
          rcases hc with hc | hc
          · rw [hc]
            exact hba
          · exact noa hc
        rw [gk c hca]
        exact y)
      (fun c hc => by rw [del_ne (noa hc)]; exact hc) (fun c xs hc => by rw [del_ne (at_ne ea hc exo_tup)]; exact hc)
  have J : Inv X pins σ (del H2 a) ⟨G, g2, d2, t2, os2⟩ := I1.call' (ch := []) ho U hok3 hb (fun b z => absurd z (by simp))
  refine ⟨a, _, _, ⟨G, g2, d2, t2, os2⟩, _, .ref C, none, rfl, J, fun b o z => ?_, ge, hoe, ⟨rfl, rfl⟩, rfl, rfl, del_same, rfl, hb, T, q⟩
  by_cases hba : b = a
  · have z' : G.get? b = some o := z
    rw [hba, ge] at z'
    cases z'
  · exact (gk b hba).symm.trans z
/-- the promise of an __init__ that makes no field -/
def spEi (C : Addr) : Sp := fun vs H Q _ => ∃ a, vs = [.ref a] ∧ H a = some (exo a C none) ∧ Q .non H
/-- C(), C's __init__ making no field -/
theorem pmk_exN {x : Str} {C fI : Addr} {k : Nat} {fd : FuncData} {ps : List Str} (Fb : ExcBaseFacts B newId initId bmB) (T : ExC X.K C newId bmB) (iC : PySem.W.findIn X.K (.ref C) "__init__" = some (some (.ref fI))) (tI : PySem.W.typeIn X.K (.ref fI) = some (.type "function"))
    (F1 : FnOk X.prog X.w X.K X.mg X.base CX0 k fI fd ps (spEi C)) (hr : Room (k + 1) X.A) (hb : Binds X.K fd ps []) (hg : Gl X x) (hm : X.mg x = some (.ref C))
    (hdb : (x == ("__debug__" : Str)) = false := by decide) :
    PMk X (.Call (.Name x p) [] [] pos) (fun _ H Q => Q (.ref C) none H) := by
  intro pins s σ H Q I h
  obtain ⟨nm, q, N, bs, sn, sub, ab, col, dd, k0, k1, k2, k3, k5, hC⟩ := T.cls
  refine wpAny_Call_Name_kw (ld_glob I hg hm ?_ hdb)
  refine PySem.W.callWith_K0 I.kIn T.kC ?_
  show wpAny _ _ (call (.ref C) []) _ _ _
  obtain ⟨hp, g, dr, tk, os⟩ := s
  have hsz : hp.objs.size ≤ hp.objs.size + 1 := Nat.le_succ _
  have hn : H (hp.objs.size + 1) = none := I.hok.fresh hsz
  have kk : ∀ b o, hp.get? b = some o → ((hp.push (PySem.W.kdv_tup [])).push (PySem.HandSPX.excO C hp.objs.size)).get? b = some o := fun b o e => Heap.get?_push_of_some _ (Heap.get?_push_of_some _ e)
  have hget : ((hp.push (PySem.W.kdv_tup [])).push (PySem.HandSPX.excO C hp.objs.size)).get? (hp.objs.size + 1) = some (PySem.HandSPX.excO C hp.objs.size) := by heap_get
  have I2 : Inv X pins σ (upd H (hp.objs.size + 1) (exo (hp.objs.size + 1) C none)) ⟨(hp.push (PySem.W.kdv_tup [])).push (PySem.HandSPX.excO C hp.objs.size), g, dr, tk, os⟩ :=
    I.laid (t' := tk) (a := hp.objs.size + 1) (o := exo (hp.objs.size + 1) C none) (h' := (hp.push (PySem.W.kdv_tup [])).push (PySem.HandSPX.excO C hp.objs.size)) kk hsz (exo_ok hget)
  have r2 : Vals [V.ref (hp.objs.size + 1)] [Value.ref (hp.objs.size + 1)] := .cons rfl .nil
  have hq : spEi C [V.ref (hp.objs.size + 1)] (upd H (hp.objs.size + 1) (exo (hp.objs.size + 1) C none)) (fun v H2 => v = .non ∧ H2 = upd H (hp.objs.size + 1) (exo (hp.objs.size + 1) C none)) (fun _ _ _ => False) :=
    ⟨_, rfl, upd_same, rfl, rfl⟩
  have hl : ([Value.ref (hp.objs.size + 1)] ++ []).length = ps.length := by
    have e := r2.length
    rw [F1.len _ _ _ _ hq] at e
    exact e.symm
  refine wpAny_call (PySem.HandSPX.call_own Fb (fun Y => rfl) (I.kIn _ _ hC) (PySem.W.looks_findIn I.kIn iC) (fun self => PySem.W.bind_fn I.kIn self tI) (Nat.zero_le _)
    (codeAny_mono (F1.run _ X.stack _ _ ⟨[Value.ref (hp.objs.size + 1)], []⟩ [Value.ref (hp.objs.size + 1)] _ _ (fun _ _ _ => False) (hr.make C [] []) (I2.env0.make C [] []) (hb _ [Value.ref (hp.objs.size + 1)] I2.kIn hl) r2 hq) fun r s' hq' => ?_))
  cases r with
  | error er => exact False.elim hq'
  | ok fl =>
    cases fl with
    | ret u =>
      obtain ⟨v, H2, os2, bare2, un2, hok2, rv, ev, eH⟩ := hq'
      subst ev
      subst eH
      obtain ⟨h2, g2, d2, t2, os'⟩ := s'
      refine ⟨rv, mk_endN (raises_own T.exC T.tyC) I hsz kk un2 hok2 os2 bare2 upd_same ?_⟩
      have eD : del (upd H (hp.objs.size + 1) (exo (hp.objs.size + 1) C none)) (hp.objs.size + 1) = H := by
        funext b
        by_cases hb : b = hp.objs.size + 1
        · rw [hb, del_same]
          exact hn.symm
        · rw [del_ne hb, upd_ne hb]
      rw [eD]
      exact h
    | next => exact False.elim hq'
    | brk => exact False.elim hq'
    | cont => exact False.elim hq'
end
/-! ### an own error over ValueError with one field -/
/-- the promise of an __init__ that makes the field f -/
def spE1 (C : Addr) (f : Str) : Sp := fun vs H Q _ => ∃ a v, vs = [.ref a, v] ∧ H a = some (exo a C none) ∧ ∀ dx, H dx = none → dx ≠ a → Q .non (upd (upd H dx (exd dx [(f, v)])) a (exo a C (some dx)))
/-- the same of two fields -/
def spE2 (C : Addr) (f g : Str) : Sp := fun vs H Q _ => ∃ a v u, vs = [.ref a, v, u] ∧ H a = some (exo a C none) ∧ ∀ dx, H dx = none → dx ≠ a → Q .non (upd (upd H dx (exd dx [(g, u), (f, v)])) a (exo a C (some dx)))
theorem heap_out {H : Hp} {a dx C : Addr} {fs : List (Str × V)} (ha : H a = none) (hd : dx ≠ a) : upd (del (upd (upd (upd H a (exo a C none)) dx (exd dx fs)) a (exo a C (some dx))) a) dx (.xd fs) = upd H dx (.xd fs) := by
  funext b
  by_cases h1 : b = dx
  · rw [h1, upd_same, upd_same]
  · rw [upd_ne h1, upd_ne h1]
    by_cases h2 : b = a
    · rw [h2, del_same, ha]
    · rw [del_ne h2, upd_ne h2, upd_ne h1, upd_ne h2]
theorem mk1 {C : Addr} {f : Str} {H : Hp} {v : V} {Q : XK} (h : ∀ dx, H dx = none → Q (.ref C) (some dx) (upd H dx (.xd [(f, v)]))) :
    [v].length ≤ 1000 ∧ ∀ a, H a = none → spE1 C f (.ref a :: ([v] ++ [])) (upd H a (exo a C none)) (fun v H2 => v = .non ∧ ∃ (d : Addr) (fs : List (Str × V)), H2 a = some (exo a C (some d)) ∧ H2 d = some (exd d fs) ∧ H d = none ∧ Q (.ref C) (some d) (upd (del H2 a) d (.xd fs))) (fun _ _ _ => False) := by
  refine ⟨by show 1 ≤ 1000; decide, fun a ha => ⟨a, v, rfl, upd_same, fun dx hdx hne => ?_⟩⟩
  have h0 : H dx = none := by rw [upd_ne hne] at hdx; exact hdx
  refine ⟨rfl, dx, [(f, v)], upd_same, by rw [upd_ne hne, upd_same], h0, ?_⟩
  rw [heap_out ha hne]
  exact h dx h0
theorem mk2 {C : Addr} {f g : Str} {H : Hp} {v u : V} {Q : XK} (h : ∀ dx, H dx = none → Q (.ref C) (some dx) (upd H dx (.xd [(g, u), (f, v)]))) :
    [v, u].length ≤ 1000 ∧ ∀ a, H a = none → spE2 C f g (.ref a :: ([v, u] ++ [])) (upd H a (exo a C none)) (fun v H2 => v = .non ∧ ∃ (d : Addr) (fs : List (Str × V)), H2 a = some (exo a C (some d)) ∧ H2 d = some (exd d fs) ∧ H d = none ∧ Q (.ref C) (some d) (upd (del H2 a) d (.xd fs))) (fun _ _ _ => False) := by
  refine ⟨by show 2 ≤ 1000; decide, fun a ha => ⟨a, v, u, rfl, upd_same, fun dx hdx hne => ?_⟩⟩
  have h0 : H dx = none := by rw [upd_ne hne] at hdx; exact hdx
  refine ⟨rfl, dx, [(g, u), (f, v)], upd_same, by rw [upd_ne hne, upd_same], h0, ?_⟩
  rw [heap_out ha hne]
  exact h dx h0
end EXB

set_option Elab.async false
set_option linter.all false
set_option maxRecDepth 100000
set_option maxHeartbeats 4000000
namespace BX
open PySem PySem.Spec PyProof.Rows L2
section
variable {X : Cx} {CX : CXT} {k : Nat} {f : Addr} {fd : FuncData} {ps ks : List Str} {sp : Sp} {E : L2.St → XK} {x : Str} {p pos : Pos} {e : Expr} {es : List Expr} {kws : List Keyword} {t tk : TA} {ds : List Value} {dvs : List V}
/-- a call with any arguments, what it raises being wished for at the caller's slots -/
theorem run_any {pins : List (Addr × Obj)} {σ : L2.St} {H : Hp} {s : Shared} {Q : VK} {us bs : List Value} {kw : List (Str × Value)} {vs : List V} (F : FnOkG X.prog X.w X.K X.mg X.base CX k f fd ps sp) (hr : Room k X.A) (hgd : X.A.guards = some []) (hx : PassesAt CX X σ (E σ))
    (I : Inv X pins σ H s) (hb : BindsTo s fd ⟨us, kw⟩ (ps.zip bs)) (r : Vals vs bs) (h : sp vs H Q (E σ)) : wpAny (model X.prog X.w) X.A (call (.ref f) us kw) (EP X pins σ Q) X.xe s := by
  refine wpAny_call (codeAny_mono (F.run X.A X.stack s H ⟨us, kw⟩ bs vs Q (E σ) hr hgd I.env0 hb r h) fun r s' hq => ?_)
  cases r with
  | error e => exact hx pins H s e s' I hq
  | ok fl =>
    cases fl with
    | ret u => exact I.after hq
    | next => exact False.elim hq
    | brk => exact False.elim hq
    | cont => exact False.elim hq
def tCallD (sp : Sp) (dvs : List V) (E : L2.St → XK) (t : TA) : TE := fun σ H Q => t σ H fun vs H1 => sp (vs ++ dvs) H1 Q (E σ)
/-- f(e, ..), the defaults behind them -/
theorem pe_callD (F : FnOkG X.prog X.w X.K X.mg X.base CX k f fd ps sp) (hr : Room k X.A) (hgd : X.A.guards = some []) (hg : Gl X x) (hm : X.mg x = some (.ref f)) (hk : PySem.W.keepIn X.K (.ref f) = true) (hb : Binds X.K fd ps ds) (hd : Vals dvs ds) (hx : ∀ σ, PassesAt CX X σ (E σ))
    (ha : PA X (e :: es) t) (hdb : (x == ("__debug__" : Str)) = false := by decide) (he : starEach (e :: es) X.env = (false, eval e X.env) :: starEach es X.env := by rfl) (hpl : (backTo pos (starEach es X.env)).any (·.1) = false := by rfl) :
    PE X (.Call (.Name x p) (e :: es) [] pos) (tCallD sp dvs E t) := by
  refine ⟨fun pins s σ H Q I h => ?_⟩
  refine wpAny_Call_Name_kw (ld_glob I hg hm ?_ hdb)
  refine PySem.W.callWith_K (h₀ := X.base) I.ok.mod.kin hk (thn (ha.run pos pins s σ H _ I h) fun us s1 ⟨vs, H1, I1, r, q⟩ => ⟨I1.kIn, ?_⟩) he hpl
  have r2 : Vals (vs ++ dvs) (us ++ ds) := r.append hd
  exact run_any F hr hgd (hx σ) I1 (hb s1 us I1.kIn (by rw [← r2.length]; exact F.len _ _ _ _ q)) r2 q
def tCallW (sp : Sp) (E : L2.St → XK) (tk : TA) : TE := fun σ H Q => tk σ H fun zs H1 => sp zs H1 Q (E σ)
/-- f(k = v, ..), all parameters by their names, in their order -/
theorem pe_callW (F : FnOkG X.prog X.w X.K X.mg X.base CX k f fd ps sp) (hr : Room k X.A) (hgd : X.A.guards = some []) (hg : Gl X x) (hm : X.mg x = some (.ref f)) (hk : PySem.W.keepIn X.K (.ref f) = true)
    (hb : ∀ (s : Shared) (ws : List Value), X.K.In s.heap → ws.length = ps.length → BindsTo s fd ⟨[], ps.zip ws⟩ (ps.zip ws)) (hx : ∀ σ, PassesAt CX X σ (E σ))
    (hkw : PK X kws tk) (hall : (backToKw pos (keywordEach kws X.env)).all (·.1.isSome) = true := by rfl) (hks : (backToKw pos (keywordEach kws X.env)).filterMap (·.1) = ps := by rfl)
    (hdb : (x == ("__debug__" : Str)) = false := by decide) (hpl : ((backTo pos (starEach [] X.env)).any (·.1) || (backToKw pos (keywordEach kws X.env)).any (·.1.isNone)) = false := by rfl) :
    PE X (.Call (.Name x p) [] kws pos) (tCallW sp E tk) := by
  refine ⟨fun pins s σ H Q I h => ?_⟩
  refine wpAny_Call_Name_kw (ld_glob I hg hm ?_ hdb)
  refine PySem.W.callWith_KW0 (h₀ := X.base) I.ok.mod.kin hk hall (thn (hkw.run pos pins s σ H _ I h) fun ws s2 ⟨zs, H2, I2, rz, q2⟩ => ⟨I2.kIn, ?_⟩) hpl
  rw [hks]
  exact run_any F hr hgd (hx σ) I2 (hb s2 ws I2.kIn (by rw [← rz.length]; exact F.len _ _ _ _ q2)) rz q2
end
end BX

set_option Elab.async false
set_option linter.all false
set_option maxRecDepth 100000
set_option maxHeartbeats 4000000
namespace BX
open PySem PySem.Spec PyProof.Rows L2
/-- the law's call, of a promise that holds where nothing is being shown -/
theorem law_callG {P : Program} {w : World} {K : PySem.W.Frag} {mg mb : Str → Option Value} {CX : CXT} {k : Nat} {fa a : Addr} {fd : FuncData} {x : Str} {sp : Sp} {s₁ : Shared} {vs : List Value} {ns : List Int}
    (KX : K.In s₁.heap) (hns : s₁.heap.Ns mainGlobals mg) (hb : s₁.heap.Ns builtinsNs mb) (hbb : ∀ x : Str, x ≠ "__name__" → mb x = bootBuiltins x) (hlim : s₁.heap.NoLimit) (hg : s₁.gens = #[])
    (ha : s₁.heap.get? a = some { cls := .type "list", data := .seq vs.toArray }) (hi : IntsAre vs ns) (hl : ns.length ≤ sizeLine) (hr : Room k callerA)
    (F : ∀ base : Heap, K.In base → base.Ns mainGlobals mg → FnOkG P w K mg base CX k fa fd [x] sp) (hbind : ∀ (s : Shared) (u : Value), BindsTo s fd ⟨[u], []⟩ [(x, u)])
    (hsp : ∀ H : Hp, Only H → SqL K H a (ns.map V.int) → sp [.ref a] H (fun v _ => v = .bl true) fun _ _ _ => False)
    (hCX : ∀ H e s', CX [] H s₁ (fun _ _ _ => False) e s' → False) :
    codeAny (model P w) callerA (.call (.ref fa) ⟨[.ref a], []⟩) (fun r s' => r = .ok (.ret (.bool true)) ∧ OldK s₁.heap s'.heap ∧ s'.os = s₁.os ∧ AllBare s'.gens) s₁ := by
  have rv := vals_ints hi
  have lenV := hi.length
  have core : ∀ H : Hp, Only H → SqL K H a (ns.map V.int) → HOk P w H s₁.heap → (∀ b, H b ≠ none → b = a) → (H a ≠ none → K.lookup a = none) →
      codeAny (model P w) callerA (.call (.ref fa) ⟨[.ref a], []⟩) (fun r s' => r = .ok (.ret (.bool true)) ∧ OldK s₁.heap s'.heap ∧ s'.os = s₁.os ∧ AllBare s'.gens) s₁ := by
    intro H hO hS hok hA hK
    have noA : ∀ {b : Addr} {o : Obj} {es : Array DictEntry} {ep : Nat}, s₁.heap.get? b = some o → o.data = .dict es ep → H b = none := fun {b o es ep} e dd => by
      cases q : H b with
      | none => rfl
      | some u =>
        have e' : b = a := hA b (by rw [q]; simp)
        rw [e', ha] at e
        cases e
        cases dd
    have nsK : ∀ {b : Addr} {m : Str → Option Value}, s₁.heap.Ns b m → (hidT s₁.heap H).Ns b m := fun {b m} ⟨o, es, ep, e, dd, r⟩ => ⟨o, es, ep, hidT_get e (noA e dd), dd, r⟩
    have hKb : K.In (hidT s₁.heap H) := fun b o e => hidT_get (KX b o e) (by
      cases q : H b with
      | none => rfl
      | some u =>
        have e' : b = a := hA b (by rw [q]; simp)
        rw [e'] at e q
        rw [hK (by rw [q]; simp)] at e
        cases e)
    have hM : Mod K mg (hidT s₁.heap H) := ⟨hKb, nsK hns, ⟨mb, nsK hb, hbb⟩, let ⟨mc, h1, h2⟩ := hlim; ⟨mc, nsK h1, h2⟩⟩
    have e0 : Env0 P w K mg (hidT s₁.heap H) callerA [] s₁ H := ⟨rfl, hM, fun b o e => of_hidT e, Nat.le_of_eq (hidT_size _ _), trivial, fun b hb => absurd (show b ∈ ([] : List Addr) from hb) (by simp), hok, .of_eq hg⟩
    refine codeAny_mono ((F _ hKb (nsK hns)).run callerA [] s₁ H ⟨[.ref a], []⟩ [.ref a] [.ref a] _ _ hr rfl e0 (hbind s₁ (.ref a)) (.cons rfl .nil) (hsp H hO hS)) fun r s' h => ?_
    cases r with
    | error e => exact (hCX H e s' h).elim
    | ok fl =>
      cases fl with
      | next => exact False.elim h
      | brk => exact False.elim h
      | cont => exact False.elim h
      | ret u =>
        obtain ⟨v, H', os, bare, un, hok', r', q⟩ := h
        have q' : v = .bl true := q
        subst q'
        obtain rfl : u = Value.bool true := r'
        refine ⟨rfl, OldK.of_keep fun b o e => ?_, os, bare⟩
        cases q : H b with
        | none => exact un.keep b o e q (by intro z; exact absurd (show b ∈ ([] : List Addr) from z) (by simp)) (by simp)
        | some u =>
          rcases hO b with z | ⟨ob, xs, z⟩
          · rw [q] at z; cases z
          · obtain ⟨e1, _⟩ := hok b _ z
            obtain ⟨e2, _⟩ := hok' b _ (un.frzs b ob _ z)
            rw [e] at e1; cases e1
            exact e2
  cases hk : K.lookup a with
  | some o =>
    have e := KX a o hk
    rw [ha] at e
    cases e
    refine core (fun _ => none) (fun _ => .inl rfl) (.inr ⟨_, vs.toArray, _, hk, rfl, rfl, rfl, by rw [List.size_toArray, lenV]; exact hl, by simpa using rv⟩) (fun b u z => by have z' : (none : Option HO) = some u := z; cases z') (fun b z => absurd rfl z) fun z => absurd rfl z
  | none =>
    refine core (fun b => if b = a then some (.frz { cls := .type "list", data := .seq vs.toArray } (.lst (ns.map V.int))) else none) (fun b => ?_) (.inl (.inr ⟨{ cls := .type "list", data := .seq vs.toArray }, if_pos rfl⟩)) (fun b u z => ?_) (fun b z => ?_) fun _ => hk
    · by_cases hb : b = a
      · exact .inr ⟨_, _, if_pos hb⟩
      · exact .inl (if_neg hb)
    · by_cases hb : b = a
      · have z' := (if_pos hb).symm.trans z
        cases z'
        subst hb
        exact ⟨ha, by rw [List.length_map]; exact hl, vs, _, rv, ha⟩
      · have z' := (if_neg hb).symm.trans z
        cases z'
    · by_cases hb : b = a
      · exact hb
      · exact absurd (if_neg hb) z
theorem walk_ofG {l : PySem.W.OpenLaw} {n k : Nat} {q : Program} {loose : List Str} {XP : (Str → Option Value) → Heap → Prop} {YP : World → Heap → Prop} {d : DefRec} {K : Params → PySem.W.Frag} {CX : World → CXT} {sp : World → Sp} {x : Str}
    (hn : l.most = some n) (hn2 : n ≤ sizeLine) (hdf : d.params.defaults = []) (hr : Room k callerA) (hY : ∀ (w : World) (h : Heap), YP w h → (K w.params).In h)
    (F : ∀ (w : World) (mg : Str → Option Value) (fa : Addr) (h : Heap), (K w.params).In h → h.Ns mainGlobals mg → mg d.name = some (.ref fa) →
      ∃ fd : FuncData, (∀ (s : Shared) (u : Value), BindsTo s fd ⟨[u], []⟩ [(x, u)]) ∧
        ∀ base : Heap, (K w.params).In base → base.Ns mainGlobals mg → FnOkG l.prog w (K w.params) mg base (CX w) k fa fd [x] (sp w))
    (hsp : ∀ (w : World) (H : Hp) (a : Addr) (ns : List Int), ns.length ≤ n → Only H → SqL (K w.params) H a (ns.map V.int) → sp w [.ref a] H (fun v _ => v = .bl true) fun _ _ _ => False)
    (hCX : ∀ (w : World) (H : Hp) (s : Shared) (e : Value) (s' : Shared), CX w [] H s (fun _ _ _ => False) e s' → False) :
    PySem.W.WalkO q loose XP YP l.row.toRowW d [] (fun f vs => PySem.call f vs) := by
  refine Att.attach_call hn hdf fun w s₀ s₁ mg mb fa o pm cd doc a vs ns G Y ho hd hcd hmg hobj hints hlen hg => ?_
  have KX := hY w _ Y
  obtain ⟨fd, hb, hF⟩ := F w mg fa _ KX G.T.g hmg
  exact law_callG KX G.T.g G.T.b G.T.builtins G.T.nolimit hg hobj hints (Nat.le_trans hlen hn2) hr hF hb (fun H hO hS => hsp w H a ns hlen hO hS) fun H e s' => hCX w H s₁ e s'
end BX

set_option Elab.async false
set_option linter.all false
set_option maxRecDepth 100000
set_option maxHeartbeats 4000000
namespace Ru
open PySem PySem.Spec PyProof.Rows L2 BX EXB Co
open Fr (Bd)
/-! ### rows of fractions -/
/-- cells and what they are worth, below 2 ^ n -/
structure FrN (K : PySem.W.Frag) (H : Hp) (n : Nat) (cs : List V) (qs : List Rat) : Prop where
  len : cs.length = qs.length
  at_ : ∀ (i : Nat) (v : V), cs[i]? = some v → ∃ (a : Addr) (q : Rat), qs[i]? = some q ∧ v = .ref a ∧ SqT K H a (rp q) ∧ Bd n q
section
variable {K : PySem.W.Frag} {H H' : Hp} {n : Nat} {cs : List V} {qs : List Rat}
theorem FrN.keep (h : FrN K H n cs qs) (k : ∀ a xs, SqT K H a xs → SqT K H' a xs) : FrN K H' n cs qs :=
  ⟨h.len, fun i v e => let ⟨a, q, e1, e2, e3, e4⟩ := h.at_ i v e; ⟨a, q, e1, e2, k _ _ e3, e4⟩⟩
theorem FrN.same (h : FrN K H n cs qs) (e : Same H H') : FrN K H' n cs qs := h.keep fun _ _ => seqT e
theorem FrN.mono {m : Nat} (h : FrN K H n cs qs) (l : n ≤ m) : FrN K H m cs qs :=
  ⟨h.len, fun i v e => let ⟨a, q, e1, e2, e3, e4⟩ := h.at_ i v e; ⟨a, q, e1, e2, e3, e4.mono l⟩⟩
theorem FrN.nil : FrN K H n [] [] := ⟨rfl, fun i v e => by simp at e⟩
theorem FrN.snoc {a : Addr} {q : Rat} (h : FrN K H n cs qs) (ha : SqT K H a (rp q)) (hb : Bd n q) : FrN K H n (cs ++ [.ref a]) (qs ++ [q]) := by
  refine ⟨by rw [List.length_append, List.length_append, h.len]; rfl, fun i v e => ?_⟩
  by_cases hi : i < cs.length
  · rw [List.getElem?_append_left hi] at e
    obtain ⟨a', q', e1, e2, e3, e4⟩ := h.at_ i v e
    exact ⟨a', q', by rw [List.getElem?_append_left (by rw [← h.len]; exact hi)]; exact e1, e2, e3, e4⟩
  · rw [List.getElem?_append_right (by omega)] at e
    have e0 : i - cs.length = 0 := by
      cases z : i - cs.length with
      | zero => rfl
      | succ j => rw [z] at e; simp at e
    rw [e0] at e
    have ev : (V.ref a) = v := Option.some.inj e
    refine ⟨a, q, ?_, ev.symm, ha, hb⟩
    rw [List.getElem?_append_right (by rw [← h.len]; omega), ← h.len, e0]
    rfl
theorem FrN.set {a : Addr} {q : Rat} {j : Nat} (h : FrN K H n cs qs) (ha : SqT K H a (rp q)) (hb : Bd n q) : FrN K H n (cs.set j (.ref a)) (qs.set j q) := by
  refine ⟨by rw [List.length_set, List.length_set, h.len], fun i v e => ?_⟩
  by_cases hij : j = i
  · subst hij
    have hj : j < cs.length := by
      have := (List.getElem?_eq_some_iff.mp e).1
      rw [List.length_set] at this
      exact this
    rw [List.getElem?_set_self hj] at e
    exact ⟨a, q, List.getElem?_set_self (by rw [← h.len]; exact hj), (Option.some.inj e).symm, ha, hb⟩
  · rw [List.getElem?_set_ne hij] at e
    obtain ⟨a', q', e1, e2, e3, e4⟩ := h.at_ i v e
    exact ⟨a', q', by rw [List.getElem?_set_ne hij]; exact e1, e2, e3, e4⟩
theorem FrN.dp : ∀ {cs : List V} {qs : List Rat}, FrN K H n cs qs → DpAll K H cs (qs.map dR)
  | [], [], _ => .nil
  | [], _ :: _, h => by have := h.len; simp at this
  | _ :: _, [], h => by have := h.len; simp at this
  | v :: cs, q :: qs, h => by
    obtain ⟨a, q', e1, rfl, e3, _⟩ := h.at_ 0 v rfl
    have e : q = q' := Option.some.inj e1
    subst e
    exact .cons (dp_r e3) (FrN.dp ⟨by have := h.len; simpa using this, fun i v e => h.at_ (i + 1) v e⟩)
end
/-- all but ex stays -/
def SameB (ex : Addr) (H H' : Hp) : Prop := ∀ b o, b ≠ ex → H b = some o → H' b = some o
theorem SameB.of {ex : Addr} {H H' : Hp} (h : Same H H') : SameB ex H H' := fun b o _ e => h b o e
theorem SameB.trans {ex : Addr} {H H1 H2 : Hp} (a : SameB ex H H1) (b : SameB ex H1 H2) : SameB ex H H2 := fun c o hc h => b c o hc (a c o hc h)
theorem SameB.upd {ex : Addr} {H : Hp} {o : HO} : SameB ex H (upd H ex o) := fun b u hb e => by rw [upd_ne hb]; exact e
theorem SameB.tup {K : PySem.W.Frag} {ex : Addr} {H H' : Hp} {ys : List V} (h : SameB ex H H') (hx : H ex = some (.lst ys)) : ∀ a xs, SqT K H a xs → SqT K H' a xs := fun a xs z => by
  rcases z with (z | ⟨o, z⟩) | z
  · exact .inl (.inl (h _ _ (ne_of z hx (by intro w; cases w)) z))
  · exact .inl (.inr ⟨o, h _ _ (ne_of z hx (by intro w; cases w)) z⟩)
  · exact .inr z
/-- what stands in the rows rs is worth rss -/
def RowsAt (K : PySem.W.Frag) (H : Hp) (n : Nat) (rs : List Addr) (rss : List (List Rat)) : Prop := rs.length = rss.length ∧ ∀ (j : Nat) (r : Addr), rs[j]? = some r → ∃ cs qs, rss[j]? = some qs ∧ H r = some (.lst cs) ∧ FrN K H n cs qs
theorem RowsAt.keep {K : PySem.W.Frag} {H H' : Hp} {n : Nat} {rs : List Addr} {rss : List (List Rat)} {ex : Addr} {ys : List V} (h : RowsAt K H n rs rss) (s : SameB ex H H') (hx : H ex = some (.lst ys)) (hn : ex ∉ rs) : RowsAt K H' n rs rss := by
  refine ⟨h.1, fun j r e => ?_⟩
  obtain ⟨cs, qs, e1, e2, e3⟩ := h.2 j r e
  exact ⟨cs, qs, e1, s r _ (fun z => hn (by rw [← z]; exact List.mem_of_getElem? e)) e2, e3.keep (s.tup hx)⟩
theorem RowsAt.same {K : PySem.W.Frag} {H H' : Hp} {n : Nat} {rs : List Addr} {rss : List (List Rat)} (h : RowsAt K H n rs rss) (s : Same H H') : RowsAt K H' n rs rss := by
  refine ⟨h.1, fun j r e => ?_⟩
  obtain ⟨cs, qs, e1, e2, e3⟩ := h.2 j r e
  exact ⟨cs, qs, e1, s r _ e2, e3.same s⟩
theorem RowsAt.nil {K : PySem.W.Frag} {H : Hp} {n : Nat} : RowsAt K H n [] [] := ⟨rfl, fun j r e => by simp at e⟩
theorem RowsAt.snoc {K : PySem.W.Frag} {H : Hp} {n : Nat} {rs : List Addr} {rss : List (List Rat)} {r : Addr} {cs : List V} {qs : List Rat} (h : RowsAt K H n rs rss) (hr : H r = some (.lst cs)) (hf : FrN K H n cs qs) : RowsAt K H n (rs ++ [r]) (rss ++ [qs]) := by
  refine ⟨by rw [List.length_append, List.length_append, h.1]; rfl, fun j x e => ?_⟩
  by_cases hj : j < rs.length
  · rw [List.getElem?_append_left hj] at e
    obtain ⟨cs', qs', e1, e2, e3⟩ := h.2 j x e
    exact ⟨cs', qs', by rw [List.getElem?_append_left (by rw [← h.1]; exact hj)]; exact e1, e2, e3⟩
  · rw [List.getElem?_append_right (by omega)] at e
    have e0 : j - rs.length = 0 := by
      cases z : j - rs.length with
      | zero => rfl
      | succ i => rw [z] at e; simp at e
    rw [e0] at e
    have ev : r = x := Option.some.inj e
    subst ev
    refine ⟨cs, qs, ?_, hr, hf⟩
    rw [List.getElem?_append_right (by rw [← h.1]; omega), ← h.1, e0]
    rfl
theorem RowsAt.dp {K : PySem.W.Frag} {H : Hp} {n : Nat} : ∀ {rs : List Addr} {rss : List (List Rat)}, RowsAt K H n rs rss → DpAll K H (rs.map V.ref) (rss.map fun qs => PyData.list (qs.map dR))
  | [], [], _ => .nil
  | [], _ :: _, h => by have := h.1; simp at this
  | _ :: _, [], h => by have := h.1; simp at this
  | r :: rs, q :: rss, h => by
    obtain ⟨cs, qs, e1, e2, e3⟩ := h.2 0 r rfl
    have e : q = qs := Option.some.inj e1
    subst e
    exact .cons (.lst (SqL.of e2) e3.dp) (RowsAt.dp ⟨by have := h.1; simpa using this, fun j x e => h.2 (j + 1) x e⟩)
/-- rows as data -/
def dRows (rss : List (List Rat)) : PyData := .list (rss.map fun qs => PyData.list (qs.map dR))
theorem rows_lays : ∀ rss : List (List Rat), PyData.canLayAll0 (rss.map fun qs => PyData.list (qs.map dR)) = true
  | [] => rfl
  | q :: rss => by
    show (PyData.canLayAll0 (q.map dR) && PyData.canLayAll0 (rss.map fun qs => PyData.list (qs.map dR))) = true
    rw [rows_lays rss, lays q]
    rfl
theorem rows_deps : ∀ rss : List (List Rat), PyData.depthAll (rss.map fun qs => PyData.list (qs.map dR)) ≤ 2
  | [] => by decide
  | q :: rss => by
    have h1 := rows_deps rss
    have h2 := deps q
    show max (PyData.depthAll (q.map dR) + 1) (PyData.depthAll (rss.map fun qs => PyData.list (qs.map dR))) ≤ 2
    omega
theorem dRows_lay (rss : List (List Rat)) : (dRows rss).canLay0 = true := rows_lays rss
theorem dRows_shaped (rss : List (List Rat)) : SeqAt.shaped (dRows rss) = true := by
  unfold SeqAt.shaped
  rw [dRows_lay, Bool.true_and]
  refine decide_eq_true ?_
  have := rows_deps rss
  show PyData.depthAll (rss.map fun qs => PyData.list (qs.map dR)) + 1 ≤ 64
  omega
/-- a new list of new rows, beside what stood in H0 (but ex) -/
structure New (K : PySem.W.Frag) (H0 H : Hp) (ex D : Addr) (rs : List Addr) (rss : List (List Rat)) (n : Nat) : Prop where
  at_ : H D = some (.lst (rs.map V.ref))
  nd : rs.Nodup
  ne : D ∉ rs
  fresh : ∀ x ∈ rs, H0 x = none
  fD : H0 D = none
  nx : ex ∉ rs
  keep : SameB ex H0 H
  rows : RowsAt K H n rs rss
theorem New.start {K : PySem.W.Frag} {H : Hp} {ex D : Addr} {n : Nat} (hD : H D = none) : New K H (upd H D (.lst [])) ex D [] [] n :=
  ⟨upd_same, List.nodup_nil, by simp, fun x hx => by simp at hx, hD, by simp, SameB.of (same_new hD _), RowsAt.nil⟩
/-- a step beside the list: what is new is laid, ex may change -/
theorem New.step {K : PySem.W.Frag} {H0 H H1 : Hp} {ex D : Addr} {rs : List Addr} {rss : List (List Rat)} {n : Nat} {ys : List V} (h : New K H0 H ex D rs rss n) (s : SameB ex H H1) (hx : H ex = some (.lst ys)) (hDx : D ≠ ex) : New K H0 H1 ex D rs rss n :=
  ⟨s D _ hDx h.at_, h.nd, h.ne, h.fresh, h.fD, h.nx, h.keep.trans s, h.rows.keep s hx h.nx⟩
theorem New.stepS {K : PySem.W.Frag} {H0 H H1 : Hp} {ex D : Addr} {rs : List Addr} {rss : List (List Rat)} {n : Nat} (h : New K H0 H ex D rs rss n) (s : Same H H1) : New K H0 H1 ex D rs rss n :=
  ⟨s D _ h.at_, h.nd, h.ne, h.fresh, h.fD, h.nx, h.keep.trans (SameB.of s), h.rows.same s⟩
/-- one row more -/
theorem New.push {K : PySem.W.Frag} {H0 H H1 : Hp} {ex D l : Addr} {rs : List Addr} {rss : List (List Rat)} {n : Nat} {cs : List V} {qs : List Rat} (h0 : New K H0 H ex D rs rss n) (h : New K H0 H1 ex D rs rss n) (hl0 : H l = none) (hl : H1 l = some (.lst cs)) (hf : FrN K H1 n cs qs) (hle : l ≠ ex) :
    New K H0 (upd H1 D (.lst (rs.map V.ref ++ [V.ref l]))) ex D (rs ++ [l]) (rss ++ [qs]) n := by
  have hlD : l ≠ D := fun e => by
    rw [e, h0.at_] at hl0
    cases hl0
  have hlr : l ∉ rs := fun hm => by
    obtain ⟨j, hj, e⟩ := List.getElem_of_mem hm
    obtain ⟨cs', qs', _, e2, _⟩ := h0.rows.2 j l (by rw [List.getElem?_eq_getElem hj, e])
    rw [hl0] at e2
    cases e2
  have hl00 : H0 l = none := by
    cases e : H0 l with
    | none => rfl
    | some o =>
      rw [h0.keep l o hle e] at hl0
      cases hl0
  have sD : SameB D H1 (upd H1 D (.lst (rs.map V.ref ++ [V.ref l]))) := SameB.upd
  refine ⟨by rw [upd_same, List.map_append]; rfl, ?_, ?_, ?_, h.fD, ?_, ?_, ?_⟩
  · rw [List.nodup_append]
    refine ⟨h.nd, by simp, fun a ha b hb => ?_⟩
    have : b = l := by simpa using hb
    rw [this]
    exact fun e => hlr (by rw [← e]; exact ha)
  · intro hm
    rcases List.mem_append.mp hm with hm | hm
    · exact h.ne hm
    · have : D = l := by simpa using hm
      exact hlD this.symm
  · intro x hx
    rcases List.mem_append.mp hx with hx | hx
    · exact h.fresh x hx
    · have : x = l := by simpa using hx
      rw [this]
      exact hl00
  · intro hm
    rcases List.mem_append.mp hm with hm | hm
    · exact h.nx hm
    · have : ex = l := by simpa using hm
      exact hle this.symm
  · intro b o hb e
    rw [upd_ne (ne_of_none e h.fD)]
    exact h.keep b o hb e
  · exact (h.rows.keep sD h.at_ h.ne).snoc (by rw [upd_ne hlD]; exact hl) (hf.keep (sD.tup h.at_))
/-- list(x), by values -/
def rListOf (K : PySem.W.Frag) : List V → Hp → VK → Prop := fun xs H Q => ∃ p ys, xs = [V.ref p] ∧ (SqL K H p ys ∨ SqT K H p ys) ∧ ∀ l : Addr, H l = none → Q (V.ref l) (upd H l (.lst ys))
/-! ### rules -/
def RowOk (m : Nat) (qs : List Rat) : Prop := qs.length = m ∧ (∀ q ∈ qs, 0 ≤ q) ∧ qs.sum = 1
structure Good (rss : List (List Rat)) (m : Nat) : Prop where
  w1 : 1 ≤ rss.length
  w5 : rss.length ≤ 5
  m1 : 1 ≤ m
  m30 : m ≤ 30
  row : ∀ qs ∈ rss, RowOk m qs
/-- a list of rows that stands -/
def RwL (K : PySem.W.Frag) (H : Hp) (a : Addr) (rs : List Addr) (rss : List (List Rat)) (n : Nat) : Prop := H a = some (.lst (rs.map V.ref)) ∧ RowsAt K H n rs rss
theorem RwL.same {K : PySem.W.Frag} {H H' : Hp} {a : Addr} {rs : List Addr} {rss : List (List Rat)} {n : Nat} (h : RwL K H a rs rss n) (s : Same H H') : RwL K H' a rs rss n := ⟨s _ _ h.1, h.2.same s⟩
theorem RwL.dp {K : PySem.W.Frag} {H : Hp} {a : Addr} {rs : List Addr} {rss : List (List Rat)} {n : Nat} (h : RwL K H a rs rss n) : Dp K H (.ref a) (dRows rss) := .lst (SqL.of h.1) h.2.dp
theorem New.rwl {K : PySem.W.Frag} {H0 H : Hp} {ex D : Addr} {rs : List Addr} {rss : List (List Rat)} {n : Nat} (h : New K H0 H ex D rs rss n) : RwL K H D rs rss n := ⟨h.at_, h.rows⟩
/-- a new list of new rows -/
def Fresh (K : PySem.W.Frag) (H H' : Hp) (D : Addr) (rs : List Addr) (rss : List (List Rat)) (n : Nat) : Prop := RwL K H' D rs rss n ∧ rs.Nodup ∧ D ∉ rs ∧ H D = none ∧ (∀ x ∈ rs, H x = none) ∧ Same H H'
/-- an instance of the class at C, of these rows -/
def IsRule (K : PySem.W.Frag) (H : Hp) (C x : Addr) (rss : List (List Rat)) (n : Nat) : Prop := ∃ dx ra rs, H x = some (.ins C dx [("own_rows", .ref ra)]) ∧ RwL K H ra rs rss n
theorem IsRule.same {K : PySem.W.Frag} {H H' : Hp} {C x : Addr} {rss : List (List Rat)} {n : Nat} (h : IsRule K H C x rss n) (s : Same H H') : IsRule K H' C x rss n :=
  let ⟨dx, ra, rs, e1, e2⟩ := h; ⟨dx, ra, rs, s _ _ e1, e2.same s⟩
theorem New.toFresh {K : PySem.W.Frag} {H0 H : Hp} {D : Addr} {rs : List Addr} {rss : List (List Rat)} {n : Nat} (h : New K H0 H D D rs rss n) : Fresh K H0 H D rs rss n :=
  ⟨h.rwl, h.nd, h.ne, h.fD, h.fresh, fun b o e => h.keep b o (ne_of_none e h.fD) e⟩
/-! ### the mathematics of rules -/
theorem sum_nonneg' : ∀ {qs : List Rat}, (∀ q ∈ qs, 0 ≤ q) → 0 ≤ qs.sum
  | [], _ => by rw [List.sum_nil]; exact Rat.le_refl
  | q :: qs, h => by
    rw [List.sum_cons]
    exact Rat.add_nonneg (h q (List.mem_cons_self ..)) (sum_nonneg' fun x hx => h x (List.mem_cons_of_mem _ hx))
/-- shares of two rows side by side -/
def rowB (row second : List Rat) : List Rat := row.flatMap fun s => second.map fun o => s * o
theorem sum_map_mul (s : Rat) : ∀ l : List Rat, (l.map fun o => s * o).sum = s * l.sum
  | [] => by rw [List.map_nil, List.sum_nil, Rat.mul_zero]
  | x :: l => by rw [List.map_cons, List.sum_cons, List.sum_cons, sum_map_mul s l, Rat.mul_add]
theorem rowB_sum : ∀ (row second : List Rat), (rowB row second).sum = row.sum * second.sum
  | [], second => by show ([] : List Rat).sum = _; rw [List.sum_nil, Rat.zero_mul]
  | s :: row, second => by
    show ((second.map fun o => s * o) ++ rowB row second).sum = _
    rw [List.sum_append, sum_map_mul, rowB_sum row second, List.sum_cons, Rat.add_mul]
theorem rowB_len : ∀ (row second : List Rat), (rowB row second).length = row.length * second.length
  | [], second => by show 0 = _; rw [List.length_nil, Nat.zero_mul]
  | s :: row, second => by
    show ((second.map fun o => s * o) ++ rowB row second).length = _
    rw [List.length_append, List.length_map, rowB_len row second, List.length_cons, Nat.succ_mul, Nat.add_comm]
theorem rowB_ok {m k : Nat} {row second : List Rat} (h1 : RowOk m row) (h2 : RowOk k second) : RowOk (m * k) (rowB row second) := by
  refine ⟨by rw [rowB_len, h1.1, h2.1], fun q hq => ?_, by rw [rowB_sum, h1.2.2, h2.2.2, Rat.mul_one]⟩
  obtain ⟨s, hs, hq⟩ := List.mem_flatMap.mp hq
  obtain ⟨o, ho, rfl⟩ := List.mem_map.mp hq
  exact Rat.mul_nonneg (h1.2.1 s hs) (h2.2.1 o ho)
/-- words of one group are one -/
def grp : List Rat → List Nat → List Rat → List Rat
  | s :: row, g :: gs, told => grp row gs (told.set g (told.getD g 0 + s))
  | _, _, told => told
theorem grp_len : ∀ (row : List Rat) (gs : List Nat) (told : List Rat), (grp row gs told).length = told.length
  | [], _, _ => by rw [grp] <;> simp
  | _ :: _, [], _ => by rw [grp] <;> simp
  | s :: row, g :: gs, told => by rw [grp, grp_len row gs, List.length_set]
theorem set_sum : ∀ (l : List Rat) (g : Nat) (s : Rat), g < l.length → (l.set g (l.getD g 0 + s)).sum = l.sum + s
  | [], g, s, h => by simp at h
  | x :: l, 0, s, h => by
    show ((x + s) :: l).sum = _
    rw [List.sum_cons, List.sum_cons, Rat.add_assoc, Rat.add_assoc, Rat.add_comm s]
  | x :: l, g + 1, s, h => by
    show (x :: l.set g (l.getD g 0 + s)).sum = _
    rw [List.sum_cons, List.sum_cons, set_sum l g s (by simpa using h), Rat.add_assoc]
theorem grp_sum : ∀ (row : List Rat) (gs : List Nat) (told : List Rat), row.length = gs.length → (∀ g ∈ gs, g < told.length) → (grp row gs told).sum = told.sum + row.sum
  | [], [], told, _, _ => by show told.sum = _; rw [List.sum_nil, Rat.add_zero]
  | [], _ :: _, _, h, _ => by simp at h
  | _ :: _, [], _, h, _ => by simp at h
  | s :: row, g :: gs, told, h, hg => by
    rw [grp, grp_sum row gs _ (by simpa using h) (fun x hx => by rw [List.length_set]; exact hg x (List.mem_cons_of_mem _ hx)), set_sum told g s (hg g (List.mem_cons_self ..)), List.sum_cons, Rat.add_assoc]
theorem grp_nonneg : ∀ (row : List Rat) (gs : List Nat) (told : List Rat), (∀ q ∈ row, 0 ≤ q) → (∀ q ∈ told, 0 ≤ q) → ∀ q ∈ grp row gs told, 0 ≤ q
  | [], _, _, _, ht => by rw [grp]; exact ht; simp
  | _ :: _, [], _, _, ht => by rw [grp]; exact ht; simp
  | s :: row, g :: gs, told, hr, ht => by
    rw [grp]
    refine grp_nonneg row gs _ (fun q hq => hr q (List.mem_cons_of_mem _ hq)) fun q hq => ?_
    have hx : 0 ≤ told.getD g 0 := by
      by_cases h : g < told.length
      · rw [List.getD_eq_getElem?_getD, List.getElem?_eq_getElem h]
        exact ht _ (List.getElem_mem h)
      · rw [List.getD_eq_getElem?_getD, List.getElem?_eq_none (by omega)]
        exact Rat.le_refl
    rcases List.mem_or_eq_of_mem_set hq with hq | rfl
    · exact ht q hq
    · exact Rat.add_nonneg hx (hr s (List.mem_cons_self ..))
theorem grp_ok {m many : Nat} {row : List Rat} {gs : List Nat} (h : RowOk m row) (hl : gs.length = m) (hg : ∀ g ∈ gs, g < many) : RowOk many (grp row gs (List.replicate many 0)) := by
  have z : ∀ k : Nat, (List.replicate k (0 : Rat)).sum = 0 := fun k => by
    induction k with
    | zero => rfl
    | succ k ih => rw [List.replicate_succ, List.sum_cons, ih, Rat.add_zero]
  refine ⟨by rw [grp_len, List.length_replicate], grp_nonneg row gs _ h.2.1 fun q hq => ?_, ?_⟩
  · rw [List.eq_of_mem_replicate hq]
    exact Rat.le_refl
  · rw [grp_sum row gs _ (by rw [h.1, hl]) (fun g hgm => by rw [List.length_replicate]; exact hg g hgm), z, Rat.zero_add]
    exact h.2.2
/-- the row of the world i among w -/
def unit (w i : Nat) : List Rat := (List.range w).map fun j => if j = i then 1 else 0
theorem unit_sum : ∀ (w i : Nat), (unit w i).sum = if i < w then 1 else 0
  | 0, i => rfl
  | w + 1, i => by
    unfold unit
    rw [List.range_succ, List.map_append, List.sum_append]
    have ih := unit_sum w i
    unfold unit at ih
    rw [ih]
    show _ + ([if w = i then (1 : Rat) else 0]).sum = _
    rw [List.sum_cons, List.sum_nil, Rat.add_zero]
    by_cases h1 : i < w
    · rw [if_pos h1, if_neg (by omega), if_pos (by omega), Rat.add_zero]
    · by_cases h2 : w = i
      · rw [if_neg h1, if_pos h2, if_pos (by omega), Rat.zero_add]
      · rw [if_neg h1, if_neg h2, if_neg (by omega), Rat.zero_add]
theorem unit_ok {w i : Nat} (h : i < w) : RowOk w (unit w i) := by
  refine ⟨by unfold unit; rw [List.length_map, List.length_range], fun q hq => ?_, by rw [unit_sum, if_pos h]⟩
  obtain ⟨j, _, rfl⟩ := List.mem_map.mp hq
  split
  · decide
  · exact Rat.le_refl
end Ru

set_option Elab.async false
set_option linter.all false
set_option maxRecDepth 100000
set_option maxHeartbeats 4000000
namespace BX
open PySem PySem.Spec PyProof.Rows L2
def tMakeD (C : Addr) (sp : Sp) (dvs : List V) (E : L2.St → XK) (t : TA) : TE := fun σ H Q => t σ H fun vs H1 => ∀ x dx, H1 x = none → H1 dx = none → dx ≠ x → sp (.ref x :: (vs ++ dvs)) (upd (upd H1 dx (.own x)) x (.ins C dx [])) (fun v H2 => v = .non ∧ Q (.ref x) H2) (E σ)
section
variable {X : Cx} {CX : CXT} {k : Nat} {f C : Addr} {fd : FuncData} {ps : List Str} {sp : Sp} {E : L2.St → XK} {x : Str} {p pos : Pos} {e : Expr} {es : List Expr} {t : TA} {ds : List Value} {dvs : List V}
/-- C(e, ..), what its __init__ raises being wished for at the caller's slots -/
theorem pe_makeD (M : Mk X.K C f) (F : FnOk X.prog X.w X.K X.mg X.base CX k f fd ps sp) (hr : Room (k + 1) X.A) (hg : Gl X x) (hm : X.mg x = some (.ref C)) (hb : Binds X.K fd ps ds) (hd : Vals dvs ds) (hx : ∀ σ, PassesAt CX X σ (E σ))
    (ha : PA X (e :: es) t) (hdb : (x == ("__debug__" : Str)) = false := by decide) (he : starEach (e :: es) X.env = (false, eval e X.env) :: starEach es X.env := by rfl) (hpl : (backTo pos (starEach es X.env)).any (·.1) = false := by rfl) :
    PE X (.Call (.Name x p) (e :: es) [] pos) (tMakeD C sp dvs E t) := by
  refine ⟨fun pins s σ H Q I h => ?_⟩
  refine wpAny_Call_Name_kw (ld_glob I hg hm ?_ hdb)
  refine PySem.W.callWith_K (h₀ := X.base) I.ok.mod.kin M.kp (thn (ha.run pos pins s σ H _ I h) fun us s1 ⟨vs, H1, I1, r, q⟩ => ⟨I1.kIn, ?_⟩) he hpl
  have hq := q (s1.heap.objs.size + 1) s1.heap.objs.size (I1.hok.fresh (Nat.le_succ _)) (I1.hok.fresh (Nat.le_refl _)) (Nat.ne_of_lt (Nat.lt_succ_self _))
  have I2 := Inv.made (C := C) I1
  have r2 : Vals (V.ref (s1.heap.objs.size + 1) :: (vs ++ dvs)) (Value.ref (s1.heap.objs.size + 1) :: (us ++ ds)) := .cons rfl (r.append hd)
  have hl : (Value.ref (s1.heap.objs.size + 1) :: us ++ ds).length = ps.length := by
    have z := r2.length
    rw [F.len _ _ _ _ hq] at z
    exact z.symm
  refine wpAny_call (make_map (f := f) I1.kIn M.makes M.init (beq_iff_eq.mp M.fn) (codeAny_mono (F.run _ X.stack _ _ ⟨Value.ref (s1.heap.objs.size + 1) :: us, []⟩ (Value.ref (s1.heap.objs.size + 1) :: (us ++ ds)) _ _ (E σ) (hr.make C us [])
    (I2.env0.make C us []) (hb _ (Value.ref (s1.heap.objs.size + 1) :: us) I2.kIn hl) r2 hq) fun r s' hq' => ?_))
  cases r with
  | error er => exact hx σ pins _ _ er s' I2 hq'
  | ok fl =>
    cases fl with
    | ret u =>
      obtain ⟨v, H', I3, rv, ev, q3⟩ := I2.after hq'
      subst ev
      exact ⟨rv, ⟨V.ref (s1.heap.objs.size + 1), H', I3, rfl, q3⟩⟩
    | next => exact False.elim hq'
    | brk => exact False.elim hq'
    | cont => exact False.elim hq'
end
end BX

set_option Elab.async false
set_option linter.all false
set_option maxRecDepth 100000
set_option maxHeartbeats 4000000
namespace Rs
open PySem PySem.Spec PyProof.Rows L2 BX EXB Co Ru
open Fr (Bd)
theorem upd_swap {H : Hp} {a dx : Addr} {A B A' : HO} (h : dx ≠ a) : upd (upd (upd H dx A) a B) dx A' = upd (upd H dx A') a B := by
  funext b
  by_cases h1 : b = dx
  · rw [h1, upd_same, upd_ne h, upd_same]
  · rw [upd_ne h1]
    by_cases h2 : b = a
    · rw [h2, upd_same, upd_same]
    · rw [upd_ne h2, upd_ne h2, upd_ne h1, upd_ne h1]
abbrev Rsp := Option (List V)
def Rv (H : Hp) (v : V) : Rsp → Prop
  | none => v = .non
  | some ws => ∃ p, v = .ref p ∧ H p = some (.lst ws)
def Ret (Q : VK) (H : Hp) (r : Rsp) : Prop := ∀ v H', Same H H' → Rv H' v r → Q v H'
theorem Rv.same {H H' : Hp} {v : V} {r : Rsp} (h : Rv H v r) (s : Same H H') : Rv H' v r := by
  cases r with
  | none => exact h
  | some ws => obtain ⟨p, e1, e2⟩ := h; exact ⟨p, e1, s _ _ e2⟩
theorem tYes_of {σ : L2.St} {H : Hp} {A B : Hp → Prop} (h : A H) : tYes σ H (fun b H3 => if b = true then A H3 else B H3) := by
  show (if true = true then A H else B H)
  rw [if_pos rfl]
  exact h
def dV : V → PyData
  | .str s => .str s
  | .int i => .int i
  | .bl b => .bool b
  | _ => .none
def datR : Rsp → PyData
  | none => .none
  | some ws => .list (ws.map dV)
def Flat (v : V) : Prop := ((∃ s, v = .str s) ∨ (∃ i, v = .int i) ∨ (∃ b, v = .bl b) ∨ v = .non) ∧ (dV v).canLay0 = true
def Okr : Rsp → Prop
  | none => True
  | some ws => ∀ v ∈ ws, Flat v
theorem flat_dp {K : PySem.W.Frag} {H : Hp} {v : V} (h : Flat v) : Dp K H v (dV v) := by
  rcases h.1 with ⟨s, rfl⟩ | ⟨i, rfl⟩ | ⟨b, rfl⟩ | rfl
  · exact .str _
  · exact .int _
  · exact .bl _
  · exact .non
theorem flats_dp {K : PySem.W.Frag} {H : Hp} : ∀ ws : List V, (∀ v ∈ ws, Flat v) → DpAll K H ws (ws.map dV)
  | [], _ => .nil
  | v :: ws, h => .cons (flat_dp (h v (List.mem_cons_self ..))) (flats_dp ws fun x hx => h x (List.mem_cons_of_mem _ hx))
theorem flats_lay : ∀ ws : List V, (∀ v ∈ ws, Flat v) → PyData.canLayAll0 (ws.map dV) = true
  | [], _ => rfl
  | v :: ws, h => by
    show (PyData.canLay0 (dV v) && PyData.canLayAll0 (ws.map dV)) = true
    rw [(h v (List.mem_cons_self ..)).2, flats_lay ws fun x hx => h x (List.mem_cons_of_mem _ hx)]
    rfl
theorem flats_dep : ∀ ws : List V, PyData.depthAll (ws.map dV) ≤ 1
  | [] => by decide
  | v :: ws => by
    have h := flats_dep ws
    show max (PyData.depth (dV v)) (PyData.depthAll (ws.map dV)) ≤ 1
    have : PyData.depth (dV v) = 0 := by cases v <;> rfl
    omega
theorem Rv.dp {K : PySem.W.Frag} {H : Hp} {v : V} {r : Rsp} (ok : Okr r) (h : Rv H v r) : Dp K H v (datR r) := by
  cases r with
  | none => cases (show v = .non from h); exact .non
  | some ws =>
    obtain ⟨p, rfl, hp⟩ := h
    exact .lst (SqL.of hp) (flats_dp ws ok)
theorem datR_lay {r : Rsp} (ok : Okr r) : (datR r).canLay0 = true := by
  cases r with
  | none => rfl
  | some ws => exact flats_lay ws ok
theorem datR_sh {r : Rsp} (ok : Okr r) : SeqAt.shaped (datR r) = true := by
  unfold SeqAt.shaped
  rw [datR_lay ok, Bool.true_and]
  refine decide_eq_true ?_
  cases r with
  | none => decide
  | some ws =>
    have := flats_dep ws
    show PyData.depthAll (ws.map dV) + 1 ≤ 64
    omega
theorem fl_str {s : Str} (h : (PyData.str s).canLay0 = true) : Flat (.str s) := ⟨.inl ⟨s, rfl⟩, h⟩
theorem fl_int (i : Int) : Flat (.int i) := ⟨.inr (.inl ⟨i, rfl⟩), rfl⟩
theorem fl_bl (b : Bool) : Flat (.bl b) := ⟨.inr (.inr (.inl ⟨b, rfl⟩)), rfl⟩
theorem fl_non : Flat .non := ⟨.inr (.inr (.inr rfl)), rfl⟩
theorem okr3 {a b c : V} (ha : Flat a) (hb : Flat b) (hc : Flat c) : Okr (some [a, b, c]) := by
  intro v hv
  rcases List.mem_cons.mp hv with rfl | hv
  · exact ha
  rcases List.mem_cons.mp hv with rfl | hv
  · exact hb
  rw [List.mem_singleton.mp hv]
  exact hc
theorem cut_len {xs : List V} {n : Nat} {lo hi : Option Int} (h : xs.length ≤ n) : (cutV xs lo hi).length ≤ n := Nat.le_trans (cutV_length xs lo hi) h
/-- the law's shares: of m words, small -/
def spShares (K : PySem.W.Frag) : Sp := fun vs H Q _ => ∃ (l : Addr) (z : Int) (m : Nat), vs = [.ref l, .int (m : Int)] ∧ H l = some (.lst [.int z]) ∧ 1 ≤ m ∧ m ≤ 30 ∧
  ∀ D cs qs z' H', SameB l H H' → H' l = some (.lst [.int z']) → H D = none → D ≠ l → H' D = some (.lst cs) → FrN K H' 8 cs qs → RowOk m qs → Q (.ref D) H'
def spRowsL (K : PySem.W.Frag) : Sp := fun vs H Q _ => ∃ (l : Addr) (z : Int) (ww up : Nat), vs = [.ref l, .int (ww : Int), .int (up : Int)] ∧ H l = some (.lst [.int z]) ∧ 1 ≤ ww ∧ ww ≤ 5 ∧ 1 ≤ up ∧ up ≤ 30 ∧
  ∀ D rs rss m z' H', New K H H' l D rs rss 8 → D ≠ l → H' l = some (.lst [.int z']) → Good rss m → rss.length = ww → m ≤ up → Q (.ref D) H'
/-- xs[i] by values, i from 0 on -/
def rGet0 (K : PySem.W.Frag) : V → V → Hp → VK → Prop := fun o i H Q => ∃ (p : Addr) (xs : List V) (j : Nat) (v : V), o = .ref p ∧ i = .int (j : Int) ∧ SqL K H p xs ∧ xs[j]? = some v ∧ Q v H
theorem pget_list {X : Cx} : PGet X (rGet0 X.K) := by
  intro pins s σ H o i ov iv Q I ro ri h
  obtain ⟨p, xs, j, z, rfl, rfl, hq, he, q⟩ := h
  cases ro
  obtain ⟨t, rfl⟩ := ri
  obtain ⟨its, r, pl, hz⟩ := I.list hq
  obtain ⟨w, ew, rw'⟩ := r.get he
  have hj : j < xs.length := (List.getElem?_eq_some_iff.mp he).1
  have hn := line63
  exact wpAny_getItem_list pl.isList (by omega) (by omega) (by rw [Int.toNat_natCast]; simpa using ew) ⟨z, H, I, rw', q⟩
def shq (ns : List Int) : List Rat := ns.map fun x => Rat.divInt x ns.sum
theorem sum_divInt (S : Int) : ∀ ns : List Int, (ns.map fun x => Rat.divInt x S).sum = Rat.divInt ns.sum S
  | [] => by rw [List.map_nil, List.sum_nil, List.sum_nil, Rat.zero_divInt]
  | x :: ns => by
    rw [List.map_cons, List.sum_cons, List.sum_cons, sum_divInt S ns]
    by_cases h : S = 0
    · subst h
      rw [Rat.divInt_zero, Rat.divInt_zero, Rat.divInt_zero, Rat.add_zero]
    · rw [Rat.divInt_add_divInt _ _ h h, ← Int.add_mul, Rat.divInt_mul_right h]
theorem divInt_nn {x S : Int} (hx : 0 ≤ x) (hS : 0 < S) : 0 ≤ Rat.divInt x S := by
  rw [← Rat.num_nonneg, ← Fr.low_num hS]
  exact Int.fdiv_nonneg hx (by omega)
theorem divInt_one {S : Int} (hS : 0 < S) : Rat.divInt S S = 1 := by
  have h := Rat.divInt_mul_right (n := 1) (d := 1) (a := S) (by omega)
  rw [Int.one_mul] at h
  rw [h]
  rfl
theorem shq_ok {ns : List Int} {m : Nat} (hl : ns.length = m) (h0 : ∀ x ∈ ns, 0 ≤ x) (hS : 0 < ns.sum) : RowOk m (shq ns) := by
  refine ⟨by unfold shq; rw [List.length_map, hl], fun q hq => ?_, ?_⟩
  · obtain ⟨x, hx, rfl⟩ := List.mem_map.mp hq
    exact divInt_nn (h0 x hx) hS
  · unfold shq
    rw [sum_divInt, divInt_one hS]
theorem sum_le : ∀ (ns : List Int) (b : Int), (∀ x ∈ ns, x ≤ b) → ns.sum ≤ b * ns.length
  | [], b, _ => by simp
  | x :: ns, b, h => by
    have h1 := sum_le ns b fun y hy => h y (List.mem_cons_of_mem _ hy)
    have h2 := h x (List.mem_cons_self ..)
    rw [List.sum_cons, List.length_cons, Int.natCast_succ, Int.mul_add]
    omega
theorem sum_nn : ∀ (ns : List Int), (∀ x ∈ ns, 0 ≤ x) → 0 ≤ ns.sum
  | [], _ => by simp
  | x :: ns, h => by
    have h1 := sum_nn ns fun y hy => h y (List.mem_cons_of_mem _ hy)
    have h2 := h x (List.mem_cons_self ..)
    rw [List.sum_cons]
    omega
theorem set_sumI : ∀ (l : List Int) (g : Nat) (x : Int), l[g]? = some x → (l.set g (x + 1)).sum = l.sum + 1
  | [], g, x, h => by simp at h
  | y :: l, 0, x, h => by
    have e : y = x := Option.some.inj h
    subst e
    show ((y + 1) :: l).sum = _
    rw [List.sum_cons, List.sum_cons]
    omega
  | y :: l, g + 1, x, h => by
    show (y :: l.set g (x + 1)).sum = _
    rw [List.sum_cons, List.sum_cons, set_sumI l g x h]
    omega
theorem tab_at {d : Int} (h0 : 0 ≤ d) (h6 : d < 6) : ∃ v : Int, atI [V.int 0, V.int 1, V.int 1, V.int 2, V.int 3, V.int 5] d = some (V.int v) ∧ 0 ≤ v ∧ v ≤ 5 := by
  have : d = 0 ∨ d = 1 ∨ d = 2 ∨ d = 3 ∨ d = 4 ∨ d = 5 := by omega
  rcases this with rfl | rfl | rfl | rfl | rfl | rfl
  · exact ⟨_, atI_nat (j := 0) rfl, by decide, by decide⟩
  · exact ⟨_, atI_nat (j := 1) rfl, by decide, by decide⟩
  · exact ⟨_, atI_nat (j := 2) rfl, by decide, by decide⟩
  · exact ⟨_, atI_nat (j := 3) rfl, by decide, by decide⟩
  · exact ⟨_, atI_nat (j := 4) rfl, by decide, by decide⟩
  · exact ⟨_, atI_nat (j := 5) rfl, by decide, by decide⟩
theorem ne_num {K : PySem.W.Frag} {H : Hp} {l : Addr} {z : Int} {a : Addr} {rs : List Addr} {rss : List (List Rat)} {n : Nat} (hl : H l = some (.lst [.int z])) (h : RwL K H a rs rss n) : a ≠ l := fun e => by
  have := h.1
  rw [e, hl] at this
  cases rs with
  | nil => cases this
  | cons r rs => cases this
theorem nr_num {K : PySem.W.Frag} {H : Hp} {l : Addr} {z : Int} {rs : List Addr} {rss : List (List Rat)} {n : Nat} (hl : H l = some (.lst [.int z])) (h : RowsAt K H n rs rss) : l ∉ rs := fun hm => by
  obtain ⟨j, hj, e⟩ := List.getElem_of_mem hm
  obtain ⟨cs, qs, e1, e2, e3⟩ := h.2 j l (by rw [List.getElem?_eq_getElem hj, e])
  rw [hl] at e2
  cases e2
  obtain ⟨a, q, _, e, _⟩ := e3.at_ 0 _ rfl
  cases e
theorem RwL.keepB {K : PySem.W.Frag} {H H' : Hp} {l : Addr} {z : Int} {a : Addr} {rs : List Addr} {rss : List (List Rat)} {n : Nat} (h : RwL K H a rs rss n) (hl : H l = some (.lst [.int z])) (s : SameB l H H') : RwL K H' a rs rss n :=
  ⟨s _ _ (ne_num hl h) h.1, h.2.keep s hl (nr_num hl h.2)⟩
theorem IsRule.keepB {K : PySem.W.Frag} {H H' : Hp} {C x l : Addr} {z : Int} {rss : List (List Rat)} {n : Nat} (h : IsRule K H C x rss n) (hl : H l = some (.lst [.int z])) (s : SameB l H H') : IsRule K H' C x rss n := by
  obtain ⟨dx, ra, rs, e1, e2⟩ := h
  exact ⟨dx, ra, rs, s _ _ (ne_of e1 hl (by intro w; cases w)) e1, RwL.keepB e2 hl s⟩
theorem New.pre {K : PySem.W.Frag} {H00 H0 H : Hp} {ex D : Addr} {rs : List Addr} {rss : List (List Rat)} {n : Nat} (h : New K H0 H ex D rs rss n) (s : SameB ex H00 H0) (hD : D ≠ ex) : New K H00 H ex D rs rss n := by
  refine ⟨h.at_, h.nd, h.ne, fun x hx => ?_, ?_, h.nx, s.trans h.keep, h.rows⟩
  · cases e : H00 x with
    | none => rfl
    | some o =>
      have := s x o (fun z => h.nx (by rw [← z]; exact hx)) e
      rw [h.fresh x hx] at this
      cases this
  · cases e : H00 D with
    | none => rfl
    | some o =>
      have := s D o hD e
      rw [h.fD] at this
      cases this
theorem RwL.ins {K : PySem.W.Frag} {H : Hp} {a x C dx : Addr} {fs gs : List (Str × V)} {rs : List Addr} {rss : List (List Rat)} {n : Nat} (h : RwL K H a rs rss n) (hx : H x = some (.ins C dx fs)) : RwL K (upd H x (.ins C dx gs)) a rs rss n := by
  have st : ∀ b xs, SqT K H b xs → SqT K (upd H x (.ins C dx gs)) b xs := fun b xs z => by
    rcases z with (z | ⟨o, z⟩) | z
    · exact .inl (.inl (by rw [upd_ne (ne_of z hx (by intro w; cases w))]; exact z))
    · exact .inl (.inr ⟨o, by rw [upd_ne (ne_of z hx (by intro w; cases w))]; exact z⟩)
    · exact .inr z
  refine ⟨by rw [upd_ne (ne_of h.1 hx (by intro w; cases w))]; exact h.1, h.2.1, fun j r e => ?_⟩
  obtain ⟨cs, qs, e1, e2, e3⟩ := h.2.2 j r e
  exact ⟨cs, qs, e1, by rw [upd_ne (ne_of e2 hx (by intro w; cases w))]; exact e2, e3.keep st⟩
/-- len(o), o an instance with its own __len__ -/
def rLenO (C : Addr) (sp : Sp) : List V → Hp → VK → Prop := fun xs H Q => ∃ (x dx : Addr) (fs : List (Str × V)), xs = [.ref x] ∧ H x = some (.ins C dx fs) ∧ sp [.ref x] H (fun v H' => ∃ n : Nat, v = .int (n : Int) ∧ n < 1000 ∧ Q (.int (n : Int)) H') (fun _ _ _ => False)
theorem call_lenO {X : Cx} {C f : Addr} {fd : FuncData} {k : Nat} {sp : Sp} (hs : PySem.W.findIn X.K (.ref C) "__len__" = some (some (.ref f))) (hf : PySem.W.isFn X.K (.ref f) = true) (F : FnOk X.prog X.w X.K X.mg X.base CX0 k f fd ["self"] sp) (hr : Room (k + 1) X.A) (hb : Binds X.K fd ["self"] []) : CallR X (.builtin "len") (rLenO C sp) := by
  intro pins s σ H xs us Q I r h
  obtain ⟨x, dx, fs, rfl, hx, hq⟩ := h
  cases r with
  | @cons _ u _ _ ru rn =>
    cases rn
    cases (show u = Value.ref x from ru)
    obtain ⟨mA, J, _⟩ := ins_get I.hok hx
    obtain ⟨od, J, _⟩ := J.look
    obtain ⟨m, hF⟩ := I.fr
    refine PySem.W.len_K hF I.ok.mod.kin J hs hf ?_
    have e0 : Env0 X.prog X.w X.K X.mg X.base X.A.in1 X.stack s H := by
      have e := I.env0
      exact ⟨e.frames, e.mod, e.bs, e.bsz, e.funs, e.frf, e.hok, e.bare⟩
    have r2 : Vals [V.ref x] [Value.ref x] := .cons rfl .nil
    refine wpAny_call (codeAny_mono (F.run X.A.in1 X.stack s H ⟨[.ref x], []⟩ [.ref x] [.ref x] _ (fun _ _ _ => False) hr.in1 e0 (by
      have := hb s [.ref x] I.kIn rfl
      simpa using this) r2 hq) fun r s' hq' => ?_)
    cases r with
    | error e => exact False.elim hq'
    | ok fl =>
      cases fl with
      | ret u =>
        obtain ⟨z, H', I', rz, n, ez, hn, q⟩ := I.after hq'
        subst ez
        obtain ⟨t, rfl⟩ := (show ∃ t, u = Value.int (n : Int) t from rz)
        exact ⟨⟨by omega, by omega⟩, .int (n : Int), H', I'.tok _, ⟨_, rfl⟩, q⟩
      | next => exact False.elim hq'
      | brk => exact False.elim hq'
      | cont => exact False.elim hq'
theorem sum_snoc' {qs : List Rat} {i : Nat} {q : Rat} (h : qs[i]? = some q) : (qs.take (i + 1)).sum = (qs.take i).sum + q := Co.sum_snoc h
def spTotal (K : PySem.W.Frag) : Sp := fun vs H Q _ => ∃ (l : Addr) (cs : List V) (qs : List Rat) (n : Nat), vs = [.ref l, .non] ∧ SqL K H l cs ∧ FrN K H n cs qs ∧ (n + 1) * qs.length + 1 ≤ 8700 ∧ ∀ r H', Same H H' → SqT K H' r (rp qs.sum) → Q (.ref r) H'
def spCopied (K : PySem.W.Frag) : Sp := fun vs H Q _ => ∃ (a : Addr) (rs : List Addr) (rss : List (List Rat)) (n : Nat), vs = [.ref a] ∧ RwL K H a rs rss n ∧ rss.length ≤ 100 ∧ ∀ D rs' H', Fresh K H H' D rs' rss n → Q (.ref D) H'
theorem eqv_dR (a b : Rat) : PyData.eqv (dR a) (dR b) = decide (a = b) := by
  show PyData.eqv (.tuple [.int a.num, .int (a.den : Int)]) (.tuple [.int b.num, .int (b.den : Int)]) = _
  simp only [PyData.eqv, PyData.eqvAll, Bool.and_true]
  by_cases h : a = b
  · subst h
    simp
  · rw [decide_eq_false h, Bool.and_eq_false_iff]
    by_cases h1 : a.num = b.num
    · refine .inr ?_
      have h2 : a.den ≠ b.den := fun e => h (Rat.ext h1 e)
      simp only [beq_eq_false_iff_ne, ne_eq]
      omega
    · refine .inl ?_
      simp only [beq_eq_false_iff_ne, ne_eq]
      exact h1
def rLenS (K : PySem.W.Frag) : List V → Hp → VK → Prop := fun xs H Q => ∃ p ys, xs = [V.ref p] ∧ (SqL K H p ys ∨ SqT K H p ys) ∧ Q (.int ys.length) H
def rStrI : List V → Hp → VK → Prop := fun xs H Q => ∃ i : Int, xs = [V.int i] ∧ i.natAbs.log2 < 1920 ∧ Q (.str (toString i)) H
def rInt1 : List V → Hp → VK → Prop := fun xs H Q => (∃ i, xs = [V.int i] ∧ Q (.int i) H) ∨ ∃ k, xs = [V.bl k] ∧ Q (.int (if k then 1 else 0)) H
def rTupOf (K : PySem.W.Frag) : List V → Hp → VK → Prop := fun xs H Q => ∃ p ys, xs = [V.ref p] ∧ ((SqL K H p ys ∧ ∀ l, H l = none → Q (.ref l) (upd H l (.tup ys))) ∨ (SqT K H p ys ∧ Q (.ref p) H))
/-- a def that may raise, where it does not -/
theorem quiet {P : Program} {w : World} {K : PySem.W.Frag} {mg : Str → Option Value} {base : Heap} {k : Nat} {f : Addr} {fd : FuncData} {ps : List Str} {sp : Sp} (F : FnOk P w K mg base (L2.CX P w) k f fd ps sp) : FnOk P w K mg base CX0 k f fd ps (fun vs H Q _ => sp vs H Q E0) := by
  refine ⟨fun vs H Q E h => F.len vs H Q E0 h, fun A outer s H args us vs Q E hr e b r h => codeAny_mono (F.run A outer s H args us vs Q E0 hr e b r h) fun r s' hq => ?_⟩
  cases r with
  | error e =>
    obtain ⟨_, _, _, _, _, _, _, _, _, _, _, _, z⟩ := hq
    exact z.elim
  | ok fl =>
    cases fl <;> exact hq
end Rs

set_option Elab.async false
set_option linter.all false
set_option maxRecDepth 100000
set_option maxHeartbeats 4000000
namespace Dz
open PySem PySem.Spec PyProof.Rows L2 BX EXB Co Ru
open Fr (Bd)
/-! ### things of any kind, none of whose lists stands where ex says -/
mutual
inductive Dz (K : PySem.W.Frag) (H : Hp) (ex : Addr → Prop) : V → PyData → Prop
  | non : Dz K H ex .non .none
  | bl (b : Bool) : Dz K H ex (.bl b) (.bool b)
  | int (i : Int) : Dz K H ex (.int i) (.int i)
  | str (x : Str) : Dz K H ex (.str x) (.str x)
  | lst {a : Addr} {xs : List V} {ds : List PyData} (h : H a = some (.lst xs)) (hn : ¬ ex a) (t : DzA K H ex xs ds) : Dz K H ex (.ref a) (.list ds)
  | tup {a : Addr} {xs : List V} {ds : List PyData} (h : SqT K H a xs) (t : DzA K H ex xs ds) : Dz K H ex (.ref a) (.tuple ds)
  | dct {a : Addr} (h : H a = some (.dK [])) (hn : ¬ ex a) : Dz K H ex (.ref a) (.dict [])
inductive DzA (K : PySem.W.Frag) (H : Hp) (ex : Addr → Prop) : List V → List PyData → Prop
  | nil : DzA K H ex [] []
  | cons {v : V} {vs : List V} {d : PyData} {ds : List PyData} (h : Dz K H ex v d) (t : DzA K H ex vs ds) : DzA K H ex (v :: vs) (d :: ds)
end
/-- what changes leaves such things -/
structure Ch (K : PySem.W.Frag) (ex : Addr → Prop) (H H' : Hp) : Prop where
  tp : ∀ a xs, SqT K H a xs → SqT K H' a xs
  ob : ∀ b o, ¬ ex b → H b = some o → H' b = some o
section
variable {K : PySem.W.Frag} {ex ex' : Addr → Prop} {H H' H2 : Hp}
theorem Ch.of (s : Same H H') : Ch K ex H H' := ⟨fun _ _ => seqT s, fun b o _ e => s b o e⟩
theorem Ch.trans (a : Ch K ex H H') (b : Ch K ex H' H2) : Ch K ex H H2 := ⟨fun x y h => b.tp x y (a.tp x y h), fun x y n h => b.ob x y n (a.ob x y n h)⟩
theorem Ch.put {p : Addr} {ys zs : List V} (hp : H p = some (.lst ys)) (h : ex p) : Ch K ex H (upd H p (.lst zs)) := ⟨SameB.tup SameB.upd hp, fun b o n e => by rw [upd_ne (fun z => n (by rw [z]; exact h))]; exact e⟩
theorem Ch.but {l : Addr} {ys : List V} (hl : H l = some (.lst ys)) (s : SameB l H H') (h : ex l) : Ch K ex H H' := ⟨s.tup hl, fun b o n e => s b o (fun z => n (by rw [z]; exact h)) e⟩
mutual
theorem Dz.ch (c : Ch K ex H H') : ∀ (d : PyData) (v : V), Dz K H ex v d → Dz K H' ex v d
  | .none, _, h => by cases h; exact .non
  | .bool b, _, h => by cases h; exact .bl _
  | .int i, _, h => by cases h; exact .int _
  | .str x, _, h => by cases h; exact .str _
  | .list ds, _, h => by
    cases h with
    | lst h hn t => exact .lst (c.ob _ _ hn h) hn (DzA.ch c ds _ t)
  | .tuple ds, _, h => by
    cases h with
    | tup h t => exact .tup (c.tp _ _ h) (DzA.ch c ds _ t)
  | .dict ds, _, h => by
    cases h with
    | dct h hn => exact .dct (c.ob _ _ hn h) hn
theorem DzA.ch (c : Ch K ex H H') : ∀ (ds : List PyData) (vs : List V), DzA K H ex vs ds → DzA K H' ex vs ds
  | [], _, h => by cases h; exact .nil
  | d :: ds, _, h => by
    cases h with
    | cons h t => exact .cons (Dz.ch c d _ h) (DzA.ch c ds _ t)
end
mutual
theorem Dz.sub (s : ∀ a, ex' a → ex a) : ∀ (d : PyData) (v : V), Dz K H ex v d → Dz K H ex' v d
  | .none, _, h => by cases h; exact .non
  | .bool b, _, h => by cases h; exact .bl _
  | .int i, _, h => by cases h; exact .int _
  | .str x, _, h => by cases h; exact .str _
  | .list ds, _, h => by
    cases h with
    | lst h hn t => exact .lst h (fun z => hn (s _ z)) (DzA.sub s ds _ t)
  | .tuple ds, _, h => by
    cases h with
    | tup h t => exact .tup h (DzA.sub s ds _ t)
  | .dict ds, _, h => by
    cases h with
    | dct h hn => exact .dct h fun z => hn (s _ z)
theorem DzA.sub (s : ∀ a, ex' a → ex a) : ∀ (ds : List PyData) (vs : List V), DzA K H ex vs ds → DzA K H ex' vs ds
  | [], _, h => by cases h; exact .nil
  | d :: ds, _, h => by
    cases h with
    | cons h t => exact .cons (Dz.sub s d _ h) (DzA.sub s ds _ t)
end
mutual
theorem Dz.dp : ∀ (d : PyData) (v : V), Dz K H ex v d → d.hasDict = false → Dp K H v d
  | .none, _, h, _ => by cases h; exact .non
  | .bool b, _, h, _ => by cases h; exact .bl _
  | .int i, _, h, _ => by cases h; exact .int _
  | .str x, _, h, _ => by cases h; exact .str _
  | .list ds, _, h, e => by
    cases h with
    | lst h hn t => exact .lst (SqL.of h) (DzA.dp ds _ t (by simpa only [PyData.hasDict] using e))
  | .tuple ds, _, h, e => by
    cases h with
    | tup h t => exact .tup h (DzA.dp ds _ t (by simpa only [PyData.hasDict] using e))
  | .dict ds, _, h, e => by simp only [PyData.hasDict] at e; cases e
theorem DzA.dp : ∀ (ds : List PyData) (vs : List V), DzA K H ex vs ds → PyData.hasDictAll ds = false → DpAll K H vs ds
  | [], _, h, _ => by cases h; exact .nil
  | d :: ds, _, h, e => by
    cases h with
    | cons h t =>
      simp only [PyData.hasDictAll, Bool.or_eq_false_iff] at e
      exact .cons (Dz.dp d _ h e.1) (DzA.dp ds _ t e.2)
end
theorem Dz.same {d : PyData} {v : V} (h : Dz K H ex v d) (s : Same H H') : Dz K H' ex v d := Dz.ch (.of s) d v h
theorem DzA.same {d : List PyData} {v : List V} (h : DzA K H ex v d) (s : Same H H') : DzA K H' ex v d := DzA.ch (.of s) d v h
theorem Dz.cc {d : PyData} {v : V} (h : Dz K H ex v d) (c : Ch K ex H H') : Dz K H' ex v d := Dz.ch c d v h
theorem DzA.cc {d : List PyData} {v : List V} (h : DzA K H ex v d) (c : Ch K ex H H') : DzA K H' ex v d := DzA.ch c d v h
variable {vs us : List V} {ds es : List PyData}
theorem DzA.len (h : DzA K H ex vs ds) : vs.length = ds.length := by
  induction ds generalizing vs with
  | nil => cases h; rfl
  | cons d ds ih => cases h with | cons h t => rw [List.length_cons, List.length_cons, ih t]
theorem DzA.at_ (h : DzA K H ex vs ds) : ∀ {i : Nat} {v : V}, vs[i]? = some v → ∃ d, ds[i]? = some d ∧ Dz K H ex v d := by
  induction ds generalizing vs with
  | nil => cases h; intro i v e; simp at e
  | cons d ds ih =>
    cases h with
    | cons h t =>
      intro i v e
      cases i with
      | zero => cases (Option.some.inj e); exact ⟨_, rfl, h⟩
      | succ i => exact ih t e
theorem DzA.app (h : DzA K H ex vs ds) (g : DzA K H ex us es) : DzA K H ex (vs ++ us) (ds ++ es) := by
  induction ds generalizing vs with
  | nil => cases h; exact g
  | cons d ds ih => cases h with | cons h t => exact .cons h (ih t)
theorem DzA.drop (h : DzA K H ex vs ds) (n : Nat) : DzA K H ex (vs.drop n) (ds.drop n) := by
  induction ds generalizing vs n with
  | nil => cases h; rw [List.drop_nil, List.drop_nil]; exact .nil
  | cons d ds ih =>
    cases h with
    | cons h t =>
      cases n with
      | zero => exact .cons h t
      | succ n => exact ih t n
theorem DzA.take (h : DzA K H ex vs ds) (n : Nat) : DzA K H ex (vs.take n) (ds.take n) := by
  induction ds generalizing vs n with
  | nil => cases h; rw [List.take_nil, List.take_nil]; exact .nil
  | cons d ds ih =>
    cases h with
    | cons h t =>
      cases n with
      | zero => exact .nil
      | succ n => exact .cons h (ih t n)
theorem DzA.set {v : V} {d : PyData} (h : DzA K H ex vs ds) (j : Nat) (g : Dz K H ex v d) : DzA K H ex (vs.set j v) (ds.set j d) := by
  induction ds generalizing vs j with
  | nil => cases h; exact .nil
  | cons d ds ih =>
    cases h with
    | cons h t =>
      cases j with
      | zero => exact .cons g t
      | succ j => exact .cons h (ih t j)
theorem DzA.rep (h : DzA K H ex vs ds) : ∀ k : Nat, DzA K H ex (List.replicate k vs).flatten (List.replicate k ds).flatten
  | 0 => .nil
  | k + 1 => by
    rw [List.replicate_succ, List.replicate_succ, List.flatten_cons, List.flatten_cons]
    exact h.app (DzA.rep h k)
theorem DzA.of_mem : ∀ {vs : List V}, (∀ v ∈ vs, ∃ d, Dz K H ex v d) → ∃ ds, DzA K H ex vs ds
  | [], _ => ⟨[], .nil⟩
  | v :: vs, h => by
    obtain ⟨d, c⟩ := h v (List.mem_cons_self ..)
    obtain ⟨ds, t⟩ := DzA.of_mem fun x hx => h x (List.mem_cons_of_mem _ hx)
    exact ⟨d :: ds, .cons c t⟩
/-! ### kinds -/
def tyD : PyData → String
  | .none => "NoneType"
  | .bool _ => "bool"
  | .int _ => "int"
  | .str _ => "str"
  | .list _ => "list"
  | .tuple _ => "tuple"
  | .dict _ => "dict"
theorem Dz.ty {v : V} {d : PyData} (h : Dz K H ex v d) : TyX K H v (.type (tyD d)) := by
  cases h with
  | non => exact .base .non
  | bl b => exact .base (.bl _)
  | int i => exact .base (.int _)
  | str x => exact .base (.str _)
  | lst h hn t => exact .base (.lst h)
  | tup h t => exact tyT h
  | dct h hn => exact .base (.dK h)
def isL : PyData → Bool
  | .list _ => true
  | _ => false
def isT : PyData → Bool
  | .tuple _ => true
  | _ => false
def isI : PyData → Bool
  | .int _ => true
  | _ => false
def isIB : PyData → Bool
  | .int _ => true
  | .bool _ => true
  | _ => false
def isB : PyData → Bool
  | .bool _ => true
  | _ => false
def isS : PyData → Bool
  | .str _ => true
  | _ => false
theorem kit_isL (d : PyData) : kitB (tyD d) "list" = some (isL d) := by
  cases d with
  | none => show kitB "NoneType" "list" = some false; decide +kernel
  | bool x => show kitB "bool" "list" = some false; decide +kernel
  | int x => show kitB "int" "list" = some false; decide +kernel
  | str x => show kitB "str" "list" = some false; decide +kernel
  | list x => show kitB "list" "list" = some true; decide +kernel
  | tuple x => show kitB "tuple" "list" = some false; decide +kernel
  | dict x => show kitB "dict" "list" = some false; decide +kernel
theorem kit_isT (d : PyData) : kitB (tyD d) "tuple" = some (isT d) := by
  cases d with
  | none => show kitB "NoneType" "tuple" = some false; decide +kernel
  | bool x => show kitB "bool" "tuple" = some false; decide +kernel
  | int x => show kitB "int" "tuple" = some false; decide +kernel
  | str x => show kitB "str" "tuple" = some false; decide +kernel
  | list x => show kitB "list" "tuple" = some false; decide +kernel
  | tuple x => show kitB "tuple" "tuple" = some true; decide +kernel
  | dict x => show kitB "dict" "tuple" = some false; decide +kernel
theorem kit_isIB (d : PyData) : kitB (tyD d) "int" = some (isIB d) := by
  cases d with
  | none => show kitB "NoneType" "int" = some false; decide +kernel
  | bool x => show kitB "bool" "int" = some true; decide +kernel
  | int x => show kitB "int" "int" = some true; decide +kernel
  | str x => show kitB "str" "int" = some false; decide +kernel
  | list x => show kitB "list" "int" = some false; decide +kernel
  | tuple x => show kitB "tuple" "int" = some false; decide +kernel
  | dict x => show kitB "dict" "int" = some false; decide +kernel
theorem kit_isB (d : PyData) : kitB (tyD d) "bool" = some (isB d) := by
  cases d with
  | none => show kitB "NoneType" "bool" = some false; decide +kernel
  | bool x => show kitB "bool" "bool" = some true; decide +kernel
  | int x => show kitB "int" "bool" = some false; decide +kernel
  | str x => show kitB "str" "bool" = some false; decide +kernel
  | list x => show kitB "list" "bool" = some false; decide +kernel
  | tuple x => show kitB "tuple" "bool" = some false; decide +kernel
  | dict x => show kitB "dict" "bool" = some false; decide +kernel
theorem kit_isS (d : PyData) : kitB (tyD d) "str" = some (isS d) := by
  cases d with
  | none => show kitB "NoneType" "str" = some false; decide +kernel
  | bool x => show kitB "bool" "str" = some false; decide +kernel
  | int x => show kitB "int" "str" = some false; decide +kernel
  | str x => show kitB "str" "str" = some true; decide +kernel
  | list x => show kitB "list" "str" = some false; decide +kernel
  | tuple x => show kitB "tuple" "str" = some false; decide +kernel
  | dict x => show kitB "dict" "str" = some false; decide +kernel
/-- how many things a list has -/
def lenD : PyData → Option Nat
  | .list ds => some ds.length
  | _ => none
def lenOk : Option Nat → Int → Int → Bool
  | some n, lo, hi => decide (lo ≤ (n : Int)) && decide ((n : Int) ≤ hi)
  | none, _, _ => false
/-- the fraction that a thing is -/
def ratD : PyData → Option Rat
  | .tuple [.int t, .int b] => if 1 ≤ b ∧ Int.gcd t b = 1 then some (Rat.divInt t b) else none
  | _ => none
theorem ratD_num {t b : Int} (h1 : 1 ≤ b) (hg : Int.gcd t b = 1) : (Rat.divInt t b).num = t ∧ ((Rat.divInt t b).den : Int) = b := by
  have e1 := Fr.low_num (t := t) (b := b) (by omega)
  have e2 := Fr.low_den (t := t) (b := b) (by omega)
  rw [hg] at e1 e2
  rw [← e1, ← e2]
  exact ⟨Int.fdiv_one _, Int.fdiv_one _⟩
theorem Dz.rat {v : V} {d : PyData} {q : Rat} (h : Dz K H ex v d) (e : ratD d = some q) : ∃ a, v = .ref a ∧ SqT K H a (rp q) ∧ d = dR q := by
  unfold ratD at e
  split at e
  · rename_i t b
    split at e
    · rename_i c
      obtain ⟨e1, e2⟩ := ratD_num c.1 c.2
      cases e
      cases h with
      | @tup a xs _ h ts =>
        cases ts with
        | cons h1 ts =>
          cases ts with
          | cons h2 ts =>
            cases ts
            cases h1
            cases h2
            refine ⟨a, rfl, ?_, ?_⟩
            · unfold rp
              rw [e1, e2]
              exact h
            · unfold dR
              rw [e1, e2]
    · cases e
  · cases e
theorem ratD_dR (q : Rat) : ratD (dR q) = some q := by
  show (if 1 ≤ (q.den : Int) ∧ Int.gcd q.num q.den = 1 then some (Rat.divInt q.num q.den) else none) = some q
  have := Fr.den_pos q
  rw [if_pos ⟨by omega, Fr.ratio_gcd q⟩, Rat.num_divInt_den]
theorem dz_dR {a : Addr} {q : Rat} (h : SqT K H a (rp q)) : Dz K H ex (.ref a) (dR q) := .tup h (.cons (.int _) (.cons (.int _) .nil))
def shD (d : PyData) : Bool := match ratD d with
  | some q => decide (0 ≤ q.num)
  | none => false
def sumD (ds : List PyData) : Rat := (ds.map fun d => (ratD d).getD 0).sum
/-- things that are all fractions -/
theorem DzA.rats {n : Nat} (h : DzA K H ex vs ds) (hb : ∀ d ∈ ds, ∀ q, ratD d = some q → Bd n q) (g : ds.all (fun d => (ratD d).isSome) = true) : ∃ qs, ds = qs.map dR ∧ FrN K H n vs qs := by
  induction ds generalizing vs with
  | nil => cases h; exact ⟨[], rfl, FrN.nil⟩
  | cons d ds ih =>
    cases h with
    | @cons v vs _ _ h t =>
      rw [List.all_cons, Bool.and_eq_true] at g
      obtain ⟨qs, e1, e2⟩ := ih t (fun x hx => hb x (List.mem_cons_of_mem _ hx)) g.2
      obtain ⟨q, eq⟩ := Option.isSome_iff_exists.mp g.1
      obtain ⟨a, rfl, e3, e4⟩ := h.rat eq
      refine ⟨q :: qs, by rw [e4, e1]; rfl, ⟨by rw [List.length_cons, List.length_cons, e2.len], fun i x e => ?_⟩⟩
      cases i with
      | zero => cases (Option.some.inj e); exact ⟨a, q, rfl, rfl, e3, hb d (List.mem_cons_self ..) q eq⟩
      | succ i => exact e2.at_ i x e
theorem frn_dz : ∀ {vs : List V} {qs : List Rat} {n : Nat}, FrN K H n vs qs → DzA K H ex vs (qs.map dR)
  | [], [], _, _ => .nil
  | [], _ :: _, _, h => by have := h.len; simp at this
  | _ :: _, [], _, h => by have := h.len; simp at this
  | v :: vs, q :: qs, n, h => by
    obtain ⟨a, q', e1, rfl, e3, e4⟩ := h.at_ 0 v rfl
    cases (Option.some.inj e1)
    exact .cons (dz_dR e3) (frn_dz (n := n) ⟨by have := h.len; simpa using this, fun i v e => h.at_ (i + 1) v e⟩)
theorem rows_dz : ∀ {rs : List Addr} {rss : List (List Rat)} {n : Nat}, RowsAt K H n rs rss → (∀ r ∈ rs, ¬ ex r) → DzA K H ex (rs.map V.ref) (rss.map fun qs => .list (qs.map dR))
  | [], [], _, _, _ => .nil
  | [], _ :: _, _, h, _ => by have := h.1; simp at this
  | _ :: _, [], _, h, _ => by have := h.1; simp at this
  | r :: rs, q :: rss, n, h, hn => by
    obtain ⟨cs, qs, e1, e2, e3⟩ := h.2 0 r rfl
    have e : q = qs := Option.some.inj e1
    subst e
    exact .cons (.lst e2 (hn r (List.mem_cons_self ..)) (frn_dz e3)) (rows_dz (n := n) ⟨by have := h.1; simpa using this, fun j x e => h.2 (j + 1) x e⟩ fun r hr => hn r (List.mem_cons_of_mem _ hr))
end
/-! ### shown -/
section
variable {X : Cx} {pins : List (Addr × Obj)} {σ : L2.St} {H : Hp} {s : Shared} {ex : Addr → Prop}
mutual
theorem Dz.repk (I : Inv X pins σ H s) : ∀ (d : PyData) (v : V) (u : Value), Dz X.K H ex v d → RelV v u → d.showable = true → d.shown.length ≤ sizeLine → ∃ as bs, Reads s.heap u d as ∧ ReadAtMost s.heap d.depth bs ∧ ReprK X.prog X.w bs s.heap d.depth u d.shown
  | .none, _, _, h, r, _, _ => by
    cases h
    cases r
    exact ⟨[], [], .none, fun _ z => (nomatch z), ReprK.of_is ReprIs.none [] _ _⟩
  | .bool b, _, _, h, r, _, _ => by
    cases h
    cases r
    exact ⟨[], [], .bool b, fun _ z => (nomatch z), ReprK.of_is (ReprIs.bool b) [] _ _⟩
  | .int i, _, _, h, r, hs, _ => by
    cases h
    obtain ⟨t, rfl⟩ := r
    exact ⟨[], [], .int i t, fun _ z => (nomatch z), ReprK.of_is (ReprIs.int t (of_decide_eq_true hs)) [] _ _⟩
  | .str x, _, _, h, r, _, hz => by
    cases h
    obtain ⟨t, rfl⟩ := r
    exact ⟨[], [], .str x t, fun _ z => (nomatch z), ReprK.of_is (ReprIs.str x t hz) [] _ _⟩
  | .list ds, _, _, h, r, hs, hz => by
    cases h with
    | @lst a xs _ h hn t =>
      cases r
      obtain ⟨_, its, n, rv, e⟩ := (show ObjOk X.prog X.w H s.heap a (.lst xs) from I.hok a _ h)
      have hz1 : (listText (PyData.shownAll ds)).length ≤ sizeLine := hz
      obtain ⟨as, bs, h1, h2, h3⟩ := DzA.repk I ds xs its t rv hs fun y hy => Nat.le_trans (listText_mem_le hy) hz1
      have rd : Reads s.heap (.ref a) (.list ds) (a :: as) := .list e rfl rfl h1
      have na : a ∉ bs := not_mem_of_deeper rd (Nat.lt_succ_self _) h2
      refine ⟨_, a :: bs, rd, ReadAtMost.cons rd (Nat.le_succ _) h2, ?_⟩
      cases its with
      | nil =>
        cases h1
        exact ReprK.listEmpty e rfl rfl
      | cons x l => exact ReprK.list e rfl rfl na (by simpa using h3.length_eq) fun i y z => h3.item i y (by simpa using z)
  | .tuple ds, _, _, h, r, hs, hz => by
    cases h with
    | @tup a xs _ h t =>
      cases r
      obtain ⟨its, rv, ⟨o, ho, hc, n, hd⟩, _⟩ := I.tuple h
      have hz1 : (tupleText (PyData.shownAll ds)).length ≤ sizeLine := hz
      obtain ⟨as, bs, h1, h2, h3⟩ := DzA.repk I ds xs its t rv hs fun y hy => Nat.le_trans (tupleText_mem_le hy) hz1
      have rd : Reads s.heap (.ref a) (.tuple ds) as := .tuple ho hc hd h1
      exact ⟨_, a :: bs, rd, ReadAtMost.cons rd (Nat.le_succ _) h2, ReprK.tuple ho hc hd (not_mem_of_deeper rd (Nat.lt_succ_self _) h2) h3⟩
  | .dict ds, _, _, h, r, _, _ => by
    cases h with
    | @dct a h hn =>
      cases r
      obtain ⟨_, hns, vs, hkv, o, es, ep, h1, h2, h3, h4, h5, _⟩ := (show ObjOk X.prog X.w H s.heap a (.dK []) from I.hok a _ h)
      cases hkv
      have he : es.toList = [] := List.eq_nil_of_length_eq_zero h5.length
      have rd : Reads s.heap (.ref a) (.dict []) (a :: [] ++ []) := .dict h1 h2.1 h3 (by rw [he]; exact .nil) (by rw [he]; exact .nil)
      refine ⟨_, [a], rd, ReadAtMost.cons (n := 0) (bs := []) rd (Nat.zero_le _) (fun _ z => (nomatch z)), ReprK.dict (d := 0) (ps := []) h1 h2.1 h3 hns (by simp) (by rw [he]; exact .nil)⟩
theorem DzA.repk (I : Inv X pins σ H s) : ∀ (ds : List PyData) (vs : List V) (us : List Value), DzA X.K H ex vs ds → Vals vs us → PyData.showableAll ds = true → (∀ t ∈ PyData.shownAll ds, t.length ≤ sizeLine) → ∃ as bs, ReadsAll s.heap us ds as ∧ ReadAtMost s.heap (PyData.depthAll ds) bs ∧ ReprAllK X.prog X.w bs s.heap (PyData.depthAll ds) us (PyData.shownAll ds)
  | [], _, _, h, r, _, _ => by
    cases h
    cases r
    exact ⟨[], [], .nil, fun _ z => (nomatch z), .nil⟩
  | d :: ds, _, _, h, r, hs, hz => by
    cases h with
    | cons h t =>
      cases r with
      | cons r1 r2 =>
        have hs' : d.showable = true ∧ PyData.showableAll ds = true := Bool.and_eq_true _ _ ▸ (show (d.showable && PyData.showableAll ds) = true from hs)
        obtain ⟨as, bs, a1, a2, a3⟩ := Dz.repk I d _ _ h r1 hs'.1 (hz _ (List.mem_cons_self ..))
        obtain ⟨cs, es, b1, b2, b3⟩ := DzA.repk I ds _ _ t r2 hs'.2 fun y hy => hz y (List.mem_cons_of_mem _ hy)
        refine ⟨as ++ cs, bs ++ es, .cons a1 b1, fun b hb => ?_, .cons ((a3.more fun b hb => List.mem_append_left _ hb).level_le (Nat.le_max_left _ _)) (b3.more_le (fun b hb => List.mem_append_right _ hb) (Nat.le_max_right _ _))⟩
        rcases List.mem_append.mp hb with hb | hb
        · obtain ⟨x, y, z1, z2⟩ := a2 b hb
          exact ⟨x, y, z1, Nat.le_trans z2 (Nat.le_max_left _ _)⟩
        · obtain ⟨x, y, z1, z2⟩ := b2 b hb
          exact ⟨x, y, z1, Nat.le_trans z2 (Nat.le_max_right _ _)⟩
end
/-- repr of a list that is not empty -/
def rReprZ (K : PySem.W.Frag) : List V → Hp → VK → Prop := fun xs H Q => ∃ (ex : Addr → Prop) (x : V) (d : PyData) (ds : List PyData), xs = [x] ∧ Dz K H ex x (.list (d :: ds)) ∧ (PyData.list (d :: ds)).showable = true ∧ (PyData.list (d :: ds)).depth ≤ 64 ∧ (PyData.list (d :: ds)).shown.length ≤ sizeLine ∧ Q (.str (PyData.list (d :: ds)).shown) H
theorem call_reprZ {X : Cx} (hgd : X.A.guards = some []) (hu : X.A.units + 80 < cLine) : CallR X (.builtin "repr") (rReprZ X.K) := by
  intro pins s σ H xs us Q I r h
  obtain ⟨ex, x, d, ds, rfl, hd, hs, hdp, hsz, q⟩ := h
  cases r with
  | @cons _ u _ _ ru rn =>
    cases rn
    cases hd with
    | @lst a xs _ h hn t =>
      cases ru
      obtain ⟨_, its, n, rv, e⟩ := (show ObjOk X.prog X.w H s.heap a (.lst xs) from I.hok a _ h)
      have hz1 : (listText (PyData.shownAll (d :: ds))).length ≤ sizeLine := hsz
      obtain ⟨as, bs, h1, h2, h3⟩ := DzA.repk I (d :: ds) xs its t rv hs fun y hy => Nat.le_trans (listText_mem_le hy) hz1
      have rd : Reads s.heap (.ref a) (.list (d :: ds)) (a :: as) := .list e rfl rfl h1
      have na : a ∉ bs := not_mem_of_deeper rd (Nat.lt_succ_self _) h2
      have hdp' : PyData.depthAll (d :: ds) + 1 ≤ 64 := hdp
      cases its with
      | nil => cases h1
      | cons x l =>
        refine call_repr_slot (by omega) ⟨_, e, rfl⟩ F.slot_list_repr.toG (call_list_reprK e rfl rfl na (by simpa using h3.length_eq) (fun i y z => h3.item i y (by simpa using z)) hgd (fun b _ => Clear.nil b) (by show X.A.units + 1 + (_ + 1) < cLine; omega) (fun _ _ z => z) (fun h' u tk hk => ⟨_, _, rfl, ?_⟩) hz1)
        exact ⟨.str (PyData.list (d :: ds)).shown, H, I.kept (t' := tk) hk, ⟨_, rfl⟩, q⟩
end
/-! ### how long what is shown is -/
theorem textFrom_le : ∀ (ts : List Str) (k : Nat) (acc : Str), (textFrom k acc ts).length ≤ acc.length + piled ts
  | [], k, acc => Nat.le_add_right _ _
  | t :: ts, k, acc => by
    have h := textFrom_le ts (k + 1) (acc ++ (if k > 0 then ", " else "" : String) ++ t)
    rw [strLen_append, strLen_append] at h
    rw [piled_cons]
    have e : textFrom k acc (t :: ts) = textFrom (k + 1) (acc ++ (if k > 0 then ", " else "" : String) ++ t) ts := rfl
    rw [e]
    have hc : (((if k > 0 then ", " else "" : String) : Str)).length ≤ 2 := by split <;> decide
    omega
theorem listText_le (ts : List Str) : (listText ts).length ≤ 2 + piled ts := by
  have h := textFrom_le ts 0 "["
  unfold listText
  rw [strLen_append]
  have h1 : (("[" : String) : Str).length = 1 := by decide
  have h2 : (("]" : String) : Str).length = 1 := by decide
  omega
theorem tupleText_le (ts : List Str) : (tupleText ts).length ≤ 3 + piled ts := by
  unfold tupleText
  rw [strLen_append, strLen_append]
  have h1 : (("(" : String) : Str).length = 1 := by decide
  have h2 : (((if ts.length == 1 then ",)" else ")" : String) : Str)).length ≤ 2 := by split <;> decide
  cases ts with
  | nil =>
    have h3 : (Str.join ", " []).length = 0 := by decide
    omega
  | cons t ts =>
    have h3 := join_length_add (t :: ts) (by simp)
    omega
theorem piled_le {ts : List Str} {b : Nat} (h : ∀ t ∈ ts, t.length ≤ b) : piled ts ≤ ts.length * (b + 2) := by
  induction ts with
  | nil => exact Nat.zero_le _
  | cons t ts ih =>
    rw [piled_cons, List.length_cons, Nat.succ_mul]
    have h1 := h t (List.mem_cons_self ..)
    have h2 := ih fun x hx => h x (List.mem_cons_of_mem _ hx)
    omega
/-- data that can be shown, of so many levels, no longer than b -/
structure Sm (d : PyData) (k b : Nat) : Prop where
  sh : d.showable = true
  dp : d.depth ≤ k
  sz : d.shown.length ≤ b
  ly : d.canLay0 = true
theorem Sm.mono {d : PyData} {k b k' b' : Nat} (h : Sm d k b) (hk : k ≤ k') (hb : b ≤ b') : Sm d k' b' := ⟨h.sh, Nat.le_trans h.dp hk, Nat.le_trans h.sz hb, h.ly⟩
theorem shownAll_len : ∀ ds : List PyData, (PyData.shownAll ds).length = ds.length
  | [] => by simp only [PyData.shownAll, List.length_nil]
  | d :: ds => by simp only [PyData.shownAll, List.length_cons, shownAll_len ds]
theorem shownAll_mem : ∀ {ds : List PyData} {t : Str}, t ∈ PyData.shownAll ds → ∃ d ∈ ds, t = d.shown
  | [], t, h => by simp only [PyData.shownAll] at h; exact nomatch h
  | d :: ds, t, h => by
    simp only [PyData.shownAll, List.mem_cons] at h
    rcases h with rfl | h
    · exact ⟨d, List.mem_cons_self .., rfl⟩
    · obtain ⟨x, hx, e⟩ := shownAll_mem h
      exact ⟨x, List.mem_cons_of_mem _ hx, e⟩
theorem sm_piled {ds : List PyData} {k b n : Nat} (h : ∀ d ∈ ds, Sm d k b) (hn : ds.length ≤ n) : piled (PyData.shownAll ds) ≤ n * (b + 2) := by
  have h1 := piled_le (ts := PyData.shownAll ds) (b := b) fun t ht => by
    obtain ⟨d, hd, rfl⟩ := shownAll_mem ht
    exact (h d hd).sz
  rw [shownAll_len] at h1
  exact Nat.le_trans h1 (Nat.mul_le_mul_right _ hn)
theorem sm_shs : ∀ {ds : List PyData} {k b : Nat}, (∀ d ∈ ds, Sm d k b) → PyData.showableAll ds = true
  | [], _, _, _ => by simp only [PyData.showableAll]
  | d :: ds, k, b, h => by simp only [PyData.showableAll, (h d (List.mem_cons_self ..)).sh, sm_shs fun x hx => h x (List.mem_cons_of_mem _ hx), Bool.and_self]
theorem sm_lys : ∀ {ds : List PyData} {k b : Nat}, (∀ d ∈ ds, Sm d k b) → PyData.canLayAll0 ds = true
  | [], _, _, _ => rfl
  | d :: ds, k, b, h => by
    show (PyData.canLay0 d && PyData.canLayAll0 ds) = true
    rw [(h d (List.mem_cons_self ..)).ly, sm_lys fun x hx => h x (List.mem_cons_of_mem _ hx)]
    rfl
theorem sm_dps : ∀ {ds : List PyData} {k b : Nat}, (∀ d ∈ ds, Sm d k b) → PyData.depthAll ds ≤ k
  | [], _, _, _ => Nat.zero_le _
  | d :: ds, k, b, h => by
    show max (PyData.depth d) (PyData.depthAll ds) ≤ k
    have h1 := (h d (List.mem_cons_self ..)).dp
    have h2 := sm_dps fun x hx => h x (List.mem_cons_of_mem _ hx)
    omega
theorem sm_list {ds : List PyData} {k b n c : Nat} (h : ∀ d ∈ ds, Sm d k b) (hn : ds.length ≤ n) (hc : 3 + n * (b + 2) ≤ c) : Sm (.list ds) (k + 1) c := by
  refine ⟨by simp only [PyData.showable]; exact sm_shs h, ?_, ?_, sm_lys h⟩
  · have := sm_dps h
    show PyData.depthAll ds + 1 ≤ k + 1
    omega
  · have h1 := listText_le (PyData.shownAll ds)
    have h2 := sm_piled h hn
    simp only [PyData.shown]
    omega
theorem sm_tup {ds : List PyData} {k b n c : Nat} (h : ∀ d ∈ ds, Sm d k b) (hn : ds.length ≤ n) (hc : 3 + n * (b + 2) ≤ c) : Sm (.tuple ds) (k + 1) c := by
  refine ⟨by simp only [PyData.showable]; exact sm_shs h, ?_, ?_, sm_lys h⟩
  · have := sm_dps h
    show PyData.depthAll ds + 1 ≤ k + 1
    omega
  · have h1 := tupleText_le (PyData.shownAll ds)
    have h2 := sm_piled h hn
    simp only [PyData.shown]
    omega
end Dz

set_option Elab.async false
set_option linter.all false
set_option maxRecDepth 100000
set_option maxHeartbeats 4000000
namespace Cs
open PySem PySem.Spec PyProof.Rows L2 BX EXB Co Ru
open Dz
open Fr (Bd)
def itemsD : PyData → List PyData
  | .list ds => ds
  | _ => []
def spWholeZ (K : PySem.W.Frag) : Sp := fun vs H Q _ => ∃ (ex : Addr → Prop) (v : V) (d : PyData), vs = [v] ∧ Dz.Dz K H ex v d ∧ Q (.bl (isI d)) H
def spIsRZ (K : PySem.W.Frag) : Sp := fun vs H Q _ => ∃ (ex : Addr → Prop) (v : V) (d : PyData), vs = [v] ∧ Dz.Dz K H ex v d ∧ Q (.bl (ratD d).isSome) H
def spShareZ (K : PySem.W.Frag) : Sp := fun vs H Q _ => ∃ (ex : Addr → Prop) (v : V) (d : PyData), vs = [v] ∧ Dz.Dz K H ex v d ∧ Q (.bl (shD d)) H
def spListOfZ (K : PySem.W.Frag) : Sp := fun vs H Q _ => ∃ (ex : Addr → Prop) (v : V) (d : PyData) (lo hi : Int), vs = [v, .int lo, .int hi] ∧ Dz.Dz K H ex v d ∧ Q (.bl (lenOk (lenD d) lo hi)) H
def rowOkZ (d : PyData) (lo hi : Int) : Bool := lenOk (lenD d) lo hi && (itemsD d).all fun e => (ratD e).isSome
def firstWrongZ : List PyData → Nat → Int → Int → Option Nat
  | [], _, _, _ => none
  | d :: ds, j, lo, hi => if rowOkZ d lo hi = true then firstWrongZ ds (j + 1) ((itemsD d).length : Int) ((itemsD d).length : Int) else some j
theorem firstWrongZ_drop {ds : List PyData} {i : Nat} {d : PyData} {lo hi : Int} (h : ds[i]? = some d) : firstWrongZ (ds.drop i) i lo hi = if rowOkZ d lo hi = true then firstWrongZ (ds.drop (i + 1)) (i + 1) ((itemsD d).length : Int) ((itemsD d).length : Int) else some i := by
  have hi' : i < ds.length := (List.getElem?_eq_some_iff.mp h).1
  have e : ds[i] = d := (List.getElem?_eq_some_iff.mp h).2
  rw [List.drop_eq_getElem_cons hi', e, firstWrongZ]
def spRowZ (K : PySem.W.Frag) : Sp := fun vs H Q _ => ∃ (ex : Addr → Prop) (v : V) (d : PyData) (lo hi : Int), vs = [v, .int lo, .int hi] ∧ Dz.Dz K H ex v d ∧ hi ≤ 6 ∧ ∀ H', Same H H' → Q (.bl (rowOkZ d lo hi)) H'
def optI : Option Nat → V
  | none => .non
  | some j => .int (j : Nat)
def spWrongZ (K : PySem.W.Frag) (fR : Addr) : Sp := fun vs H Q _ => ∃ (ex : Addr → Prop) (a : Addr) (rs : List V) (ds : List PyData) (lo hi : Int), vs = [.ref a, .ref fR, .int lo, .int hi] ∧ H a = some (.lst rs) ∧ DzA K H ex rs ds ∧ hi ≤ 6 ∧ ∀ H', Same H H' → Q (optI (firstWrongZ ds 0 lo hi)) H'
def firstNot (p : PyData → Bool) : List PyData → Nat → Option Nat
  | [], _ => none
  | d :: ds, j => if p d = true then firstNot p ds (j + 1) else some j
theorem firstNot_drop {p : PyData → Bool} {ds : List PyData} {i : Nat} {d : PyData} (h : ds[i]? = some d) : firstNot p (ds.drop i) i = if p d = true then firstNot p (ds.drop (i + 1)) (i + 1) else some i := by
  have hi' : i < ds.length := (List.getElem?_eq_some_iff.mp h).1
  have e : ds[i] = d := (List.getElem?_eq_some_iff.mp h).2
  rw [List.drop_eq_getElem_cons hi', e, firstNot]
theorem firstNot_all {p : PyData → Bool} : ∀ {ds : List PyData} {j : Nat}, firstNot p ds j = none → ds.all p = true
  | [], _, _ => rfl
  | d :: ds, j, h => by
    rw [firstNot] at h
    split at h
    · rename_i c
      rw [List.all_cons, c, firstNot_all h]
      rfl
    · cases h
def numS : Option Nat → Rat → Option V
  | some j, _ => some (.int (j : Nat))
  | none, s => if s = 1 then none else some .non
/-- what is wrong with shares: its number -/
def badS (d : PyData) : Option V := if lenOk (lenD d) 1 5 = true then numS (firstNot shD (itemsD d) 0) (sumD (itemsD d)) else some .non
def badG (d : PyData) (ww lo hi : Int) : Option V := if lenOk (lenD d) ww ww = true then (firstWrongZ (itemsD d) 0 lo hi).map fun j => V.int (j : Nat) else some .non
def deedsD (d : PyData) : Nat := (itemsD ((itemsD d).headD .none)).length
def orP (p : Str) (o : Option V) (r : Option (Str × V)) : Option (Str × V) :=
  match o with
  | some n => some (p, n)
  | none => r
def badC (ds dh dt : PyData) : Option (Str × V) := orP "shares" (badS ds) (orP "hearer" (badG dh ((itemsD ds).length : Int) 1 6) (orP "teller" (badG dt ((itemsD ds).length : Int) (deedsD dh : Int) (deedsD dh : Int)) none))
/-- fractions of few figures -/
def Few (n : Nat) (ds : List PyData) : Prop := ∀ d ∈ ds, ∀ q, ratD d = some q → Bd n q
def spChkS (K : PySem.W.Frag) (CN : Addr) : Sp := fun vs H Q E => ∃ (ex : Addr → Prop) (v : V) (d : PyData), vs = [v] ∧ Dz.Dz K H ex v d ∧ Few 1000 (itemsD d) ∧
  (∀ r, badS d = some r → ∀ H' dd, Same H H' → H' dd = some (.xd [("number", r), ("part", .str "shares")]) → E (.ref CN) (some dd) H') ∧ (badS d = none → ∀ H', Same H H' → Q .non H')
def spChkG (K : PySem.W.Frag) (CN : Addr) : Sp := fun vs H Q E => ∃ (ex : Addr → Prop) (pt : Str) (v : V) (d : PyData) (ww lo hi : Int), vs = [.str pt, v, .int ww, .int lo, .int hi] ∧ Dz.Dz K H ex v d ∧ hi ≤ 6 ∧
  (∀ r, badG d ww lo hi = some r → ∀ H' dd, Same H H' → H' dd = some (.xd [("number", r), ("part", .str pt)]) → E (.ref CN) (some dd) H') ∧ (badG d ww lo hi = none → ∀ H', Same H H' → Q .non H')
/-- a case that stands -/
def IsCase (K : PySem.W.Frag) (H : Hp) (C x : Addr) (qs : List Rat) (hss tss : List (List Rat)) (n : Nat) : Prop := ∃ (dx sa ha ta : Addr) (cs : List V) (rh rt : List Addr), H x = some (.ins C dx [("own_shares", .ref sa), ("own_hearer", .ref ha), ("own_teller", .ref ta)]) ∧ H sa = some (.lst cs) ∧ FrN K H n cs qs ∧ RwL K H ha rh hss n ∧ RwL K H ta rt tss n
theorem IsCase.same {K : PySem.W.Frag} {H H' : Hp} {C x : Addr} {qs : List Rat} {hss tss : List (List Rat)} {n : Nat} (h : IsCase K H C x qs hss tss n) (s : Same H H') : IsCase K H' C x qs hss tss n :=
  let ⟨dx, sa, ha, ta, cs, rh, rt, e1, e2, e3, e4, e5⟩ := h; ⟨dx, sa, ha, ta, cs, rh, rt, s _ _ e1, s _ _ e2, e3.same s, e4.same s, e5.same s⟩
abbrev dS (qs : List Rat) : PyData := .list (qs.map dR)
/-- good parts of a case -/
structure GoodC (qs : List Rat) (hss tss : List (List Rat)) (ww dd : Nat) : Prop where
  w1 : 1 ≤ ww
  w5 : ww ≤ 5
  d1 : 1 ≤ dd
  d6 : dd ≤ 6
  sh : RowOk ww qs
  hl : hss.length = ww
  tl : tss.length = ww
  hr : ∀ r ∈ hss, r.length = dd
  tr : ∀ r ∈ tss, r.length = dd
theorem lenOk_iff {n : Nat} {lo hi : Int} : lenOk (some n) lo hi = true ↔ lo ≤ (n : Int) ∧ (n : Int) ≤ hi := by
  show (decide _ && decide _) = true ↔ _
  rw [Bool.and_eq_true, decide_eq_true_eq, decide_eq_true_eq]
theorem lenOk_list {d : PyData} {lo hi : Int} (h : lenOk (lenD d) lo hi = true) : ∃ ds, d = .list ds ∧ lo ≤ (ds.length : Int) ∧ (ds.length : Int) ≤ hi := by
  cases d with
  | list ds => exact ⟨ds, rfl, lenOk_iff.mp h⟩
  | _ => cases h
theorem all_dR (qs : List Rat) : (qs.map dR).all (fun e => (ratD e).isSome) = true := by
  rw [List.all_eq_true]
  intro d hd
  obtain ⟨q, _, rfl⟩ := List.mem_map.mp hd
  rw [ratD_dR]
  rfl
theorem shD_dR (q : Rat) : shD (dR q) = decide (0 ≤ q.num) := by
  unfold shD
  rw [ratD_dR]
theorem sumD_dR (qs : List Rat) : sumD (qs.map dR) = qs.sum := by
  unfold sumD
  rw [List.map_map]
  congr 1
  have : ((fun d => (ratD d).getD 0) ∘ dR) = id := by
    funext q
    show (ratD (dR q)).getD 0 = q
    rw [ratD_dR]
    rfl
  rw [this, List.map_id]
theorem firstNot_good {qs : List Rat} (h : ∀ q ∈ qs, 0 ≤ q) : ∀ {j : Nat}, firstNot shD (qs.map dR) j = none := by
  induction qs with
  | nil => intro j; rfl
  | cons q qs ih =>
    intro j
    show firstNot shD (dR q :: qs.map dR) j = none
    rw [firstNot, if_pos (by rw [shD_dR]; exact decide_eq_true (Rat.num_nonneg.mpr (h q (List.mem_cons_self ..))))]
    exact ih fun x hx => h x (List.mem_cons_of_mem _ hx)
theorem badS_good {qs : List Rat} {ww : Nat} (h : RowOk ww qs) (h1 : 1 ≤ ww) (h5 : ww ≤ 5) : badS (dS qs) = none := by
  unfold badS
  have e : lenOk (lenD (dS qs)) 1 5 = true := lenOk_iff.mpr (by rw [List.length_map, h.1]; omega)
  rw [if_pos e]
  show numS (firstNot shD (qs.map dR) 0) (sumD (qs.map dR)) = none
  rw [firstNot_good h.2.1, sumD_dR, h.2.2]
  rfl
theorem fwz_good {dd : Nat} : ∀ (rss : List (List Rat)) (j : Nat) (lo hi : Int), (∀ r ∈ rss, r.length = dd) → lo ≤ (dd : Int) → (dd : Int) ≤ hi → firstWrongZ (rss.map fun qs => .list (qs.map dR)) j lo hi = none
  | [], _, _, _, _, _, _ => rfl
  | q :: rss, j, lo, hi, h, h1, h2 => by
    have hq := h q (List.mem_cons_self ..)
    have c : rowOkZ (.list (q.map dR)) lo hi = true := by
      unfold rowOkZ
      have e : lenOk (lenD (.list (q.map dR))) lo hi = true := lenOk_iff.mpr (by rw [List.length_map, hq]; exact ⟨h1, h2⟩)
      rw [e]
      exact all_dR q
    show firstWrongZ (.list (q.map dR) :: rss.map fun qs => .list (qs.map dR)) j lo hi = none
    rw [firstWrongZ, if_pos c]
    have e : ((itemsD (.list (q.map dR))).length : Int) = (dd : Int) := by
      show ((q.map dR).length : Int) = _
      rw [List.length_map, hq]
    rw [e]
    exact fwz_good rss _ _ _ (fun r hr => h r (List.mem_cons_of_mem _ hr)) (Int.le_refl _) (Int.le_refl _)
theorem badG_good {rss : List (List Rat)} {ww dd : Nat} {lo hi : Int} (hl : rss.length = ww) (hr : ∀ r ∈ rss, r.length = dd) (h1 : lo ≤ (dd : Int)) (h2 : (dd : Int) ≤ hi) : badG (dRows rss) (ww : Int) lo hi = none := by
  unfold badG
  have e : lenOk (lenD (dRows rss)) (ww : Int) (ww : Int) = true := lenOk_iff.mpr (by rw [List.length_map, hl]; omega)
  rw [if_pos e]
  show (firstWrongZ (rss.map fun qs => .list (qs.map dR)) 0 lo hi).map _ = none
  rw [fwz_good rss 0 lo hi hr h1 h2]
  rfl
theorem badC_good {qs : List Rat} {hss tss : List (List Rat)} {ww dd : Nat} (g : GoodC qs hss tss ww dd) : badC (dS qs) (dRows hss) (dRows tss) = none := by
  have e0 := badS_good g.sh g.w1 g.w5
  have el : ((itemsD (dS qs)).length : Int) = (ww : Int) := by
    show ((qs.map dR).length : Int) = _
    rw [List.length_map, g.sh.1]
  have ed : deedsD (dRows hss) = dd := by
    have := g.w1
    have := g.hl
    cases hss with
    | nil => simp at this; omega
    | cons r hss =>
      show (r.map dR).length = dd
      rw [List.length_map]
      exact g.hr r (List.mem_cons_self ..)
  have h1 := g.d1
  have h6 := g.d6
  unfold badC
  rw [e0]
  rw [el, badG_good g.hl g.hr (by omega) (by omega), ed, badG_good g.tl g.tr (Int.le_refl _) (Int.le_refl _)]
  rfl
/-- rows that are let by are rows of fractions -/
theorem rows_of {K : PySem.W.Frag} {H : Hp} {ex : Addr → Prop} {n : Nat} : ∀ {ds : List PyData} {vs : List V} {j : Nat} {lo hi : Int}, DzA K H ex vs ds → (∀ d ∈ ds, Few n (itemsD d)) → firstWrongZ ds j lo hi = none → ∃ rs rss, vs = rs.map V.ref ∧ ds = rss.map (fun qs => PyData.list (qs.map dR)) ∧ RowsAt K H n rs rss
  | [], _, _, _, _, h, _, _ => by cases h; exact ⟨[], [], rfl, rfl, RowsAt.nil⟩
  | d :: ds, _, j, lo, hi, h, hf, e => by
    cases h with
    | @cons v vs _ _ h t =>
      rw [firstWrongZ] at e
      split at e
      · rename_i c
        obtain ⟨rs, rss, e1, e2, e3⟩ := rows_of t (fun x hx => hf x (List.mem_cons_of_mem _ hx)) e
        unfold rowOkZ at c
        rw [Bool.and_eq_true] at c
        obtain ⟨es, rfl, _, _⟩ := lenOk_list c.1
        cases h with
        | @lst a cs _ h hn ts =>
          obtain ⟨qs, f1, f2⟩ := ts.rats (n := n) (hf _ (List.mem_cons_self ..)) c.2
          refine ⟨a :: rs, qs :: rss, by rw [e1]; rfl, by rw [e2, f1]; rfl, ⟨by rw [List.length_cons, List.length_cons, e3.1], fun j x e => ?_⟩⟩
          cases j with
          | zero => cases (Option.some.inj e); exact ⟨cs, qs, rfl, h, f2⟩
          | succ j => exact e3.2 j x e
      · cases e
/-- Case(shares, hearer, teller), of any things -/
def spCInit (K : PySem.W.Frag) (C CN : Addr) : Sp := fun vs H Q E => ∃ (ex : Addr → Prop) (n : Nat) (x dx : Addr) (vs0 vh vt : V) (ds dh dt : PyData), vs = [.ref x, vs0, vh, vt] ∧ H x = some (.ins C dx []) ∧ Dz.Dz K H ex vs0 ds ∧ Dz.Dz K H ex vh dh ∧ Dz.Dz K H ex vt dt ∧
  n ≤ 1000 ∧ Few n (itemsD ds) ∧ (∀ d ∈ itemsD dh, Few n (itemsD d)) ∧ (∀ d ∈ itemsD dt, Few n (itemsD d)) ∧
  (∀ p r, badC ds dh dt = some (p, r) → ∀ H' dd, Same H H' → H' dd = some (.xd [("number", r), ("part", .str p)]) → E (.ref CN) (some dd) H') ∧
  (badC ds dh dt = none → ∀ sa ha ta cs rh rt qs hss tss H', (∀ b ob, b ≠ x → H b = some ob → H' b = some ob) → H' x = some (.ins C dx [("own_shares", .ref sa), ("own_hearer", .ref ha), ("own_teller", .ref ta)]) → H' sa = some (.lst cs) → FrN K H' n cs qs → RwL K H' ha rh hss n → RwL K H' ta rt tss n →
    ds = dS qs → dh = dRows hss → dt = dRows tss → Q .non H')
end Cs

set_option Elab.async false
set_option linter.all false
set_option maxRecDepth 100000
set_option maxHeartbeats 4000000
namespace Lw
open PySem PySem.Spec PyProof.Rows L2 BX EXB Co Ru
open Dz Cs
open Fr (Bd)
def spGain (K : PySem.W.Frag) : Sp := fun vs H Q _ => ∃ (l : Addr) (z : Int), vs = [.ref l] ∧ H l = some (.lst [.int z]) ∧ ∀ p q z' H', SameB l H H' → H' l = some (.lst [.int z']) → SqT K H' p (rp q) → Bd 8 q → Q (.ref p) H'
def spGains (K : PySem.W.Frag) : Sp := fun vs H Q _ => ∃ (l : Addr) (z : Int) (ww dd : Nat), vs = [.ref l, .int (ww : Int), .int (dd : Int)] ∧ H l = some (.lst [.int z]) ∧ ww ≤ 5 ∧ dd ≤ 6 ∧
  ∀ D rs rss z' H', New K H H' l D rs rss 8 → D ≠ l → H' l = some (.lst [.int z']) → rss.length = ww → (∀ r ∈ rss, r.length = dd) → Q (.ref D) H'
/-- the law's parts of a case -/
def PartsAt (K : PySem.W.Frag) (H : Hp) (P : Addr) (qs : List Rat) (hss tss : List (List Rat)) : Prop := ∃ (A B C : Addr) (cs : List V) (rh rt : List Addr), H P = some (.lst [.ref A, .ref B, .ref C]) ∧ H A = some (.lst cs) ∧ FrN K H 8 cs qs ∧ RwL K H B rh hss 8 ∧ RwL K H C rt tss 8
theorem PartsAt.same {K : PySem.W.Frag} {H H' : Hp} {P : Addr} {qs : List Rat} {hss tss : List (List Rat)} (h : PartsAt K H P qs hss tss) (s : Same H H') : PartsAt K H' P qs hss tss :=
  let ⟨A, B, C, cs, rh, rt, e1, e2, e3, e4, e5⟩ := h; ⟨A, B, C, cs, rh, rt, s _ _ e1, s _ _ e2, e3.same s, e4.same s, e5.same s⟩
theorem frn_num {K : PySem.W.Frag} {H : Hp} {n : Nat} {z : Int} {qs : List Rat} (h : FrN K H n [.int z] qs) : False := by
  obtain ⟨a, q, _, e, _⟩ := h.at_ 0 _ rfl
  cases e
theorem PartsAt.but {K : PySem.W.Frag} {H H' : Hp} {P l : Addr} {z : Int} {qs : List Rat} {hss tss : List (List Rat)} (h : PartsAt K H P qs hss tss) (hl : H l = some (.lst [.int z])) (s : SameB l H H') : PartsAt K H' P qs hss tss := by
  obtain ⟨A, B, C, cs, rh, rt, e1, e2, e3, e4, e5⟩ := h
  refine ⟨A, B, C, cs, rh, rt, s _ _ (fun e => ?_) e1, s _ _ (fun e => ?_) e2, e3.keep (s.tup hl), Rs.RwL.keepB e4 hl s, Rs.RwL.keepB e5 hl s⟩
  · rw [e, hl] at e1
    cases e1
  · rw [e, hl] at e2
    cases e2
    exact frn_num e3
def spParts (K : PySem.W.Frag) : Sp := fun vs H Q _ => ∃ (l : Addr) (z : Int) (mw md : Nat), vs = [.ref l, .int (mw : Int), .int (md : Int)] ∧ H l = some (.lst [.int z]) ∧ 1 ≤ mw ∧ mw ≤ 5 ∧ 1 ≤ md ∧ md ≤ 6 ∧
  ∀ P qs hss tss ww dd z' H', SameB l H H' → H' l = some (.lst [.int z']) → PartsAt K H' P qs hss tss → GoodC qs hss tss ww dd → ww ≤ mw → dd ≤ md → H P = none → P ≠ l → Q (.ref P) H'
theorem bd_one : Bd 8 (1 : Rat) := ⟨by decide, by decide⟩
theorem bd_nul : Bd 8 (0 : Rat) := ⟨by decide, by decide⟩
theorem tab5 {d : Int} (h0 : 0 ≤ d) (h5 : d < 5) : ∃ v : Int, atI [V.int 1, V.int 1, V.int 1, V.int 2, V.int 3] d = some (V.int v) ∧ 1 ≤ v ∧ v ≤ 3 := by
  have : d = 0 ∨ d = 1 ∨ d = 2 ∨ d = 3 ∨ d = 4 := by omega
  rcases this with rfl | rfl | rfl | rfl | rfl
  · exact ⟨1, atI_nat (j := 0) rfl, by decide, by decide⟩
  · exact ⟨1, atI_nat (j := 1) rfl, by decide, by decide⟩
  · exact ⟨1, atI_nat (j := 2) rfl, by decide, by decide⟩
  · exact ⟨2, atI_nat (j := 3) rfl, by decide, by decide⟩
  · exact ⟨3, atI_nat (j := 4) rfl, by decide, by decide⟩
end Lw

set_option Elab.async false
set_option linter.all false
set_option maxRecDepth 100000
set_option maxHeartbeats 4000000
namespace Hr
open PySem PySem.Spec PyProof.Rows L2 BX EXB Co Ru
open Dz Cs
open Fr (Bd)
/-! ### a def's promise, asked of less -/
theorem less {P : Program} {w : World} {K : PySem.W.Frag} {mg : Str → Option Value} {base : Heap} {CX : CXT} {k : Nat} {f : Addr} {fd : FuncData} {ps : List Str} {sp sp' : Sp} (F : FnOk P w K mg base CX k f fd ps sp) (h : ∀ vs H Q E, sp' vs H Q E → sp vs H Q E) : FnOk P w K mg base CX k f fd ps sp' :=
  ⟨fun vs H Q E z => F.len vs H Q E (h _ _ _ _ z), fun A outer s H args us vs Q E hr e b r z => F.run A outer s H args us vs Q E hr e b r (h _ _ _ _ z)⟩
/-! ### calls by names -/
section
variable {X : Cx} {CX : CXT} {k : Nat} {f : Addr} {fd : FuncData} {ps ks : List Str} {sp : Sp} {E : XK} {x : Str} {p pos : Pos} {kws : List Keyword} {tk : TA} {g : List Value → List Value → List Value} {gV : List V → List V → List V}
/-- f(k = v, ..), by names alone -/
theorem pe_callN0 (F : FnOk X.prog X.w X.K X.mg X.base CX k f fd ps sp) (hr : Room k X.A) (hg : Gl X x) (hm : X.mg x = some (.ref f)) (hk : PySem.W.keepIn X.K (.ref f) = true) (hb : KBn X.K fd ps 0 ks g gV) (hx : Passes CX X E)
    (hkw : PK X kws tk) (hall : (backToKw pos (keywordEach kws X.env)).all (·.1.isSome) = true := by rfl) (hks : (backToKw pos (keywordEach kws X.env)).filterMap (·.1) = ks := by rfl)
    (hdb : (x == ("__debug__" : Str)) = false := by decide) (hpl : ((backTo pos (starEach [] X.env)).any (·.1) || (backToKw pos (keywordEach kws X.env)).any (·.1.isNone)) = false := by rfl) :
    PE X (.Call (.Name x p) [] kws pos) (tCallN 0 ks.length sp gV E tNil tk) := by
  constructor
  intro pins s σ H Q I h
  apply wpAny_Call_Name_kw
  apply ld_glob I hg hm _ hdb
  apply PySem.W.callWith_KW0 (h₀ := X.base) I.ok.mod.kin hk hall _ hpl
  refine thn (hkw.run pos pins s σ H _ I h) ?_
  rintro ws s2 ⟨zs, H2, I2, rz, l1, l2, q2⟩
  rw [hks]
  exact ⟨I2.kIn, run_fnN F hr hb hx I2 .nil rz l1 l2 q2⟩
end
theorem kbn_of {K : PySem.W.Frag} {x qual : Str} {st : Stmt} {f : Addr} {fd : FuncData} {ps ks : List Str} {n : Nat} (g : {α : Type} → List α → List α → List α) (F : Fun K x qual st f fd)
    (hrel : ∀ {vs : List V} {us : List Value} {zs : List V} {ws : List Value}, Vals vs us → Vals zs ws → Vals (g vs zs) (g us ws))
    (h : ∀ (kV doc pm : Value) (an : Option Addr) (cdv ct : Value) (us ws : List Value), us.length = n → ws.length = ks.length → bindArgs (PySem.W.fnOf x qual (defArgs st) (defBody st) (defScope st) .none kV doc pm an cdv ct) ⟨us, ks.zip ws⟩ = pure (ps.zip (g us ws))) : KBn K fd ps n ks g g := by
  obtain ⟨oc, od, kV, doc, pm, an, cdv, ct, osl, rfl, lk, hcd⟩ := F.ex
  exact ⟨fun s us ws _ l1 l2 => .of_eq (h kV doc pm an cdv ct us ws l1 l2), hrel⟩
/-- first the values, then the names' -/
def gA : {α : Type} → List α → List α → List α := fun us ws => us ++ ws
theorem gA_rel {vs : List V} {us : List Value} {zs : List V} {ws : List Value} (a : Vals vs us) (b : Vals zs ws) : Vals (gA vs zs) (gA us ws) := a.append b
/-! ### numbers -/
theorem bd_sum {n : Nat} : ∀ {qs : List Rat}, (∀ q ∈ qs, Bd n q) → Bd ((n + 1) * qs.length + 1) qs.sum
  | [], _ => ⟨by show (0 : Int).natAbs < 2 ^ 1; decide, by show 1 < 2 ^ 1; decide⟩
  | q :: qs, h => by
    rw [List.sum_cons, List.length_cons]
    exact (Fr.bd_add (h q (List.mem_cons_self ..)) (bd_sum fun x hx => h x (List.mem_cons_of_mem _ hx))).mono (by rw [Nat.mul_succ]; omega)
theorem frn_get {K : PySem.W.Frag} {H : Hp} {n : Nat} {cs : List V} {qs : List Rat} (h : FrN K H n cs qs) {i : Nat} {q : Rat} (e : qs[i]? = some q) : ∃ a, cs[i]? = some (.ref a) ∧ SqT K H a (rp q) ∧ Bd n q := by
  have hi : i < cs.length := by
    rw [h.len]
    exact (List.getElem?_eq_some_iff.mp e).1
  obtain ⟨a, q', e1, e2, e3, e4⟩ := h.at_ i _ (List.getElem?_eq_getElem hi)
  rw [e] at e1
  cases e1
  exact ⟨a, by rw [List.getElem?_eq_getElem hi, e2], e3, e4⟩
theorem frn_bd {K : PySem.W.Frag} {H : Hp} {n : Nat} {cs : List V} {qs : List Rat} (h : FrN K H n cs qs) : ∀ q ∈ qs, Bd n q := fun q hq => by
  obtain ⟨i, hi, e⟩ := List.getElem_of_mem hq
  obtain ⟨_, _, _, b⟩ := frn_get h (show qs[i]? = some q by rw [List.getElem?_eq_getElem hi, e])
  exact b
theorem lt_iff' (a b : Rat) : decide (a.num * b.den < b.num * a.den) = decide (a < b) := by
  have := Rat.lt_iff a b
  simp only [this]
/-! ### what deeds are worth -/
def prods (rss : List (List Rat)) (ws : List Rat) (d : Nat) : List Rat := List.zipWith (fun w r => w * r.getD d 0) ws rss
def wq (rss : List (List Rat)) (ws : List Rat) (d : Nat) : Rat := (prods rss ws d).sum
theorem prods_at {rss : List (List Rat)} {ws : List Rat} {d i : Nat} {q : Rat} {r : List Rat} (h1 : ws[i]? = some q) (h2 : rss[i]? = some r) : (prods rss ws d)[i]? = some (q * r.getD d 0) := by
  unfold prods
  rw [List.getElem?_zipWith, h1, h2]
theorem prods_len {rss : List (List Rat)} {ws : List Rat} {d : Nat} (h : ws.length = rss.length) : (prods rss ws d).length = ws.length := by
  unfold prods
  rw [List.length_zipWith]
  omega
/-- a table of gains by weights -/
def spWorth (K : PySem.W.Frag) : Sp := fun vs H Q _ => ∃ (a b : Addr) (d : Nat) (rs : List Addr) (rss : List (List Rat)) (cs : List V) (ws : List Rat) (n m dd : Nat), vs = [.ref a, .ref b, .int (d : Int)] ∧ RwL K H a rs rss n ∧ SqL K H b cs ∧ FrN K H m cs ws ∧ ws.length = rss.length ∧ rss.length ≤ 5 ∧ (∀ r ∈ rss, r.length = dd) ∧ d < dd ∧ n ≤ 280 ∧ m ≤ 280 ∧
  ∀ p H', Same H H' → SqT K H' p (rp (wq rss ws d)) → Bd ((n + m + 1) * 5 + 1) (wq rss ws d) → Q (.ref p) H'
theorem bd_wq {K : PySem.W.Frag} {H : Hp} {a : Addr} {rs : List Addr} {rss : List (List Rat)} {cs : List V} {ws : List Rat} {n m d : Nat} (h1 : RwL K H a rs rss n) (h2 : FrN K H m cs ws) (hd : ∀ r ∈ rss, d < r.length) (hl : ws.length = rss.length) (h5 : rss.length ≤ 5) : (∀ q ∈ prods rss ws d, Bd (n + m) q) ∧ Bd ((n + m + 1) * 5 + 1) (wq rss ws d) := by
  have hb : ∀ q ∈ prods rss ws d, Bd (n + m) q := fun q hq => by
    unfold prods at hq
    obtain ⟨i, hi, e⟩ := List.getElem_of_mem hq
    rw [List.length_zipWith] at hi
    have hw : i < ws.length := by omega
    have hr : i < rss.length := by omega
    have e2 : (List.zipWith (fun w r => w * r.getD d 0) ws rss)[i]? = some (ws[i] * rss[i].getD d 0) := prods_at (List.getElem?_eq_getElem hw) (List.getElem?_eq_getElem hr)
    have eq : q = ws[i] * rss[i].getD d 0 := by
      rw [← e]
      have := List.getElem?_eq_some_iff.mp e2
      exact this.2
    rw [eq]
    have b1 := frn_bd h2 ws[i] (List.getElem_mem hw)
    have hrs : i < rs.length := by rw [h1.2.1]; exact hr
    obtain ⟨cs', qs, f1, f2, f3⟩ := h1.2.2 i rs[i] (List.getElem?_eq_getElem hrs)
    rw [List.getElem?_eq_getElem hr] at f1
    cases f1
    have hdl := hd rss[i] (List.getElem_mem hr)
    have b2 : Bd n (rss[i].getD d 0) := by
      rw [List.getD_eq_getElem?_getD, List.getElem?_eq_getElem hdl]
      exact frn_bd f3 _ (List.getElem_mem hdl)
    exact (Fr.bd_mul b1 b2).mono (by omega)
  refine ⟨hb, (bd_sum hb).mono ?_⟩
  have : (prods rss ws d).length ≤ 5 := by rw [prods_len hl]; omega
  have := Nat.mul_le_mul_left (n + m + 1) this
  omega
/-! ### the greatest -/
def spGreatest (K : PySem.W.Frag) : Sp := fun vs H Q _ => ∃ (a : Addr) (cs : List V) (qs : List Rat) (n : Nat), vs = [.ref a] ∧ SqL K H a cs ∧ FrN K H n cs qs ∧ qs ≠ [] ∧ n ≤ 4400 ∧
  ∀ (i : Nat) (p : Addr) (q : Rat), cs[i]? = some (.ref p) → qs[i]? = some q → SqT K H p (rp q) → (∀ x ∈ qs, x ≤ q) → Q (.ref p) H
/-! ### good things alone -/
def spWithin : Sp := fun vs H Q _ => ∃ i lo hi : Int, vs = [.int i, .int lo, .int hi] ∧ Q (.bl (decide (lo ≤ i) && decide (i ≤ hi))) H
def spWholeI : Sp := fun vs H Q _ => ∃ i : Int, vs = [.int i] ∧ Q (.bl true) H
def spShare (K : PySem.W.Frag) : Sp := fun vs H Q _ => ∃ (a : Addr) (q : Rat), vs = [.ref a] ∧ SqT K H a (rp q) ∧ 0 ≤ q ∧ Q (.bl true) H
def spListOf (K : PySem.W.Frag) : Sp := fun vs H Q _ => ∃ (a : Addr) (xs : List V) (lo hi : Int), vs = [.ref a, .int lo, .int hi] ∧ H a = some (.lst xs) ∧ Q (.bl (decide (lo ≤ (xs.length : Int)) && decide ((xs.length : Int) ≤ hi))) H
def spShRow (K : PySem.W.Frag) : Sp := fun vs H Q _ => ∃ (r : Addr) (cs : List V) (qs : List Rat) (n m : Nat) (lo hi : Int), vs = [.ref r, .int lo, .int hi] ∧ H r = some (.lst cs) ∧ FrN K H n cs qs ∧ RowOk m qs ∧ m ≤ 30 ∧ n ≤ 280 ∧ lo ≤ (m : Int) ∧ (m : Int) ≤ hi ∧ ∀ H', Same H H' → Q (.bl true) H'
def spWrong (K : PySem.W.Frag) (fR : Addr) : Sp := fun vs H Q _ => ∃ (a : Addr) (rs : List Addr) (rss : List (List Rat)) (n m : Nat), vs = [.ref a, .ref fR, .int 1, .int 30] ∧ RwL K H a rs rss n ∧ Good rss m ∧ n ≤ 280 ∧ ∀ H', Same H H' → Q .non H'
section
variable {P : Program} {w : World} {K : PySem.W.Frag} {mg : Str → Option Value} {base : Heap} {k : Nat} {f : Addr} {fd : FuncData} {ps : List Str}
theorem wholeI (F : FnOk P w K mg base CX0 k f fd ps (spWholeZ K)) : FnOk P w K mg base CX0 k f fd ps spWholeI := less F fun vs H Q E ⟨i, e, q⟩ => ⟨fun _ => False, .int i, .int i, e, .int i, q⟩
theorem shareG (F : FnOk P w K mg base CX0 k f fd ps (spShareZ K)) : FnOk P w K mg base CX0 k f fd ps (spShare K) := less F fun vs H Q E ⟨a, r, e, ha, h0, q⟩ => ⟨fun _ => False, .ref a, dR r, e, dz_dR ha, by
  rw [shD_dR, decide_eq_true (Rat.num_nonneg.mpr h0)]
  exact q⟩
end
/-! ### what a case tells -/
def spCWorlds (K : PySem.W.Frag) (C : Addr) : Sp := fun vs H Q _ => ∃ (x : Addr) (qs : List Rat) (hss tss : List (List Rat)) (n : Nat), vs = [.ref x] ∧ IsCase K H C x qs hss tss n ∧ Q (.int (qs.length : Int)) H
def spCDeeds (K : PySem.W.Frag) (C : Addr) : Sp := fun vs H Q _ => ∃ (x : Addr) (qs : List Rat) (hss tss : List (List Rat)) (n ww dd : Nat), vs = [.ref x] ∧ IsCase K H C x qs hss tss n ∧ GoodC qs hss tss ww dd ∧ Q (.int (dd : Int)) H
def spCShares (K : PySem.W.Frag) (C : Addr) : Sp := fun vs H Q _ => ∃ (x : Addr) (qs : List Rat) (hss tss : List (List Rat)) (n : Nat), vs = [.ref x] ∧ IsCase K H C x qs hss tss n ∧ ∀ p cs, H p = none → FrN K H n cs qs → Q (.ref p) (upd H p (.lst cs))
def spCHearer (K : PySem.W.Frag) (C : Addr) : Sp := fun vs H Q _ => ∃ (x : Addr) (qs : List Rat) (hss tss : List (List Rat)) (n : Nat), vs = [.ref x] ∧ IsCase K H C x qs hss tss n ∧ hss.length ≤ 100 ∧ ∀ D rs H', Fresh K H H' D rs hss n → Q (.ref D) H'
def spCTeller (K : PySem.W.Frag) (C : Addr) : Sp := fun vs H Q _ => ∃ (x : Addr) (qs : List Rat) (hss tss : List (List Rat)) (n : Nat), vs = [.ref x] ∧ IsCase K H C x qs hss tss n ∧ tss.length ≤ 100 ∧ ∀ D rs H', Fresh K H H' D rs tss n → Q (.ref D) H'
structure CaM (K : PySem.W.Frag) (C fW fD fS fH fT : Addr) : Prop where
  mW : Meth K C "worlds" fW
  mD : Meth K C "deeds" fD
  mS : Meth K C "shares" fS
  mH : Meth K C "hearer" fH
  mT : Meth K C "teller" fT
/-! ### deeds -/
/-- the best deeds -/
def bestL (hss : List (List Rat)) (ws : List Rat) (dd : Nat) : List Nat := (List.range dd).filter fun d => decide (∀ e, e < dd → wq hss ws e ≤ wq hss ws d)
/-- a case and weights for it -/
structure Wts (K : PySem.W.Frag) (H : Hp) (C x b : Addr) (qs : List Rat) (hss tss : List (List Rat)) (ws : List Rat) (n m ww dd : Nat) : Prop where
  c : IsCase K H C x qs hss tss n
  g : GoodC qs hss tss ww dd
  b : ∃ cs, H b = some (.lst cs) ∧ FrN K H m cs ws
  l : ws.length = ww
  hn : n ≤ 280
  hm : m ≤ 280
theorem Wts.same {K : PySem.W.Frag} {H H' : Hp} {C x b : Addr} {qs : List Rat} {hss tss : List (List Rat)} {ws : List Rat} {n m ww dd : Nat} (h : Wts K H C x b qs hss tss ws n m ww dd) (s : Same H H') : Wts K H' C x b qs hss tss ws n m ww dd :=
  let ⟨cs, e1, e2⟩ := h.b
  ⟨h.c.same s, h.g, ⟨cs, s _ _ e1, e2.same s⟩, h.l, h.hn, h.hm⟩
def spChkB (K : PySem.W.Frag) (C : Addr) : Sp := fun vs H Q _ => ∃ (x b : Addr) (qs : List Rat) (hss tss : List (List Rat)) (ws : List Rat) (n m ww dd : Nat), vs = [.ref x, .ref b] ∧ Wts K H C x b qs hss tss ws n m ww dd ∧ RowOk ww ws ∧ ∀ H', Same H H' → Q .non H'
/-- a list of deeds, as values -/
def dsV (l : List Nat) : List V := l.map fun (d : Nat) => V.int (d : Int)
def spBestBy (K : PySem.W.Frag) (C : Addr) : Sp := fun vs H Q _ => ∃ (x b : Addr) (qs : List Rat) (hss tss : List (List Rat)) (ws : List Rat) (n m ww dd : Nat), vs = [.ref x, .ref b] ∧ Wts K H C x b qs hss tss ws n m ww dd ∧ ∀ p H', Same H H' → SqT K H' p (dsV (bestL hss ws dd)) → Q (.ref p) H'
def spBest (K : PySem.W.Frag) (C : Addr) : Sp := fun vs H Q _ => ∃ (x b : Addr) (qs : List Rat) (hss tss : List (List Rat)) (ws : List Rat) (n m ww dd : Nat), vs = [.ref x, .ref b] ∧ Wts K H C x b qs hss tss ws n m ww dd ∧ RowOk ww ws ∧ ∀ p H', Same H H' → SqT K H' p (dsV (bestL hss ws dd)) → Q (.ref p) H'
def spWorths (K : PySem.W.Frag) (C : Addr) : Sp := fun vs H Q _ => ∃ (x b : Addr) (d : Nat) (qs : List Rat) (hss tss : List (List Rat)) (ws : List Rat) (n m ww dd : Nat), vs = [.ref x, .ref b, .int (d : Int)] ∧ Wts K H C x b qs hss tss ws n m ww dd ∧ RowOk ww ws ∧ d < dd ∧
  ∀ p p1 p2 H', Same H H' → SqT K H' p [.ref p1, .ref p2] → SqT K H' p1 (rp (wq hss ws d)) → SqT K H' p2 (rp (wq tss ws d)) → Q (.ref p) H'
/-! ### the greatest of the worths -/
def worthL (hss : List (List Rat)) (ws : List Rat) (dd : Nat) : List Rat := (List.range dd).map (wq hss ws)
theorem worthL_at {hss : List (List Rat)} {ws : List Rat} {dd d : Nat} (h : d < dd) : (worthL hss ws dd)[d]? = some (wq hss ws d) := by
  unfold worthL
  rw [List.getElem?_map, List.getElem?_range h]
  rfl
theorem worthL_len {hss : List (List Rat)} {ws : List Rat} {dd : Nat} : (worthL hss ws dd).length = dd := by
  unfold worthL
  rw [List.length_map, List.length_range]
theorem take_succ_at {α : Type} {l : List α} {i : Nat} {x : α} (h : l[i]? = some x) : l.take (i + 1) = l.take i ++ [x] := by
  rw [List.take_add_one, h]
  rfl
theorem range_take {dd i : Nat} (h : i ≤ dd) : (List.range dd).take i = List.range i := by
  rw [List.take_range, Nat.min_eq_left h]
theorem best_iff {hss : List (List Rat)} {ws : List Rat} {dd d : Nat} {top : Rat} (h1 : top ∈ worthL hss ws dd) (h2 : ∀ x ∈ worthL hss ws dd, x ≤ top) (hd : d < dd) : decide (wq hss ws d = top) = decide (∀ e, e < dd → wq hss ws e ≤ wq hss ws d) := by
  apply decide_eq_decide.mpr
  constructor
  · intro e e' he
    rw [e]
    exact h2 _ (List.mem_of_getElem? (worthL_at he))
  · intro h
    have hle := h2 _ (List.mem_of_getElem? (worthL_at hd))
    obtain ⟨j, hj, e⟩ := List.mem_map.mp h1
    have := h j (List.mem_range.mp hj)
    rw [e] at this
    exact Rat.le_antisymm hle this
theorem best_ne {hss : List (List Rat)} {ws : List Rat} {dd : Nat} {top : Rat} (h1 : top ∈ worthL hss ws dd) (h2 : ∀ x ∈ worthL hss ws dd, x ≤ top) : bestL hss ws dd ≠ [] := by
  intro e
  obtain ⟨j, hj, ej⟩ := List.mem_map.mp h1
  have hj' := List.mem_range.mp hj
  have : j ∈ bestL hss ws dd := by
    unfold bestL
    refine List.mem_filter.mpr ⟨hj, ?_⟩
    rw [← best_iff h1 h2 hj']
    exact decide_eq_true ej
  rw [e] at this
  cases this
end Hr

set_option Elab.async false
set_option linter.all false
set_option maxRecDepth 100000
set_option maxHeartbeats 4000000
namespace Hr
open PySem PySem.Spec PyProof.Rows L2 BX EXB Co Ru
/-- xs + ys, each a list of any standing -/
def rCatS (K : PySem.W.Frag) : R2 := fun x y H Q => ∃ (l b : Addr) (xs zs : List V), x = .ref l ∧ y = .ref b ∧ SqL K H l xs ∧ SqL K H b zs ∧ xs.length + zs.length ≤ sizeLine ∧ ∀ p, H p = none → Q (.ref p) (upd H p (.lst (xs ++ zs)))
theorem op_catS {X : Cx} : OpR X (binaryOp .Add) (rCatS X.K) := by
  rintro pins s σ H x y v u Q I rx ry ⟨l, b, xs, zs, rfl, rfl, hA, hB, hz, q⟩
  cases rx
  cases ry
  obtain ⟨is1, r1, ⟨⟨c1, m1, t1, o1⟩, n1, g1, h1, h1', h1''⟩, _⟩ := I.list hA
  obtain ⟨is2, r2, ⟨⟨c2, m2, t2, o2⟩, n2, g2, h2, h2', h2''⟩, _⟩ := I.list hB
  cases h1
  cases h2
  cases h1''
  cases h2''
  have size : is1.toArray.size + is2.toArray.size ≤ sizeLine := by
    have a1 := r1.length
    have a2 := r2.length
    simp only [List.size_toArray]
    omega
  have go := list_addW l b is1.toArray is2.toArray n1 n2 m1 m2 o1 o2 size
  have k1 : s.TypeIs (.ref l) "list" := ⟨_, g1, rfl⟩
  have k2 : s.TypeIs (.ref b) "list" := ⟨_, g2, rfl⟩
  apply concat_meets k1 k2 noFill_list_add seq_list_add PySem.F.slot_list_add PySem.F.entry_list_add (PySem.F.args_list_add_2 _ _) go
  refine ⟨g1, g2, ?_⟩
  have glue : is1.toArray ++ is2.toArray = (is1 ++ is2).toArray := by simp
  rw [glue]
  have made := I.lnew (t' := s.toks) (r1.append r2) (by rw [List.length_append]; exact hz)
  exact ⟨.ref _, _, made, rfl, q _ I.fresh⟩
end Hr

set_option Elab.async false
set_option linter.all false
set_option maxRecDepth 100000
set_option maxHeartbeats 4000000
namespace Hr
open PySem PySem.Spec PyProof.Rows L2 BX EXB Co Ru
open Dz Cs
open Fr (Bd)
theorem few_dR {n : Nat} {K : PySem.W.Frag} {H : Hp} {cs : List V} {qs : List Rat} (h : FrN K H n cs qs) : Few n (qs.map dR) := fun d hd q e => by
  obtain ⟨r, hr, rfl⟩ := List.mem_map.mp hd
  rw [ratD_dR] at e
  cases e
  obtain ⟨i, hi, e⟩ := List.getElem_of_mem hr
  obtain ⟨a, q', e1, _, _, e4⟩ := h.at_ i (cs[i]'(by rw [h.len]; exact hi)) (List.getElem?_eq_getElem _)
  rw [List.getElem?_eq_getElem hi] at e1
  rw [← e, Option.some.inj e1]
  exact e4
theorem few_rows {n : Nat} {K : PySem.W.Frag} {H : Hp} {rs : List Addr} {rss : List (List Rat)} (h : RowsAt K H n rs rss) : ∀ d ∈ rss.map (fun qs => PyData.list (qs.map dR)), Few n (itemsD d) := fun d hd => by
  obtain ⟨qs, hq, rfl⟩ := List.mem_map.mp hd
  obtain ⟨i, hi, e⟩ := List.getElem_of_mem hq
  have hir : i < rs.length := by rw [h.1]; exact hi
  obtain ⟨cs, qs', e1, _, e3⟩ := h.2 i _ (List.getElem?_eq_getElem hir)
  rw [List.getElem?_eq_getElem hi, e] at e1
  cases (Option.some.inj e1)
  exact few_dR e3
theorem few_mono {n m : Nat} {ds : List PyData} (h : Few n ds) (l : n ≤ m) : Few m ds := fun d hd q e => (h d hd q e).mono l
theorem dRows_inj : ∀ {r1 r2 : List (List Rat)}, dRows r1 = dRows r2 → r1 = r2 := by
  have dRi : ∀ {a b : Rat}, dR a = dR b → a = b := fun {a b} e => by
    have h1 := ratD_dR a
    rw [e, ratD_dR] at h1
    exact (Option.some.inj h1).symm
  intro r1 r2 e
  have e' : (r1.map fun qs => PyData.list (qs.map dR)) = r2.map fun qs => PyData.list (qs.map dR) := by injection e
  refine (List.map_inj_right (fun x y h => ?_)).mp e'
  have h' : x.map dR = y.map dR := by injection h
  exact (List.map_inj_right (fun a b h => dRi h)).mp h'
theorem dS_inj {a b : List Rat} (e : dS a = dS b) : a = b := by
  have h' : a.map dR = b.map dR := by injection e
  refine (List.map_inj_right (fun x y h => ?_)).mp h'
  have h1 := ratD_dR x
  rw [h, ratD_dR] at h1
  exact (Option.some.inj h1).symm
/-- Case(..) of good parts -/
theorem mk_caseN {K : PySem.W.Frag} {n : Nat} (hn : n ≤ 1000) {C CN A B' C' : Addr} {H : Hp} {cs : List V} {rh rt : List Addr} {qs : List Rat} {hss tss : List (List Rat)} {ww dd : Nat} {Q : Addr → Hp → Prop} (e2 : H A = some (.lst cs)) (e3 : FrN K H n cs qs) (e4 : RwL K H B' rh hss n) (e5 : RwL K H C' rt tss n) (g : GoodC qs hss tss ww dd) (q : ∀ x H', Same H H' → H x = none → IsCase K H' C x qs hss tss n → Q x H') :
    ∀ x dx, H x = none → H dx = none → dx ≠ x → spCInit K C CN [.ref x, .ref A, .ref B', .ref C'] (upd (upd H dx (.own x)) x (.ins C dx [])) (fun v H2 => v = .non ∧ Q x H2) E0 := by
  intro x dx hx hdx hne
  have s1 := same_new hdx (.own x)
  have hx1 : (upd H dx (.own x)) x = none := by rw [upd_ne (Ne.symm hne)]; exact hx
  have s2 := s1.trans (same_new hx1 (.ins C dx []))
  refine ⟨fun _ => False, n, x, dx, .ref A, .ref B', .ref C', dS qs, dRows hss, dRows tss, rfl, upd_same, .lst (s2 _ _ e2) (fun z => z) ((frn_dz e3).same s2), .lst (s2 _ _ e4.1) (fun z => z) ((rows_dz e4.2 fun _ _ z => z).same s2), .lst (s2 _ _ e5.1) (fun z => z) ((rows_dz e5.2 fun _ _ z => z).same s2), hn, few_dR e3, few_rows e4.2, few_rows e5.2, fun p r er => ?_, fun _ sa ha ta cs' rh' rt' qs' hss' tss' H' kp hx' g1 g2 g3 g4 i1 i2 i3 => ⟨rfl, ?_⟩⟩
  · rw [badC_good g] at er
    cases er
  · have j1 := dS_inj i1
    have j2 := dRows_inj i2
    have j3 := dRows_inj i3
    subst j1 j2 j3
    exact q x H' (fun b ob e => kp b ob (ne_of_none e hx) (s2 _ _ e)) hx ⟨dx, sa, ha, ta, cs', rh', rt', hx', g1, g2, g3, g4⟩
/-! ### the laws' own helpers -/
def spLSum (K : PySem.W.Frag) : Sp := fun vs H Q _ => ∃ (l : Addr) (cs : List V) (qs : List Rat) (n : Nat), vs = [.ref l] ∧ SqL K H l cs ∧ FrN K H n cs qs ∧ (n + 1) * qs.length + 1 ≤ 8700 ∧ ∀ r H', Same H H' → SqT K H' r (rp qs.sum) → Q (.ref r) H'
/-- new shares, of the digits at l -/
def Shd (K : PySem.W.Frag) (H : Hp) (l : Addr) (m : Nat) (Q : VK) : Prop := ∀ D cs qs z' H', SameB l H H' → H' l = some (.lst [.int z']) → H D = none → D ≠ l → H' D = some (.lst cs) → FrN K H' 8 cs qs → RowOk m qs → Q (.ref D) H'
def spParted (K : PySem.W.Frag) : Sp := fun vs H Q _ => ∃ (l : Addr) (z : Int) (m : Nat) (top : Int), vs = [.ref l, .int (m : Int), .int top] ∧ H l = some (.lst [.int z]) ∧ 1 ≤ m ∧ m ≤ 30 ∧ 1 ≤ top ∧ top ≤ 4 ∧ Shd K H l m Q
def spAllIn (K : PySem.W.Frag) : Sp := fun vs H Q _ => ∃ (l : Addr) (z : Int) (m : Nat), vs = [.ref l, .int (m : Int)] ∧ H l = some (.lst [.int z]) ∧ 1 ≤ m ∧ m ≤ 30 ∧ Shd K H l m Q
def spGain (K : PySem.W.Frag) : Sp := fun vs H Q _ => ∃ (l : Addr) (z : Int), vs = [.ref l] ∧ H l = some (.lst [.int z]) ∧ ∀ p q z' H', SameB l H H' → H' l = some (.lst [.int z']) → SqT K H' p (rp q) → Bd 43 q → Q (.ref p) H'
def spGains (K : PySem.W.Frag) : Sp := fun vs H Q _ => ∃ (l : Addr) (z : Int) (ww dd : Nat), vs = [.ref l, .int (ww : Int), .int (dd : Int)] ∧ H l = some (.lst [.int z]) ∧ ww ≤ 5 ∧ 1 ≤ dd ∧ dd ≤ 6 ∧
  ∀ D rs rss z' H', New K H H' l D rs rss 43 → D ≠ l → H' l = some (.lst [.int z']) → rss.length = ww → (∀ r ∈ rss, r.length = dd) → Q (.ref D) H'
/-- a case's parts, in a tuple -/
def PartsT (K : PySem.W.Frag) (H : Hp) (P : Addr) (qs : List Rat) (hss tss : List (List Rat)) (n : Nat) : Prop := ∃ (A B C : Addr) (cs : List V) (rh rt : List Addr), SqT K H P [.ref A, .ref B, .ref C] ∧ H A = some (.lst cs) ∧ FrN K H n cs qs ∧ RwL K H B rh hss n ∧ RwL K H C rt tss n
theorem PartsT.same {K : PySem.W.Frag} {H H' : Hp} {P : Addr} {qs : List Rat} {hss tss : List (List Rat)} {n : Nat} (h : PartsT K H P qs hss tss n) (s : Same H H') : PartsT K H' P qs hss tss n :=
  let ⟨A, B, C, cs, rh, rt, e1, e2, e3, e4, e5⟩ := h; ⟨A, B, C, cs, rh, rt, seqT s e1, s _ _ e2, e3.same s, e4.same s, e5.same s⟩
theorem frn_ne {K : PySem.W.Frag} {H : Hp} {n : Nat} {a l : Addr} {z : Int} {cs : List V} {qs : List Rat} (h : FrN K H n cs qs) (ha : H a = some (.lst cs)) (hl : H l = some (.lst [.int z])) : a ≠ l := fun e => by
  rw [e, hl] at ha
  cases ha
  exact Lw.frn_num h
theorem PartsT.but {K : PySem.W.Frag} {H H' : Hp} {P l : Addr} {z : Int} {qs : List Rat} {hss tss : List (List Rat)} {n : Nat} (h : PartsT K H P qs hss tss n) (hl : H l = some (.lst [.int z])) (s : SameB l H H') : PartsT K H' P qs hss tss n :=
  let ⟨A, B, C, cs, rh, rt, e1, e2, e3, e4, e5⟩ := h; ⟨A, B, C, cs, rh, rt, s.tup hl _ _ e1, s _ _ (frn_ne e3 e2 hl) e2, e3.keep (s.tup hl), Rs.RwL.keepB e4 hl s, Rs.RwL.keepB e5 hl s⟩
theorem IsCase.but {K : PySem.W.Frag} {H H' : Hp} {C x l : Addr} {z : Int} {qs : List Rat} {hss tss : List (List Rat)} {n : Nat} (h : IsCase K H C x qs hss tss n) (hl : H l = some (.lst [.int z])) (s : SameB l H H') : IsCase K H' C x qs hss tss n :=
  let ⟨dx, sa, ha, ta, cs, rh, rt, e1, e2, e3, e4, e5⟩ := h; ⟨dx, sa, ha, ta, cs, rh, rt, s _ _ (ne_of e1 hl (by intro w; cases w)) e1, s _ _ (frn_ne e3 e2 hl) e2, e3.keep (s.tup hl), Rs.RwL.keepB e4 hl s, Rs.RwL.keepB e5 hl s⟩
def spParts (K : PySem.W.Frag) : Sp := fun vs H Q _ => ∃ (l : Addr) (z : Int) (ww dd : Nat), vs = [.ref l, .int (ww : Int), .int (dd : Int)] ∧ H l = some (.lst [.int z]) ∧ 1 ≤ ww ∧ ww ≤ 5 ∧ 1 ≤ dd ∧ dd ≤ 6 ∧
  ∀ P qs hss tss z' H', SameB l H H' → H' l = some (.lst [.int z']) → PartsT K H' P qs hss tss 43 → GoodC qs hss tss ww dd → Q (.ref P) H'
theorem New.setRow {K : PySem.W.Frag} {H0 H : Hp} {ex D r : Addr} {rs : List Addr} {rss : List (List Rat)} {n i : Nat} {ys cs : List V} {qs : List Rat} (h : New K H0 H ex D rs rss n) (hr : rs[i]? = some r) (hr0 : H r = some (.lst ys)) (hf : FrN K H n cs qs) : New K H0 (upd H r (.lst cs)) ex D rs (rss.set i qs) n := by
  have hm := List.mem_of_getElem? hr
  have sr : SameB r H (upd H r (.lst cs)) := SameB.upd
  refine ⟨by rw [upd_ne (fun e => h.ne (by rw [e]; exact hm))]; exact h.at_, h.nd, h.ne, h.fresh, h.fD, h.nx, fun b o hb e => ?_, by rw [List.length_set]; exact h.rows.1, fun j x ex => ?_⟩
  · rw [upd_ne (ne_of_none e (h.fresh r hm))]
    exact h.keep b o hb e
  · by_cases hij : i = j
    · subst hij
      rw [hr] at ex
      cases ex
      refine ⟨cs, qs, ?_, upd_same, hf.keep (sr.tup hr0)⟩
      have hi : i < rss.length := by
        rw [← h.rows.1]
        exact (List.getElem?_eq_some_iff.mp hr).1
      rw [List.getElem?_set_self hi]
    · obtain ⟨cs', qs', f1, f2, f3⟩ := h.rows.2 j x ex
      have hne : x ≠ r := fun e => by
        subst e
        obtain ⟨a1, a2⟩ := List.getElem?_eq_some_iff.mp hr
        obtain ⟨b1, b2⟩ := List.getElem?_eq_some_iff.mp ex
        have pw := List.pairwise_iff_getElem.mp h.nd
        rcases Nat.lt_or_gt_of_ne hij with z | z
        · exact pw i j a1 b1 z (a2.trans b2.symm)
        · exact pw j i b1 a1 z (b2.trans a2.symm)
      exact ⟨cs', qs', by rw [List.getElem?_set_ne hij]; exact f1, by rw [upd_ne hne]; exact f2, f3.keep (sr.tup hr0)⟩
theorem tabA {w d : Int} (h0 : 0 ≤ d) (h5 : d < 5) : ∃ v : Int, atI [V.int 1, V.int 1, V.int 1, V.int 1, V.int w] d = some (V.int v) ∧ (v = 1 ∨ v = w) := by
  have : d = 0 ∨ d = 1 ∨ d = 2 ∨ d = 3 ∨ d = 4 := by omega
  rcases this with rfl | rfl | rfl | rfl | rfl
  · exact ⟨1, atI_nat (j := 0) rfl, .inl rfl⟩
  · exact ⟨1, atI_nat (j := 1) rfl, .inl rfl⟩
  · exact ⟨1, atI_nat (j := 2) rfl, .inl rfl⟩
  · exact ⟨1, atI_nat (j := 3) rfl, .inl rfl⟩
  · exact ⟨w, atI_nat (j := 4) rfl, .inr rfl⟩
theorem tabB {w d : Int} (h0 : 0 ≤ d) (h5 : d < 6) : ∃ v : Int, atI [V.int 1, V.int 1, V.int 1, V.int 2, V.int 3, V.int w] d = some (V.int v) ∧ (v = 1 ∨ v = 2 ∨ v = 3 ∨ v = w) := by
  have : d = 0 ∨ d = 1 ∨ d = 2 ∨ d = 3 ∨ d = 4 ∨ d = 5 := by omega
  rcases this with rfl | rfl | rfl | rfl | rfl | rfl
  · exact ⟨1, atI_nat (j := 0) rfl, .inl rfl⟩
  · exact ⟨1, atI_nat (j := 1) rfl, .inl rfl⟩
  · exact ⟨1, atI_nat (j := 2) rfl, .inl rfl⟩
  · exact ⟨2, atI_nat (j := 3) rfl, .inr (.inl rfl)⟩
  · exact ⟨3, atI_nat (j := 4) rfl, .inr (.inr (.inl rfl))⟩
  · exact ⟨w, atI_nat (j := 5) rfl, .inr (.inr (.inr rfl))⟩
/-- the law's own best deeds -/
def spLBest (K : PySem.W.Frag) : Sp := fun vs H Q _ => ∃ (a b : Addr) (rs : List Addr) (rss : List (List Rat)) (cs : List V) (ws : List Rat) (n m dd : Nat), vs = [.ref a, .ref b] ∧ RwL K H a rs rss n ∧ SqL K H b cs ∧ FrN K H m cs ws ∧ ws.length = rss.length ∧ 1 ≤ rss.length ∧ rss.length ≤ 5 ∧ (∀ r ∈ rss, r.length = dd) ∧ 1 ≤ dd ∧ dd ≤ 6 ∧ n ≤ 280 ∧ m ≤ 280 ∧
  ∀ p H', Same H H' → H' p = some (.lst (dsV (bestL rss ws dd))) → H p = none → Q (.ref p) H'
theorem any_map {α : Type} (p : α → Bool) (l : List α) : (l.map p).any id = l.any p := by
  induction l with
  | nil => rfl
  | cons x l ih => rw [List.map_cons, List.any_cons, List.any_cons, ih]; rfl
theorem best_any {hss : List (List Rat)} {ws : List Rat} {dd d : Nat} : (!(worthL hss ws dd).any fun x => decide (wq hss ws d < x)) = decide (∀ e, e < dd → wq hss ws e ≤ wq hss ws d) := by
  by_cases h : ∀ e, e < dd → wq hss ws e ≤ wq hss ws d
  · rw [decide_eq_true h, Bool.not_eq_true']
    rw [List.any_eq_false]
    intro x hx
    obtain ⟨e, he, rfl⟩ := List.mem_map.mp hx
    rw [decide_eq_true_eq]
    exact Rat.not_lt.mpr (h e (List.mem_range.mp he))
  · rw [decide_eq_false h]
    have : ∃ e, e < dd ∧ ¬ wq hss ws e ≤ wq hss ws d := by
      apply Classical.byContradiction
      intro z
      exact h fun e he => Classical.byContradiction fun y => z ⟨e, he, y⟩
    obtain ⟨e, he, hn⟩ := this
    have ha : (worthL hss ws dd).any (fun x => decide (wq hss ws d < x)) = true := List.any_eq_true.mpr ⟨wq hss ws e, List.mem_of_getElem? (worthL_at he), decide_eq_true (Rat.not_le.mp hn)⟩
    rw [ha]
    rfl
def spLBel (K : PySem.W.Frag) : Sp := fun vs H Q _ => ∃ (l P : Addr) (z : Int) (qs : List Rat) (hss tss : List (List Rat)) (n m : Nat), vs = [.ref l, .ref P] ∧ H l = some (.lst [.int z]) ∧ PartsT K H P qs hss tss n ∧ qs.length = m ∧ 1 ≤ m ∧ m ≤ 5 ∧ Shd K H l m Q
def spRight (K : PySem.W.Frag) (C : Addr) : Sp := fun vs H Q _ => ∃ (P x b : Addr) (qs : List Rat) (hss tss : List (List Rat)) (ws : List Rat) (cs : List V) (n m ww dd : Nat), vs = [.ref P, .ref x, .ref b] ∧ PartsT K H P qs hss tss n ∧ IsCase K H C x qs hss tss n ∧ GoodC qs hss tss ww dd ∧ H b = some (.lst cs) ∧ FrN K H m cs ws ∧ RowOk ww ws ∧ n ≤ 280 ∧ m ≤ 280 ∧ ∀ H', Same H H' → Q (.bl true) H'
/-! ### data -/
theorem ds_dp {K : PySem.W.Frag} {H : Hp} : ∀ l : List Nat, DpAll K H (dsV l) (l.map fun (d : Nat) => PyData.int (d : Int))
  | [] => .nil
  | d :: l => .cons (.int _) (ds_dp l)
theorem ds_lay : ∀ l : List Nat, PyData.canLayAll0 (l.map fun (d : Nat) => PyData.int (d : Int)) = true
  | [] => rfl
  | d :: l => ds_lay l
theorem ds_dep : ∀ l : List Nat, PyData.depthAll (l.map fun (d : Nat) => PyData.int (d : Int)) = 0
  | [] => rfl
  | d :: l => by
    show max 0 (PyData.depthAll (l.map fun (d : Nat) => PyData.int (d : Int))) = 0
    rw [ds_dep l]
    rfl
abbrev dDs (l : List Nat) : PyData := .tuple (l.map fun (d : Nat) => PyData.int (d : Int))
theorem dDs_lay (l : List Nat) : (dDs l).canLay0 = true := ds_lay l
theorem dDs_sh (l : List Nat) : SeqAt.shaped (dDs l) = true := by
  unfold SeqAt.shaped
  rw [dDs_lay, Bool.true_and]
  refine decide_eq_true ?_
  show PyData.depthAll (l.map fun (d : Nat) => PyData.int (d : Int)) + 1 ≤ 64
  rw [ds_dep]
  decide
abbrev d2R (a b : Rat) : PyData := .tuple [dR a, dR b]
theorem d2_lay (a b : Rat) : (d2R a b).canLay0 = true := rfl
theorem d2_sh (a b : Rat) : SeqAt.shaped (d2R a b) = true := rfl
theorem d2_dp {K : PySem.W.Frag} {H : Hp} {p p1 p2 : Addr} {a b : Rat} (h : SqT K H p [.ref p1, .ref p2]) (h1 : SqT K H p1 (rp a)) (h2 : SqT K H p2 (rp b)) : Dp K H (.ref p) (d2R a b) := .tup h (.cons (dp_r h1) (.cons (dp_r h2) .nil))
theorem not_bool {K : PySem.W.Frag} {H : Hp} {i : Int} : TyX K H (.int i) (.type "int") := .base (.int _)
theorem cut_int {ns : List Int} {c : Int} {lo hi : Option Int} {i : Nat} {x : V} (h : (cutV (ns.map V.int ++ [V.int c]) lo hi)[i]? = some x) : ∃ c, x = .int c := by
  have := cut_mem (List.mem_of_getElem? h)
  rcases List.mem_append.mp this with h | h
  · obtain ⟨y, _, rfl⟩ := List.mem_map.mp h
    exact ⟨y, rfl⟩
  · exact ⟨c, List.mem_singleton.mp h⟩
end Hr

set_option Elab.async false
set_option linter.all false
set_option maxRecDepth 100000
set_option maxHeartbeats 4000000
namespace Gs
open PySem PySem.Spec PyProof.Rows L2 BX EXB Co Ru
open Dz Cs Hr
open Fr (Bd)
/-- what stands for good (G) among all that stands (H): no list that changes, all tuples -/
structure Frz (K : PySem.W.Frag) (G H : Hp) : Prop where
  s : Same G H
  t : ∀ a xs, SqT K H a xs → SqT K G a xs
/-- G and all that came between H and H' -/
def ext (G H H' : Hp) : Hp := fun a => match H a with | none => H' a | some _ => G a
section
variable {K : PySem.W.Frag} {G H H' H1 H2 : Hp} {a T : Addr} {xs : List V}
theorem ext_new (h : H a = none) : ext G H H' a = H' a := by unfold ext; rw [h]
theorem ext_old {u : HO} (h : H a = some u) : ext G H H' a = G a := by unfold ext; rw [h]
theorem Same.ext (s : Same G H) : Same G (ext G H H') := fun b u e => by rw [ext_old (s _ _ e)]; exact e
theorem ext_same (s : Same G H) (s' : Same G H') : Same (Gs.ext G H H') H' := fun b u e => by
  cases h : H b with
  | none => rw [ext_new h] at e; exact e
  | some w => rw [ext_old h] at e; exact s' _ _ e
/-- what was there and did not stand for good doesn't now -/
theorem ext_off {u : HO} (h : H a = some u) (g : G a = none) : Gs.ext G H H' a = none := by rw [ext_old h]; exact g
/-- the frame grows -/
theorem Frz.grow (f : Frz K G H) (s' : Same G H') (k : ∀ a xs, H a ≠ none → SqT K H' a xs → SqT K H a xs) : Frz K (Gs.ext G H H') H' := ⟨ext_same f.s s', fun a xs z => by
  cases h : H a with
  | none =>
    rcases z with (z | ⟨o, z⟩) | z
    · exact .inl (.inl (by rw [ext_new h]; exact z))
    · exact .inl (.inr ⟨o, by rw [ext_new h]; exact z⟩)
    · exact .inr z
  | some u =>
    have := f.t a xs (k a xs (by rw [h]; exact fun e => by cases e) z)
    rcases this with (z | ⟨o, z⟩) | z
    · exact .inl (.inl (by rw [ext_old h]; exact z))
    · exact .inl (.inr ⟨o, by rw [ext_old h]; exact z⟩)
    · exact .inr z⟩
theorem tup_back (s : Same H H') (n : H a ≠ none) (z : SqT K H' a xs) : SqT K H a xs := by
  cases h : H a with
  | none => exact absurd h n
  | some u =>
    have e := s _ _ h
    rcases z with (z | ⟨o, z⟩) | z
    · exact .inl (.inl (by rw [h, ← e]; exact z))
    · exact .inl (.inr ⟨o, by rw [h, ← e]; exact z⟩)
    · exact .inr z
theorem Frz.more (f : Frz K G H) (s : Same H H') : Frz K (Gs.ext G H H') H' := f.grow (f.s.trans s) fun _ _ n z => tup_back s n z
/-- at T stands a list or a mind now: no tuple -/
theorem Frz.but (f : Frz K G H) (g : G T = none) (s : SameB T H H') (nt : ∀ xs, SqT K H' T xs → SqT K H T xs) : Frz K (Gs.ext G H H') H' := f.grow (fun b u e => s _ _ (ne_of_none e g) (f.s _ _ e)) fun b xs n z => by
  by_cases c : b = T
  · rw [c] at z ⊢; exact nt xs z
  · cases h : H b with
    | none => exact absurd h n
    | some u =>
      have e := s _ _ c h
      rcases z with (z | ⟨o, z⟩) | z
      · exact .inl (.inl (by rw [h, ← e]; exact z))
      · exact .inl (.inr ⟨o, by rw [h, ← e]; exact z⟩)
      · exact .inr z
theorem ext_ext (s : Same H H1) (s2 : Same H1 H2) : Gs.ext (Gs.ext G H H1) H1 H2 = Gs.ext G H H2 := by
  funext a
  cases h1 : H1 a with
  | none => rw [ext_new h1, ext_new (s.free h1)]
  | some u =>
    rw [ext_old h1]
    cases h : H a with
    | none => rw [ext_new h, ext_new h, h1, s2 _ _ h1]
    | some w => rw [ext_old h, ext_old h]
theorem frn_ext {n : Nat} {cs : List V} {qs : List Rat} (f : Frz K (Gs.ext G H H') H') (h : FrN K H' n cs qs) : FrN K (Gs.ext G H H') n cs qs := h.keep f.t
theorem rwl_ext {n : Nat} {l : Addr} {rs : List Addr} {rss : List (List Rat)} (f : Frz K (Gs.ext G H H') H') (h : RwL K H' l rs rss n) (nl : H l = none) (nr : ∀ r ∈ rs, H r = none) : RwL K (Gs.ext G H H') l rs rss n :=
  ⟨by rw [ext_new nl]; exact h.1, h.2.1, fun j r e => let ⟨c, q, a, b, d⟩ := h.2.2 j r e; ⟨c, q, a, by rw [ext_new (nr r (List.mem_of_getElem? e))]; exact b, frn_ext f d⟩⟩
/-- G and all that came between H and H', but lists -/
def extT (G H H' : Hp) : Hp := fun a => match H a with | none => (match H' a with | some (.lst _) => none | o => o) | some _ => G a
theorem extT_old {u : HO} (h : H a = some u) : extT G H H' a = G a := by unfold extT; rw [h]
theorem extT_list (g : G a = none) (h' : H' a = some (.lst xs)) : extT G H H' a = none := by
  unfold extT
  cases h : H a with
  | none => simp only [h']
  | some u => exact g
theorem extT_off {u : HO} (h : H a = some u) (g : G a = none) : extT G H H' a = none := by rw [extT_old h]; exact g
theorem Same.extT (s : Same G H) : Same G (Gs.extT G H H') := fun b u e => by rw [extT_old (s _ _ e)]; exact e
theorem extT_same (s : Same G H) (s' : Same H H') : Same (Gs.extT G H H') H' := fun b u e => by
  cases h : H b with
  | none =>
    unfold Gs.extT at e
    rw [h] at e
    dsimp only at e
    split at e
    · cases e
    · exact e
  | some w => rw [extT_old h] at e; exact s' _ _ (s _ _ e)
theorem Frz.skip (f : Frz K G H) (s : Same H H') : Frz K (Gs.extT G H H') H' := ⟨extT_same f.s s, fun a xs z => by
  cases h : H a with
  | none =>
    have e : ∀ o, H' a = some o → (∀ ys, o ≠ .lst ys) → Gs.extT G H H' a = some o := fun o eo n => by
      unfold Gs.extT
      rw [h]
      dsimp only
      rw [eo]
      split
      · rename_i w; exact absurd (Option.some.inj w) (n _)
      · rfl
    rcases z with (z | ⟨o, z⟩) | z
    · exact .inl (.inl (e _ z (by intro ys w; cases w)))
    · exact .inl (.inr ⟨o, e _ z (by intro ys w; cases w)⟩)
    · exact .inr z
  | some u =>
    have := f.t a xs (tup_back s (by rw [h]; exact fun e => by cases e) z)
    rcases this with (z | ⟨o, z⟩) | z
    · exact .inl (.inl (by rw [extT_old h]; exact z))
    · exact .inl (.inr ⟨o, by rw [extT_old h]; exact z⟩)
    · exact .inr z⟩
/-- all stands for good -/
theorem Frz.all : Frz K H H := ⟨Same.refl _, fun _ _ z => z⟩
/-- all stands for good but the list at T -/
def less (T : Addr) (H : Hp) : Hp := fun a => if a = T then none else H a
theorem less_at : less T H T = none := if_pos rfl
theorem less_ne (n : a ≠ T) : less T H a = H a := if_neg n
theorem less_same : Same (less T H) H := fun b u e => by
  by_cases c : b = T
  · rw [c, less_at] at e; cases e
  · rw [less_ne c] at e; exact e
theorem same_less : SameB T H (less T H) := fun b u n e => by rw [less_ne n]; exact e
theorem Frz.cut {ys : List V} (h : H T = some (.lst ys)) : Frz K (less T H) H := ⟨less_same, fun a xs z => by
  by_cases c : a = T
  · rw [c] at z
    rcases z with (z | ⟨o, z⟩) | z
    · rw [h] at z; cases z
    · rw [h] at z; cases z
    · exact .inr (by rw [c]; exact z)
  · rcases z with (z | ⟨o, z⟩) | z
    · exact .inl (.inl (by rw [less_ne c]; exact z))
    · exact .inl (.inr ⟨o, by rw [less_ne c]; exact z⟩)
    · exact .inr z⟩
/-- a list that stands not for good changes; what stands for good stays -/
theorem Frz.set {ys zs : List V} (f : Frz K G H) (g : G T = none) (h : H T = some (.lst ys)) : Frz K G (upd H T (.lst zs)) := ⟨fun b u e => by rw [upd_ne (ne_of_none e g)]; exact f.s _ _ e, fun a xs z => by
  by_cases c : a = T
  · rw [c] at z
    rcases z with (z | ⟨o, z⟩) | z
    · rw [upd_same] at z; cases z
    · rw [upd_same] at z; cases z
    · exact .inr (by rw [c]; exact z)
  · rcases z with (z | ⟨o, z⟩) | z
    · rw [upd_ne c] at z; exact f.t a xs (.inl (.inl z))
    · rw [upd_ne c] at z; exact f.t a xs (.inl (.inr ⟨o, z⟩))
    · exact .inr z⟩
/-- a new list that stands not for good -/
theorem Frz.newl {zs : List V} (f : Frz K G H) (h : H T = none) : Frz K G (upd H T (.lst zs)) := ⟨f.s.trans (same_new h _), fun a xs z => by
  by_cases c : a = T
  · rw [c] at z
    rcases z with (z | ⟨o, z⟩) | z
    · rw [upd_same] at z; cases z
    · rw [upd_same] at z; cases z
    · exact .inr (by rw [c]; exact z)
  · rcases z with (z | ⟨o, z⟩) | z
    · rw [upd_ne c] at z; exact f.t a xs (.inl (.inl z))
    · rw [upd_ne c] at z; exact f.t a xs (.inl (.inr ⟨o, z⟩))
    · exact .inr z⟩
theorem Frz.off (f : Frz K G H) (h : H a = none) : G a = none := f.s.free h
theorem off_ne (g : G a = none) {b : Addr} {u : HO} (e : G b = some u) : a ≠ b := fun z => by rw [z, e] at g; cases g
end
end Gs

set_option Elab.async false
set_option linter.all false
set_option maxRecDepth 100000
set_option maxHeartbeats 4000000
namespace Hr
open PySem PySem.Spec PyProof.Rows L2 BX EXB Co Ru
open Dz Cs
open Fr (Bd)
/-- the first of l whose key is the greatest -/
def IsDone (key : Nat → Rat) (l : List Nat) (d : Nat) : Prop := ∃ j : Nat, l[j]? = some d ∧ (∀ e ∈ l, key e ≤ key d) ∧ ∀ (i e : Nat), i < j → l[i]? = some e → key e < key d
theorem IsDone.mem {key : Nat → Rat} {l : List Nat} {d : Nat} (h : IsDone key l d) : d ∈ l := let ⟨_, e, _⟩ := h; List.mem_of_getElem? e
theorem IsDone.uniq {key : Nat → Rat} {l : List Nat} {d e : Nat} (h1 : IsDone key l d) (h2 : IsDone key l e) : d = e := by
  obtain ⟨i, a1, a2, a3⟩ := h1
  obtain ⟨j, b1, b2, b3⟩ := h2
  rcases Nat.lt_trichotomy i j with h | h | h
  · exact absurd (b3 i d h a1) (Rat.not_lt.mpr (a2 e (List.mem_of_getElem? b1)))
  · subst h
    rw [a1] at b1
    exact Option.some.inj b1
  · exact absurd (a3 j e h b1) (Rat.not_lt.mpr (b2 d (List.mem_of_getElem? a1)))
theorem IsDone.one (key : Nat → Rat) (d : Nat) : IsDone key [d] d := ⟨0, rfl, fun e he => by rw [List.mem_singleton.mp he]; exact Rat.le_refl, fun i e hi => absurd hi (Nat.not_lt_zero _)⟩
theorem IsDone.more {key : Nat → Rat} {l : List Nat} {d e : Nat} (h : IsDone key l d) (hlt : key d < key e) : IsDone key (l ++ [e]) e := by
  obtain ⟨j, a1, a2, a3⟩ := h
  refine ⟨l.length, by rw [List.getElem?_append_right (Nat.le_refl _), Nat.sub_self]; rfl, fun x hx => ?_, fun i x hi hx => ?_⟩
  · rcases List.mem_append.mp hx with hx | hx
    · exact Rat.le_trans (a2 x hx) (Rat.le_of_lt hlt)
    · rw [List.mem_singleton.mp hx]
      exact Rat.le_refl
  · rw [List.getElem?_append_left hi] at hx
    exact Std.lt_of_le_of_lt (a2 x (List.mem_of_getElem? hx)) hlt
theorem IsDone.stay {key : Nat → Rat} {l : List Nat} {d e : Nat} (h : IsDone key l d) (hn : ¬ key d < key e) : IsDone key (l ++ [e]) d := by
  obtain ⟨j, a1, a2, a3⟩ := h
  have hj : j < l.length := (List.getElem?_eq_some_iff.mp a1).1
  refine ⟨j, by rw [List.getElem?_append_left hj]; exact a1, fun x hx => ?_, fun i x hi hx => ?_⟩
  · rcases List.mem_append.mp hx with hx | hx
    · exact a2 x hx
    · rw [List.mem_singleton.mp hx]
      exact Rat.not_lt.mp hn
  · rw [List.getElem?_append_left (by omega)] at hx
    exact a3 i x hi hx
theorem first_at {α : Type} [DecidableEq α] : ∀ {l : List α} {x : α}, x ∈ l → ∃ j : Nat, l[j]? = some x ∧ ∀ (m : Nat) (y : α), m < j → l[m]? = some y → y ≠ x
  | [], x, h => by cases h
  | y :: l, x, h => by
    by_cases e : y = x
    · exact ⟨0, by rw [e]; rfl, fun m z hm => absurd hm (Nat.not_lt_zero _)⟩
    · have : x ∈ l := by
        rcases List.mem_cons.mp h with h | h
        · exact absurd h.symm e
        · exact h
      obtain ⟨j, a, b⟩ := first_at this
      refine ⟨j + 1, a, fun m z hm hz => ?_⟩
      cases m with
      | zero => cases (Option.some.inj hz); exact e
      | succ m => exact b m z (by omega) hz
def keyT (tss : List (List Rat)) (ws : List Rat) (hard : Bool) (d : Nat) : Rat := if hard = true then 0 - wq tss ws d else wq tss ws d
theorem keyT_f {tss : List (List Rat)} {ws : List Rat} : keyT tss ws false = wq tss ws := rfl
theorem neg_lt' {a b : Rat} : (0 - a < 0 - b) ↔ b < a := by
  constructor
  · intro h
    have := (Rat.add_lt_add_left (c := a + b)).mpr h
    have e1 : a + b + (0 - a) = b := by rw [Rat.sub_eq_add_neg, Rat.zero_add, Rat.add_comm a b, Rat.add_assoc, Rat.add_neg_cancel, Rat.add_zero]
    have e2 : a + b + (0 - b) = a := by rw [Rat.sub_eq_add_neg, Rat.zero_add, Rat.add_assoc, Rat.add_neg_cancel, Rat.add_zero]
    rw [e1, e2] at this
    exact this
  · intro h
    have := (Rat.add_lt_add_left (c := (0 - a) + (0 - b))).mpr h
    have e1 : (0 - a) + (0 - b) + b = 0 - a := by rw [Rat.add_assoc, Rat.sub_eq_add_neg 0 b, Rat.zero_add, Rat.neg_add_cancel, Rat.add_zero]
    have e2 : (0 - a) + (0 - b) + a = 0 - b := by rw [Rat.add_comm (0 - a), Rat.add_assoc, Rat.sub_eq_add_neg 0 a, Rat.zero_add, Rat.neg_add_cancel, Rat.add_zero]
    rw [e1, e2] at this
    exact this
/-- the deed done, by weights -/
def spDoneBy (K : PySem.W.Frag) (C : Addr) : Sp := fun vs H Q _ => ∃ (x b : Addr) (hard : Bool) (qs : List Rat) (hss tss : List (List Rat)) (ws : List Rat) (n m ww dd : Nat), vs = [.ref x, .ref b, .bl hard] ∧ Wts K H C x b qs hss tss ws n m ww dd ∧ ∀ (d : Nat) H', Same H H' → IsDone (keyT tss ws hard) (bestL hss ws dd) d → Q (.int (d : Int)) H'
def spDeedBy (K : PySem.W.Frag) (C : Addr) : Sp := fun vs H Q _ => ∃ (x b : Addr) (hard : Bool) (qs : List Rat) (hss tss : List (List Rat)) (ws : List Rat) (n m ww dd : Nat), vs = [.ref x, .ref b, .bl hard] ∧ Wts K H C x b qs hss tss ws n m ww dd ∧ RowOk ww ws ∧ ∀ (d : Nat) H', Same H H' → IsDone (keyT tss ws hard) (bestL hss ws dd) d → Q (.int (d : Int)) H'
theorem done_lt {key : Nat → Rat} {hss : List (List Rat)} {ws : List Rat} {dd d : Nat} (h : IsDone key (bestL hss ws dd) d) : d < dd := by
  have := h.mem
  unfold bestL at this
  exact List.mem_range.mp (List.mem_filter.mp this).1
theorem best_ne' {hss : List (List Rat)} {ws : List Rat} {dd : Nat} (h : 1 ≤ dd) : bestL hss ws dd ≠ [] := by
  have hne : worthL hss ws dd ≠ [] := fun e => by
    have := congrArg List.length e
    rw [worthL_len] at this
    simp at this
    omega
  have : ∀ l : List Rat, l ≠ [] → ∃ x ∈ l, ∀ y ∈ l, y ≤ x := by
    intro l
    induction l with
    | nil => intro h; exact absurd rfl h
    | cons x l ih =>
      intro _
      by_cases hl : l = []
      · subst hl
        exact ⟨x, List.mem_cons_self .., fun y hy => by rw [List.mem_singleton.mp hy]; exact Rat.le_refl⟩
      · obtain ⟨z, hz, hm⟩ := ih hl
        by_cases hxz : x ≤ z
        · refine ⟨z, List.mem_cons_of_mem _ hz, fun y hy => ?_⟩
          rcases List.mem_cons.mp hy with rfl | hy
          · exact hxz
          · exact hm y hy
        · refine ⟨x, List.mem_cons_self .., fun y hy => ?_⟩
          rcases List.mem_cons.mp hy with rfl | hy
          · exact Rat.le_refl
          · exact Rat.le_trans (hm y hy) (Rat.le_of_lt (Rat.not_le.mp hxz))
  obtain ⟨top, h1, h2⟩ := this _ hne
  exact best_ne h1 h2
/-- the index of the greatest key is the deed done -/
theorem done_of {key : Nat → Rat} {l : List Nat} {j : Nat} {top : Rat} (h1 : (l.map key)[j]? = some top) (h2 : ∀ x ∈ l.map key, x ≤ top) (h3 : ∀ m y, m < j → (l.map key)[m]? = some y → y ≠ top) : ∃ d, l[j]? = some d ∧ IsDone key l d := by
  rw [List.getElem?_map] at h1
  cases e : l[j]? with
  | none => rw [e] at h1; cases h1
  | some d =>
    rw [e] at h1
    have ed : key d = top := Option.some.inj h1
    refine ⟨d, rfl, j, e, fun x hx => ?_, fun i x hi hx => ?_⟩
    · rw [ed]
      exact h2 _ (List.mem_map_of_mem hx)
    · have hm := h2 _ (List.mem_map_of_mem (f := key) (List.mem_of_getElem? hx))
      have hn := h3 i (key x) hi (by rw [List.getElem?_map, hx]; rfl)
      rw [ed]
      exact Rat.not_le.mp fun z => hn (Rat.le_antisymm hm z)
/-- the law's own -/
def spLDone (K : PySem.W.Frag) : Sp := fun vs H Q _ => ∃ (P b : Addr) (hard : Bool) (qs : List Rat) (hss tss : List (List Rat)) (cs : List V) (ws : List Rat) (n m ww dd : Nat), vs = [.ref P, .ref b, .bl hard] ∧ PartsT K H P qs hss tss n ∧ GoodC qs hss tss ww dd ∧ SqL K H b cs ∧ FrN K H m cs ws ∧ ws.length = ww ∧ n ≤ 280 ∧ m ≤ 280 ∧ ∀ (d : Nat) H', Same H H' → IsDone (keyT tss ws hard) (bestL hss ws dd) d → Q (.int (d : Int)) H'
end Hr

set_option Elab.async false
set_option linter.all false
set_option maxRecDepth 100000
set_option maxHeartbeats 4000000
namespace Hr
open PySem PySem.Spec PyProof.Rows L2 BX EXB Co Ru
open Dz Cs
open Fr (Bd)
/-! ### rules -/
structure RuT (K : PySem.W.Frag) (mg : Str → Option Value) (C fI fR fW fL fE : Addr) : Prop where
  cl : Cls K C
  gC : mg "Rule" = some (.ref C)
  nO : NoAttr K C "own_rows"
  mkC : Mk K C fI
  mR : Meth K C "rows" fR
  mW : Meth K C "worlds" fW
  lL : PySem.W.findIn K (.ref C) "__len__" = some (some (.ref fL))
  fnL : PySem.W.isFn K (.ref fL) = true
  g5 : ∃ t, mg "MOST_WORLDS" = some (.int 5 t)
  g30 : ∃ t, mg "MOST_WORDS" = some (.int 30 t)
def spInit (K : PySem.W.Frag) (C : Addr) : Sp := fun vs H Q _ => ∃ (x a dx : Addr) (rs : List Addr) (rss : List (List Rat)) (n m : Nat), vs = [.ref x, .ref a] ∧ H x = some (.ins C dx []) ∧ RwL K H a rs rss n ∧ Good rss m ∧ n ≤ 280 ∧
  ∀ ra rs' H', (∀ b o, b ≠ x → H b = some o → H' b = some o) → H' x = some (.ins C dx [("own_rows", .ref ra)]) → RwL K H' ra rs' rss n → Q .non H'
def spRRows (K : PySem.W.Frag) (C : Addr) : Sp := fun vs H Q _ => ∃ (x : Addr) (rss : List (List Rat)) (n : Nat), vs = [.ref x] ∧ IsRule K H C x rss n ∧ rss.length ≤ 100 ∧ ∀ D rs' H', Fresh K H H' D rs' rss n → Q (.ref D) H'
def spRWorlds (K : PySem.W.Frag) (C : Addr) : Sp := fun vs H Q _ => ∃ (x : Addr) (rss : List (List Rat)) (n : Nat), vs = [.ref x] ∧ IsRule K H C x rss n ∧ Q (.int (rss.length : Int)) H
def spRLen (K : PySem.W.Frag) (C : Addr) : Sp := fun vs H Q _ => ∃ (x : Addr) (rss : List (List Rat)) (n m : Nat), vs = [.ref x] ∧ IsRule K H C x rss n ∧ Good rss m ∧ Q (.int (m : Int)) H
/-- a case and a rule for it -/
structure Ga (K : PySem.W.Frag) (H : Hp) (C CR x y : Addr) (qs : List Rat) (hss tss rss : List (List Rat)) (n m ww dd mm : Nat) : Prop where
  c : IsCase K H C x qs hss tss n
  g : GoodC qs hss tss ww dd
  r : IsRule K H CR y rss m
  go : Good rss mm
  wl : rss.length = ww
  hn : n ≤ 140
  hm : m ≤ 140
theorem Ga.same {K : PySem.W.Frag} {H H' : Hp} {C CR x y : Addr} {qs : List Rat} {hss tss rss : List (List Rat)} {n m ww dd mm : Nat} (h : Ga K H C CR x y qs hss tss rss n m ww dd mm) (s : Same H H') : Ga K H' C CR x y qs hss tss rss n m ww dd mm := ⟨h.c.same s, h.g, h.r.same s, h.go, h.wl, h.hn, h.hm⟩
def spChkA (K : PySem.W.Frag) (C CR : Addr) : Sp := fun vs H Q _ => ∃ (x y : Addr) (qs : List Rat) (hss tss rss : List (List Rat)) (n m ww dd mm : Nat), vs = [.ref x, .ref y] ∧ Ga K H C CR x y qs hss tss rss n m ww dd mm ∧ Q .non H
def spMasses (K : PySem.W.Frag) (C CR : Addr) : Sp := fun vs H Q _ => ∃ (x y : Addr) (i : Nat) (qs : List Rat) (hss tss rss : List (List Rat)) (n m ww dd mm : Nat), vs = [.ref x, .ref y, .int (i : Int)] ∧ Ga K H C CR x y qs hss tss rss n m ww dd mm ∧ i < mm ∧
  ∀ p cs H', Same H H' → H p = none → H' p = some (.lst cs) → FrN K H' (n + m) cs (prods rss qs i) → Q (.ref p) H'
theorem prods_bd {K : PySem.W.Frag} {H : Hp} {C CR x y : Addr} {qs : List Rat} {hss tss rss : List (List Rat)} {n m ww dd mm i : Nat} (h : Ga K H C CR x y qs hss tss rss n m ww dd mm) : (prods rss qs i).length = ww := by rw [prods_len (by rw [h.g.sh.1, h.wl]), h.g.sh.1]
/-! ### the deed done, as a function -/
def dstep (key : Nat → Rat) : Option Nat → Nat → Option Nat
  | none, e => some e
  | some d, e => if key d < key e then some e else some d
def doneF (key : Nat → Rat) (l : List Nat) : Option Nat := l.foldl (dstep key) none
theorem doneF_snoc (key : Nat → Rat) (l : List Nat) (e : Nat) : doneF key (l ++ [e]) = dstep key (doneF key l) e := by
  unfold doneF
  rw [List.foldl_append]
  rfl
theorem doneF_ok {key : Nat → Rat} : ∀ (k : Nat) (l : List Nat), l.length = k → l ≠ [] → ∃ d, doneF key l = some d ∧ IsDone key l d
  | 0, l, h, hne => absurd (List.eq_nil_of_length_eq_zero h) hne
  | k + 1, l, h, hne => by
    obtain ⟨l', e, rfl⟩ : ∃ l' e, l = l' ++ [e] := ⟨l.dropLast, l.getLast hne, (List.dropLast_concat_getLast hne).symm⟩
    rw [List.length_append, List.length_singleton] at h
    by_cases hl : l' = []
    · subst hl
      exact ⟨e, rfl, IsDone.one key e⟩
    · obtain ⟨d, h1, h2⟩ := doneF_ok k l' (by omega) hl
      rw [doneF_snoc, h1]
      by_cases hlt : key d < key e
      · exact ⟨e, if_pos hlt, h2.more hlt⟩
      · exact ⟨d, if_neg hlt, h2.stay hlt⟩
theorem IsDone.F {key : Nat → Rat} {l : List Nat} {d : Nat} (h : IsDone key l d) : doneF key l = some d := by
  have hne : l ≠ [] := fun e => by
    have := h.mem
    rw [e] at this
    cases this
  obtain ⟨e, h1, h2⟩ := doneF_ok (key := key) l.length l rfl hne
  rw [h1, h2.uniq h]
theorem doneF_congr {k1 k2 : Nat → Rat} (h : ∀ a b, k1 a < k1 b ↔ k2 a < k2 b) (l : List Nat) : doneF k1 l = doneF k2 l := by
  have hs : dstep k1 = dstep k2 := by
    funext o e
    cases o with
    | none => rfl
    | some d =>
      show (if k1 d < k1 e then some e else some d) = if k2 d < k2 e then some e else some d
      by_cases c : k1 d < k1 e
      · rw [if_pos c, if_pos ((h d e).mp c)]
      · rw [if_neg c, if_neg (fun z => c ((h d e).mpr z))]
  unfold doneF
  rw [hs]
/-! ### weights times a number -/
theorem prods_scale (rss : List (List Rat)) (c : Rat) (d : Nat) : ∀ ws : List Rat, prods rss (ws.map fun w => w / c) d = (prods rss ws d).map fun o => c⁻¹ * o := by
  unfold prods
  induction rss with
  | nil => intro ws; rw [List.zipWith_nil_right, List.zipWith_nil_right, List.map_nil]
  | cons r rss ih =>
    intro ws
    cases ws with
    | nil => rfl
    | cons w ws =>
      rw [List.map_cons, List.zipWith_cons_cons, List.zipWith_cons_cons, List.map_cons, ih ws]
      congr 1
      rw [Rat.div_def, Rat.mul_comm w, Rat.mul_assoc]
theorem wq_scale (rss : List (List Rat)) (c : Rat) (d : Nat) (ws : List Rat) : wq rss (ws.map fun w => w / c) d = c⁻¹ * wq rss ws d := by
  unfold wq
  rw [prods_scale, sum_map_mul]
theorem scale_lt {c a b : Rat} (hc : 0 < c) : c⁻¹ * a < c⁻¹ * b ↔ a < b := Rat.mul_lt_mul_left (Rat.inv_pos.mpr hc)
theorem scale_le {c a b : Rat} (hc : 0 < c) : c⁻¹ * a ≤ c⁻¹ * b ↔ a ≤ b := by
  rw [← Rat.not_lt, ← Rat.not_lt, scale_lt hc]
theorem best_scale {hss : List (List Rat)} {c : Rat} {ws : List Rat} {dd : Nat} (hc : 0 < c) : bestL hss (ws.map fun w => w / c) dd = bestL hss ws dd := by
  unfold bestL
  congr 1
  funext d
  apply decide_eq_decide.mpr
  constructor
  · intro h e he
    have := h e he
    rw [wq_scale, wq_scale, scale_le hc] at this
    exact this
  · intro h e he
    rw [wq_scale, wq_scale, scale_le hc]
    exact h e he
theorem key_scale {tss : List (List Rat)} {c : Rat} {ws : List Rat} {hard : Bool} (hc : 0 < c) (a b : Nat) : keyT tss (ws.map fun w => w / c) hard a < keyT tss (ws.map fun w => w / c) hard b ↔ keyT tss ws hard a < keyT tss ws hard b := by
  unfold keyT
  cases hard with
  | true =>
    show 0 - _ < 0 - _ ↔ 0 - _ < 0 - _
    rw [neg_lt', neg_lt', wq_scale, wq_scale, scale_lt hc]
  | false =>
    show wq _ _ _ < wq _ _ _ ↔ _
    rw [wq_scale, wq_scale, scale_lt hc]
    exact Iff.rfl
theorem done_scale {hss tss : List (List Rat)} {c : Rat} {ws : List Rat} {dd : Nat} {hard : Bool} (hc : 0 < c) : doneF (keyT tss (ws.map fun w => w / c) hard) (bestL hss (ws.map fun w => w / c) dd) = doneF (keyT tss ws hard) (bestL hss ws dd) := by
  rw [best_scale hc]
  exact doneF_congr (key_scale hc) _
/-- the deed done behind a word -/
def wordD (qs : List Rat) (hss tss rss : List (List Rat)) (dd : Nat) (hard : Bool) (i : Nat) : Option Nat := if wq rss qs i = 0 then none else doneF (keyT tss (prods rss qs i) hard) (bestL hss (prods rss qs i) dd)
def optN : Option Nat → V
  | none => .non
  | some d => .int (d : Int)
def optD : Option Nat → PyData
  | none => .none
  | some d => .int (d : Int)
theorem opt_dp {K : PySem.W.Frag} {H : Hp} : ∀ o : Option Nat, Dp K H (optN o) (optD o)
  | none => .non
  | some _ => .int _
theorem opts_dp {K : PySem.W.Frag} {H : Hp} : ∀ l : List (Option Nat), DpAll K H (l.map optN) (l.map optD)
  | [] => .nil
  | o :: l => .cons (opt_dp o) (opts_dp l)
theorem opts_lay : ∀ l : List (Option Nat), PyData.canLayAll0 (l.map optD) = true
  | [] => rfl
  | none :: l => opts_lay l
  | some _ :: l => opts_lay l
theorem opts_dep : ∀ l : List (Option Nat), PyData.depthAll (l.map optD) = 0
  | [] => rfl
  | o :: l => by
    have h : PyData.depth (optD o) = 0 := by cases o <;> rfl
    show max (PyData.depth (optD o)) (PyData.depthAll (l.map optD)) = 0
    rw [h, opts_dep l]
    rfl
theorem optl_lay (l : List (Option Nat)) : (PyData.list (l.map optD)).canLay0 = true := opts_lay l
theorem optl_sh (l : List (Option Nat)) : SeqAt.shaped (.list (l.map optD)) = true := by
  unfold SeqAt.shaped
  rw [optl_lay, Bool.true_and]
  refine decide_eq_true ?_
  show PyData.depthAll (l.map optD) + 1 ≤ 64
  rw [opts_dep]
  decide
/-- the deeds done, word by word -/
def deedsL (qs : List Rat) (hss tss rss : List (List Rat)) (dd mm : Nat) (hard : Bool) : List (Option Nat) := (List.range mm).map (wordD qs hss tss rss dd hard)
theorem deedsL_at {qs : List Rat} {hss tss rss : List (List Rat)} {dd mm i : Nat} {hard : Bool} (h : i < mm) : (deedsL qs hss tss rss dd mm hard)[i]? = some (wordD qs hss tss rss dd hard i) := by
  unfold deedsL
  rw [List.getElem?_map, List.getElem?_range h]
  rfl
theorem deedsL_len {qs : List Rat} {hss tss rss : List (List Rat)} {dd mm : Nat} {hard : Bool} : (deedsL qs hss tss rss dd mm hard).length = mm := by
  unfold deedsL
  rw [List.length_map, List.length_range]
/-- (weights, deed) of each word -/
def WordsAt (K : PySem.W.Frag) (H : Hp) (cs : List V) (qs : List Rat) (hss tss rss : List (List Rat)) (dd N : Nat) (hard : Bool) (k : Nat) : Prop := cs.length = k ∧ ∀ (i : Nat) (v : V), cs[i]? = some v → ∃ (t wa : Addr) (ws : List V), v = .ref t ∧ SqT K H t [.ref wa, optN (wordD qs hss tss rss dd hard i)] ∧ H wa = some (.lst ws) ∧ FrN K H N ws (prods rss qs i)
theorem WordsAt.same {K : PySem.W.Frag} {H H' : Hp} {cs : List V} {qs : List Rat} {hss tss rss : List (List Rat)} {dd N : Nat} {hard : Bool} {k : Nat} (h : WordsAt K H cs qs hss tss rss dd N hard k) (s : Same H H') : WordsAt K H' cs qs hss tss rss dd N hard k :=
  ⟨h.1, fun i v e => let ⟨t, wa, ws, a, b, c, d⟩ := h.2 i v e; ⟨t, wa, ws, a, seqT s b, s _ _ c, d.same s⟩⟩
def spWordsDone (K : PySem.W.Frag) (C CR : Addr) : Sp := fun vs H Q _ => ∃ (x y : Addr) (hard : Bool) (qs : List Rat) (hss tss rss : List (List Rat)) (n m ww dd mm : Nat), vs = [.ref x, .ref y, .bl hard] ∧ Ga K H C CR x y qs hss tss rss n m ww dd mm ∧
  ∀ p cs H', Same H H' → H' p = some (.lst cs) → WordsAt K H' cs qs hss tss rss dd (n + m) hard mm → Q (.ref p) H'
def spDeedsDone (K : PySem.W.Frag) (C CR : Addr) : Sp := fun vs H Q _ => ∃ (x y : Addr) (hard : Bool) (qs : List Rat) (hss tss rss : List (List Rat)) (n m ww dd mm : Nat), vs = [.ref x, .ref y, .bl hard] ∧ Ga K H C CR x y qs hss tss rss n m ww dd mm ∧
  ∀ p H', Same H H' → H p = none → H' p = some (.lst ((deedsL qs hss tss rss dd mm hard).map optN)) → Q (.ref p) H'
/-- what is gained by a table of gains -/
def gainW (xss : List (List Rat)) (qs : List Rat) (hss tss rss : List (List Rat)) (dd : Nat) (hard : Bool) (i : Nat) : Rat := match wordD qs hss tss rss dd hard i with
  | none => 0
  | some d => wq xss (prods rss qs i) d
def gainT (xss : List (List Rat)) (qs : List Rat) (hss tss rss : List (List Rat)) (dd mm : Nat) (hard : Bool) : Rat := ((List.range mm).map (gainW xss qs hss tss rss dd hard)).sum
def spGainsP (K : PySem.W.Frag) (C CR : Addr) : Sp := fun vs H Q _ => ∃ (x y : Addr) (hard : Bool) (qs : List Rat) (hss tss rss : List (List Rat)) (n m ww dd mm : Nat), vs = [.ref x, .ref y, .bl hard] ∧ Ga K H C CR x y qs hss tss rss n m ww dd mm ∧ ((n + (n + m) + 1) * 5 + 2) * mm + 1 ≤ 8700 ∧
  ∀ p p1 p2 H', Same H H' → SqT K H' p [.ref p1, .ref p2] → SqT K H' p1 (rp (gainT tss qs hss tss rss dd mm hard)) → SqT K H' p2 (rp (gainT hss qs hss tss rss dd mm hard)) → Q (.ref p) H'
end Hr

set_option Elab.async false
set_option linter.all false
set_option maxRecDepth 100000
set_option maxHeartbeats 4000000
namespace Ru
open PySem PySem.Spec PyProof.Rows L2 BX EXB Co
theorem ns_some {K : PySem.W.Frag} {h : Heap} {N : Addr} {mm : Str → Option Value} {n : Str} {v : Value} (X : K.In h) (G : h.Ns N mm) (e : PySem.W.nsIn K N n = some (some v)) : mm n = some v := by
  obtain ⟨o, es, ep, ho, hd, _, hf⟩ := G
  unfold PySem.W.nsIn at e
  split at e
  · rename_i c d es' n' sl q
    have := X _ _ q
    rw [ho] at this
    cases this
    cases hd
    split at e
    · rename_i en he
      cases e
      rw [← hf]
      unfold nsFind findBy
      rw [← Array.find?_toList, he]
      rfl
    · split at e <;> cases e
  · cases e
/-- x != y, both instances of the class at C with its own __eq__ alone -/
def rNeO (C : Addr) (sp : Sp) : R2 := fun x y H Q => ∃ (a b dx dy : Addr) (fs gs : List (Str × V)), x = .ref a ∧ y = .ref b ∧ H a = some (.ins C dx fs) ∧ H b = some (.ins C dy gs) ∧ sp [.ref a, .ref b] H (fun v H' => ∃ c : Bool, v = .bl c ∧ Q (.bl (!c)) H') (fun _ _ _ => False)
/-- what the written part says of such a class -/
structure NeC (K : PySem.W.Frag) (C f : Addr) : Prop where
  cls : ∃ nm q N bs hdct sn sub ab col dd k0 k1 k2 k3 k5 newId, K.lookup C = some (excClassObj nm q C N bs [.type "object"] hdct sn sub ab col dd k0 k1 k2 k3 k5 newId) ∧ PySem.W.nsOkIn K N = true ∧ PySem.W.nsIn K N "__eq__" = some (some (.ref f)) ∧ PySem.W.nsIn K N "__ne__" = some none
  fn : ∃ oF, K.lookup f = some oF ∧ oF.cls = .type "function"
theorem op_neO {X : Cx} {C f : Addr} {fd : FuncData} {k : Nat} {sp : Sp} {ps : List Str} (T : NeC X.K C f) (F : FnOk X.prog X.w X.K X.mg X.base CX0 k f fd ps sp) (hr : Room (k + 1) X.A) (hb : Binds X.K fd ps []) : OpR X (compareOp .NotEq) (rNeO C sp) := by
  intro pins s σ H x y v u Q I rx ry h
  obtain ⟨a, b, dx, dy, fs, gs, rfl, rfl, ha, hb', hq⟩ := h
  cases (show v = Value.ref a from rx)
  cases (show u = Value.ref b from ry)
  obtain ⟨nm, q, N, bs, hdct, sn, sub, ab, col, dd, k0, k1, k2, k3, k5, newId, hC, ok, heq, hne⟩ := T.cls
  obtain ⟨oF, hF, hFc⟩ := T.fn
  obtain ⟨mA, JA, _⟩ := ins_get I.hok ha
  obtain ⟨mB, JB, _⟩ := ins_get I.hok hb'
  obtain ⟨oda, JA, _⟩ := JA.look
  obtain ⟨odb, JB, _⟩ := JB.look
  have hns : s.heap.Ns N (s.heap.nsMap N) := .of_isNs (PySem.W.isNs_of_in I.kIn ok)
  have Y : s.heap.OwnEqNoNe a C f "object" [.type "object"] := ⟨_, _, nm, q, N, bs, hdct, sn, sub, ab, col, dd, k0, k1, k2, k3, k5, newId, _, _, JA.at_, JA.cls, I.kIn _ _ hC, hns, ns_some I.kIn hns heq, I.kIn _ _ hF, hFc, PySem.F.cmp_object.mro, PySem.F.cmp_object.eq.lookup, PySem.W.ns_none_of I.kIn hns hne⟩
  obtain ⟨hp, g, d, t, os⟩ := s
  refine compareOp_ne_ownEq PySem.F.cmp_object Y JB.at_ JB.cls (by have := hr.un; omega) ?_
  have e0 : Env0 X.prog X.w X.K X.mg X.base X.A.in1 X.stack ⟨hp, g, d, t, os⟩ H := by
    have e := I.env0
    exact ⟨e.frames, e.mod, e.bs, e.bsz, e.funs, e.frf, e.hok, e.bare⟩
  have hl := F.len _ _ _ _ hq
  have r2 : Vals [V.ref a, V.ref b] [Value.ref a, Value.ref b] := .cons rfl (.cons rfl .nil)
  refine wpAny_call (codeAny_mono (F.run X.A.in1 X.stack _ H ⟨[.ref a, .ref b], []⟩ [.ref a, .ref b] [.ref a, .ref b] _ (fun _ _ _ => False) hr.in1 e0 (by
    have := hb ⟨hp, g, d, t, os⟩ [.ref a, .ref b] I.kIn (by simpa using hl)
    simpa using this) r2 hq) fun r s' hq' => ?_)
  cases r with
  | error e => exact False.elim hq'
  | ok fl =>
    cases fl with
    | ret u =>
      obtain ⟨z, H', I', rz, c, ez, q'⟩ := I.after hq'
      subst ez
      cases (show u = Value.bool c from rz)
      exact ⟨c, rfl, .bl (!c), H', I', rfl, q'⟩
    | next => exact False.elim hq'
    | brk => exact False.elim hq'
    | cont => exact False.elim hq'
end Ru

set_option Elab.async false
set_option linter.all false
set_option maxRecDepth 100000
set_option maxHeartbeats 4000000
namespace Hr
open PySem PySem.Spec PyProof.Rows L2 BX EXB Co Ru
open Dz Cs
open Fr (Bd)
theorem frn_re {K : PySem.W.Frag} {H : Hp} {n m : Nat} {cs : List V} {qs : List Rat} (h : FrN K H n cs qs) (hb : ∀ q ∈ qs, Bd m q) : FrN K H m cs qs :=
  ⟨h.len, fun i v e => let ⟨a, q, e1, e2, e3, _⟩ := h.at_ i v e; ⟨a, q, e1, e2, e3, hb q (List.mem_of_getElem? e1)⟩⟩
def spPartsB (K : PySem.W.Frag) : Sp := fun vs H Q _ => ∃ (l : Addr) (z : Int) (ww dd : Nat), vs = [.ref l, .int (ww : Int), .int (dd : Int)] ∧ H l = some (.lst [.int z]) ∧ 1 ≤ ww ∧ ww ≤ 5 ∧ 1 ≤ dd ∧ dd ≤ 6 ∧
  ∀ P qs hss tss z' H', SameB l H H' → H' l = some (.lst [.int z']) → PartsT K H' P qs hss tss 43 → GoodC qs hss tss ww dd → (∀ q ∈ qs, Bd 8 q) → Q (.ref P) H'
def spRows (K : PySem.W.Frag) : Sp := fun vs H Q _ => ∃ (l : Addr) (z : Int) (ww m : Nat), vs = [.ref l, .int (ww : Int), .int (m : Int)] ∧ H l = some (.lst [.int z]) ∧ 1 ≤ ww ∧ ww ≤ 5 ∧ 1 ≤ m ∧ m ≤ 30 ∧
  ∀ D rs rss z' H', New K H H' l D rs rss 8 → D ≠ l → H' l = some (.lst [.int z']) → Good rss m → rss.length = ww → Q (.ref D) H'
/-- as spWorth, the weights ahead -/
def spChanceL (K : PySem.W.Frag) : Sp := fun vs H Q _ => ∃ (a b : Addr) (d : Nat) (rs : List Addr) (rss : List (List Rat)) (cs : List V) (ws : List Rat) (n m dd : Nat), vs = [.ref b, .ref a, .int (d : Int)] ∧ RwL K H a rs rss n ∧ SqL K H b cs ∧ FrN K H m cs ws ∧ ws.length = rss.length ∧ rss.length ≤ 5 ∧ (∀ r ∈ rss, r.length = dd) ∧ d < dd ∧ n ≤ 280 ∧ m ≤ 280 ∧
  ∀ p H', Same H H' → SqT K H' p (rp (wq rss ws d)) → Bd ((n + m + 1) * 5 + 1) (wq rss ws d) → Q (.ref p) H'
def belq (rss : List (List Rat)) (qs : List Rat) (i : Nat) : List Rat := (prods rss qs i).map fun w => w / wq rss qs i
def spBehind (K : PySem.W.Frag) : Sp := fun vs H Q _ => ∃ (a b : Addr) (d : Nat) (rs : List Addr) (rss : List (List Rat)) (cs : List V) (ws : List Rat) (n m dd : Nat), vs = [.ref b, .ref a, .int (d : Int)] ∧ RwL K H a rs rss n ∧ SqL K H b cs ∧ FrN K H m cs ws ∧ ws.length = rss.length ∧ rss.length ≤ 5 ∧ (∀ r ∈ rss, r.length = dd) ∧ d < dd ∧ n ≤ 280 ∧ m ≤ 280 ∧ wq rss ws d ≠ 0 ∧
  ∀ p cs' H', Same H H' → H p = none → H' p = some (.lst cs') → FrN K H' (n + m + ((n + m + 1) * 5 + 1)) cs' (belq rss ws d) → Q (.ref p) H'
def spOver (K : PySem.W.Frag) : Sp := fun vs H Q _ => ∃ (a b : Addr) (x y : Rat) (n m : Nat), vs = [.ref a, .ref b] ∧ SqT K H a (rp x) ∧ SqT K H b (rp y) ∧ Bd n x ∧ Bd m y ∧ n + m ≤ 8900 ∧ y ≠ 0 ∧ ∀ p, H p = none → Q (.ref p) (upd H p (.tup (rp (x / y))))
theorem bd_div {a b : Rat} {n m : Nat} (ha : Bd n a) (hb : Bd m b) (h : b ≠ 0) : Bd (n + m) (a / b) := by
  rw [← Fr.div_eq]
  refine Fr.bd_low (Fr.mul_bd ha.1 hb.dn) (Fr.mul_bd ha.dn hb.1) (Int.mul_ne_zero (Fr.den_ne a) fun z => h ?_)
  exact Rat.num_eq_zero.mp z
theorem prods_nn {rss : List (List Rat)} {qs : List Rat} {i : Nat} (h1 : ∀ q ∈ qs, 0 ≤ q) (h2 : ∀ r ∈ rss, ∀ q ∈ r, 0 ≤ q) : ∀ p ∈ prods rss qs i, 0 ≤ p := fun p hp => by
  unfold prods at hp
  obtain ⟨j, hj, e⟩ := List.getElem_of_mem hp
  rw [List.length_zipWith] at hj
  have hw : j < qs.length := by omega
  have hr : j < rss.length := by omega
  have e2 : (List.zipWith (fun w r => w * r.getD i 0) qs rss)[j]? = some (qs[j] * rss[j].getD i 0) := prods_at (List.getElem?_eq_getElem hw) (List.getElem?_eq_getElem hr)
  have eq : p = qs[j] * rss[j].getD i 0 := by
    rw [← e]
    exact (List.getElem?_eq_some_iff.mp e2).2
  rw [eq]
  refine Rat.mul_nonneg (h1 _ (List.getElem_mem hw)) ?_
  by_cases hi : i < rss[j].length
  · rw [List.getD_eq_getElem?_getD, List.getElem?_eq_getElem hi]
    exact h2 _ (List.getElem_mem hr) _ (List.getElem_mem hi)
  · rw [List.getD_eq_getElem?_getD, List.getElem?_eq_none (by omega)]
    exact Rat.le_refl
theorem wq_pos {rss : List (List Rat)} {qs : List Rat} {i : Nat} (h1 : ∀ q ∈ qs, 0 ≤ q) (h2 : ∀ r ∈ rss, ∀ q ∈ r, 0 ≤ q) (h : wq rss qs i ≠ 0) : 0 < wq rss qs i := by
  have : 0 ≤ wq rss qs i := sum_nonneg' (prods_nn h1 h2)
  exact Rat.not_le.mp fun z => h (Rat.le_antisymm z this)
theorem bel_done {qs : List Rat} {hss tss rss : List (List Rat)} {dd i d : Nat} {hard : Bool} (hp : 0 < wq rss qs i) (h : IsDone (keyT tss (belq rss qs i) hard) (bestL hss (belq rss qs i) dd) d) : wordD qs hss tss rss dd hard i = some d := by
  have e := h.F
  unfold belq at e
  rw [done_scale hp] at e
  unfold wordD
  rw [if_neg (fun z => by rw [z] at hp; exact absurd hp (Rat.not_lt.mpr Rat.le_refl))]
  exact e
theorem word_some {qs : List Rat} {hss tss rss : List (List Rat)} {dd i d : Nat} {hard : Bool} (hn : wq rss qs i ≠ 0) (h : IsDone (keyT tss (prods rss qs i) hard) (bestL hss (prods rss qs i) dd) d) : wordD qs hss tss rss dd hard i = some d := by
  unfold wordD
  rw [if_neg hn, h.F]
theorem word_none {qs : List Rat} {hss tss rss : List (List Rat)} {dd i : Nat} {hard : Bool} (hn : wq rss qs i = 0) : wordD qs hss tss rss dd hard i = none := if_pos hn
theorem word_lt {qs : List Rat} {hss tss rss : List (List Rat)} {dd i d : Nat} {hard : Bool} (h : wordD qs hss tss rss dd hard i = some d) (h1 : 1 ≤ dd) : d < dd := by
  unfold wordD at h
  split at h
  · cases h
  · obtain ⟨e, a, b⟩ := doneF_ok (key := keyT tss (prods rss qs i) hard) (bestL hss (prods rss qs i) dd).length (bestL hss (prods rss qs i) dd) rfl (best_ne' h1)
    rw [a] at h
    cases h
    exact done_lt b
/-! ### words with their deeds, none of whose lists is ex -/
def WordsX (K : PySem.W.Frag) (H : Hp) (ex : Addr) (cs : List V) (qs : List Rat) (hss tss rss : List (List Rat)) (dd N : Nat) (hard : Bool) (k : Nat) : Prop := cs.length = k ∧ ∀ (i : Nat) (v : V), cs[i]? = some v → ∃ (t wa : Addr) (ws : List V), v = .ref t ∧ SqT K H t [.ref wa, optN (wordD qs hss tss rss dd hard i)] ∧ H wa = some (.lst ws) ∧ wa ≠ ex ∧ FrN K H N ws (prods rss qs i)
theorem WordsX.same {K : PySem.W.Frag} {H H' : Hp} {ex : Addr} {cs : List V} {qs : List Rat} {hss tss rss : List (List Rat)} {dd N : Nat} {hard : Bool} {k : Nat} (h : WordsX K H ex cs qs hss tss rss dd N hard k) (s : Same H H') : WordsX K H' ex cs qs hss tss rss dd N hard k :=
  ⟨h.1, fun i v e => let ⟨t, wa, ws, a, b, c, ne, d⟩ := h.2 i v e; ⟨t, wa, ws, a, seqT s b, s _ _ c, ne, d.same s⟩⟩
theorem WordsX.push {K : PySem.W.Frag} {H : Hp} {ex t wa : Addr} {cs ws : List V} {qs : List Rat} {hss tss rss : List (List Rat)} {dd N : Nat} {hard : Bool} {k : Nat} (h : WordsX K H ex cs qs hss tss rss dd N hard k) (hex : H ex = some (.lst cs)) (ht : SqT K H t [.ref wa, optN (wordD qs hss tss rss dd hard k)]) (hw : H wa = some (.lst ws)) (ne : wa ≠ ex) (hf : FrN K H N ws (prods rss qs k)) :
    WordsX K (upd H ex (.lst (cs ++ [.ref t]))) ex (cs ++ [.ref t]) qs hss tss rss dd N hard (k + 1) := by
  have kp : ∀ a xs, SqT K H a xs → SqT K (upd H ex (.lst (cs ++ [.ref t]))) a xs := keep_lst hex
  refine ⟨by rw [List.length_append, h.1]; rfl, fun i v e => ?_⟩
  by_cases hi : i < cs.length
  · rw [List.getElem?_append_left hi] at e
    obtain ⟨t', wa', ws', a, b, c, ne', d⟩ := h.2 i v e
    exact ⟨t', wa', ws', a, kp _ _ b, by rw [upd_ne ne']; exact c, ne', d.keep kp⟩
  · rw [List.getElem?_append_right (by omega)] at e
    have e0 : i - cs.length = 0 := by
      cases z : i - cs.length with
      | zero => rfl
      | succ j => rw [z] at e; simp at e
    rw [e0] at e
    have ik : i = k := by have := h.1; omega
    subst ik
    exact ⟨t, wa, ws, (Option.some.inj e).symm, kp _ _ ht, by rw [upd_ne ne]; exact hw, ne, hf.keep kp⟩
def spWords (K : PySem.W.Frag) (C CR : Addr) : Sp := fun vs H Q _ => ∃ (x y : Addr) (hard : Bool) (qs : List Rat) (hss tss rss : List (List Rat)) (n m ww dd mm : Nat), vs = [.ref x, .ref y, .bl hard] ∧ Ga K H C CR x y qs hss tss rss n m ww dd mm ∧
  ∀ p cs H', Same H H' → H p = none → H' p = some (.lst cs) → WordsX K H' p cs qs hss tss rss dd (n + m) hard mm → Q (.ref p) H'
/-! ### the words that are said -/
def saidL (f : Nat → Option Nat) (k : Nat) : List (Nat × Nat) := (List.range k).filterMap fun i => (f i).map fun d => (i, d)
theorem saidL_succ (f : Nat → Option Nat) (k : Nat) : saidL f (k + 1) = saidL f k ++ (match f k with | none => [] | some d => [(k, d)]) := by
  unfold saidL
  rw [List.range_succ, List.filterMap_append]
  congr 1
  cases e : f k with
  | none => simp [e]
  | some d => simp [e]
theorem saidL_len (f : Nat → Option Nat) (k : Nat) : (saidL f k).length ≤ k := by
  unfold saidL
  refine Nat.le_trans (List.length_filterMap_le _ _) ?_
  rw [List.length_range]
  exact Nat.le_refl _
theorem said_sum (g : Nat → Nat → Rat) (f : Nat → Option Nat) : ∀ k : Nat, ((saidL f k).map fun p => g p.1 p.2).sum = ((List.range k).map fun i => match f i with | none => 0 | some d => g i d).sum
  | 0 => rfl
  | k + 1 => by
    rw [saidL_succ, List.map_append, List.sum_append, said_sum g f k, List.range_succ, List.map_append, List.sum_append]
    congr 1
    cases e : f k with
    | none => simp [e, Rat.add_zero]
    | some d => simp [e, Rat.add_zero]
def SaidAt (K : PySem.W.Frag) (H : Hp) (cs : List V) (l : List (Nat × Nat)) (qs : List Rat) (rss : List (List Rat)) (N dd : Nat) : Prop := cs.length = l.length ∧ ∀ (j : Nat) (v : V), cs[j]? = some v → ∃ (i d : Nat) (t wa : Addr) (ws : List V), l[j]? = some (i, d) ∧ d < dd ∧ v = .ref t ∧ SqT K H t [.ref wa, .int (d : Int)] ∧ SqL K H wa ws ∧ FrN K H N ws (prods rss qs i)
theorem SaidAt.same {K : PySem.W.Frag} {H H' : Hp} {cs : List V} {l : List (Nat × Nat)} {qs : List Rat} {rss : List (List Rat)} {N dd : Nat} (h : SaidAt K H cs l qs rss N dd) (s : Same H H') : SaidAt K H' cs l qs rss N dd :=
  ⟨h.1, fun j v e => let ⟨i, d, t, wa, ws, a, b, c, f, g, k⟩ := h.2 j v e; ⟨i, d, t, wa, ws, a, b, c, seqT s f, s.seq g, k.same s⟩⟩
theorem SaidAt.nil {K : PySem.W.Frag} {H : Hp} {qs : List Rat} {rss : List (List Rat)} {N dd : Nat} : SaidAt K H [] [] qs rss N dd := ⟨rfl, fun j v e => by simp at e⟩
theorem SaidAt.snoc {K : PySem.W.Frag} {H : Hp} {cs : List V} {l : List (Nat × Nat)} {qs : List Rat} {rss : List (List Rat)} {N dd i d : Nat} {t wa : Addr} {ws : List V} (h : SaidAt K H cs l qs rss N dd) (hd : d < dd) (ht : SqT K H t [.ref wa, .int (d : Int)]) (hw : SqL K H wa ws) (hf : FrN K H N ws (prods rss qs i)) : SaidAt K H (cs ++ [.ref t]) (l ++ [(i, d)]) qs rss N dd := by
  refine ⟨by rw [List.length_append, List.length_append, h.1]; rfl, fun j v e => ?_⟩
  by_cases hj : j < cs.length
  · rw [List.getElem?_append_left hj] at e
    obtain ⟨i', d', t', wa', ws', a, r⟩ := h.2 j v e
    exact ⟨i', d', t', wa', ws', by rw [List.getElem?_append_left (by rw [← h.1]; exact hj)]; exact a, r⟩
  · rw [List.getElem?_append_right (by omega)] at e
    have e0 : j - cs.length = 0 := by
      cases z : j - cs.length with
      | zero => rfl
      | succ k => rw [z] at e; simp at e
    rw [e0] at e
    refine ⟨i, d, t, wa, ws, ?_, hd, (Option.some.inj e).symm, ht, hw, hf⟩
    rw [List.getElem?_append_right (by rw [← h.1]; omega), ← h.1, e0]
    rfl
/-- the same, the lists as they stand in H0 -/
def SaidX (K : PySem.W.Frag) (H0 H : Hp) (cs : List V) (l : List (Nat × Nat)) (qs : List Rat) (rss : List (List Rat)) (N dd : Nat) : Prop := cs.length = l.length ∧ ∀ (j : Nat) (v : V), cs[j]? = some v → ∃ (i d : Nat) (t wa : Addr) (ws : List V), l[j]? = some (i, d) ∧ d < dd ∧ v = .ref t ∧ SqT K H t [.ref wa, .int (d : Int)] ∧ SqL K H0 wa ws ∧ FrN K H0 N ws (prods rss qs i)
theorem SaidX.keep {K : PySem.W.Frag} {H0 H H' : Hp} {cs : List V} {l : List (Nat × Nat)} {qs : List Rat} {rss : List (List Rat)} {N dd : Nat} (h : SaidX K H0 H cs l qs rss N dd) (k : ∀ a xs, SqT K H a xs → SqT K H' a xs) : SaidX K H0 H' cs l qs rss N dd :=
  ⟨h.1, fun j v e => let ⟨i, d, t, wa, ws, a, b, c, f, g, z⟩ := h.2 j v e; ⟨i, d, t, wa, ws, a, b, c, k _ _ f, g, z⟩⟩
theorem SaidX.nil {K : PySem.W.Frag} {H0 H : Hp} {qs : List Rat} {rss : List (List Rat)} {N dd : Nat} : SaidX K H0 H [] [] qs rss N dd := ⟨rfl, fun j v e => by simp at e⟩
theorem SaidX.snoc {K : PySem.W.Frag} {H0 H : Hp} {cs : List V} {l : List (Nat × Nat)} {qs : List Rat} {rss : List (List Rat)} {N dd i d : Nat} {t wa : Addr} {ws : List V} (h : SaidX K H0 H cs l qs rss N dd) (hd : d < dd) (ht : SqT K H t [.ref wa, .int (d : Int)]) (hw : SqL K H0 wa ws) (hf : FrN K H0 N ws (prods rss qs i)) : SaidX K H0 H (cs ++ [.ref t]) (l ++ [(i, d)]) qs rss N dd := by
  refine ⟨by rw [List.length_append, List.length_append, h.1]; rfl, fun j v e => ?_⟩
  by_cases hj : j < cs.length
  · rw [List.getElem?_append_left hj] at e
    obtain ⟨i', d', t', wa', ws', a, r⟩ := h.2 j v e
    exact ⟨i', d', t', wa', ws', by rw [List.getElem?_append_left (by rw [← h.1]; exact hj)]; exact a, r⟩
  · rw [List.getElem?_append_right (by omega)] at e
    have e0 : j - cs.length = 0 := by
      cases z : j - cs.length with
      | zero => rfl
      | succ k => rw [z] at e; simp at e
    rw [e0] at e
    refine ⟨i, d, t, wa, ws, ?_, hd, (Option.some.inj e).symm, ht, hw, hf⟩
    rw [List.getElem?_append_right (by rw [← h.1]; omega), ← h.1, e0]
    rfl
theorem SaidX.at_ {K : PySem.W.Frag} {H0 H : Hp} {cs : List V} {l : List (Nat × Nat)} {qs : List Rat} {rss : List (List Rat)} {N dd : Nat} (h : SaidX K H0 H cs l qs rss N dd) (s : Same H0 H) : SaidAt K H cs l qs rss N dd :=
  ⟨h.1, fun j v e => let ⟨i, d, t, wa, ws, a, b, c, f, g, z⟩ := h.2 j v e; ⟨i, d, t, wa, ws, a, b, c, f, s.seq g, z.same s⟩⟩
theorem gain_said (xss : List (List Rat)) (qs : List Rat) (hss tss rss : List (List Rat)) (dd mm : Nat) (hard : Bool) : ((saidL (wordD qs hss tss rss dd hard) mm).map fun z => wq xss (prods rss qs z.1) z.2).sum = gainT xss qs hss tss rss dd mm hard := said_sum (fun i d => wq xss (prods rss qs i) d) _ mm
/-- what the law made its case and its rule of -/
structure LG (K : PySem.W.Frag) (H : Hp) (P D : Addr) (qs : List Rat) (hss tss rss : List (List Rat)) (rs : List Addr) (ww dd mm : Nat) : Prop where
  p : PartsT K H P qs hss tss 43
  g : GoodC qs hss tss ww dd
  b8 : ∀ q ∈ qs, Bd 8 q
  r : RwL K H D rs rss 8
  go : Good rss mm
  wl : rss.length = ww
theorem LG.same {K : PySem.W.Frag} {H H' : Hp} {P D : Addr} {qs : List Rat} {hss tss rss : List (List Rat)} {rs : List Addr} {ww dd mm : Nat} (h : LG K H P D qs hss tss rss rs ww dd mm) (s : Same H H') : LG K H' P D qs hss tss rss rs ww dd mm := ⟨h.p.same s, h.g, h.b8, h.r.same s, h.go, h.wl⟩
def spDueL (K : PySem.W.Frag) : Sp := fun vs H Q _ => ∃ (P D : Addr) (hard : Bool) (qs : List Rat) (hss tss rss : List (List Rat)) (rs : List Addr) (ww dd mm : Nat), vs = [.ref P, .ref D, .bl hard] ∧ LG K H P D qs hss tss rss rs ww dd mm ∧
  ∀ p H', Same H H' → H p = none → H' p = some (.lst ((deedsL qs hss tss rss dd mm hard).map optN)) → Q (.ref p) H'
def spGained (K : PySem.W.Frag) : Sp := fun vs H Q _ => ∃ (P D : Addr) (hard : Bool) (qs : List Rat) (hss tss rss : List (List Rat)) (rs : List Addr) (ww dd mm : Nat), vs = [.ref P, .ref D, .bl hard] ∧ LG K H P D qs hss tss rss rs ww dd mm ∧ mm ≤ 9 ∧
  ∀ p p1 p2 H', Same H H' → SqT K H' p [.ref p1, .ref p2] → SqT K H' p1 (rp (gainT tss qs hss tss rss dd mm hard)) → SqT K H' p2 (rp (gainT hss qs hss tss rss dd mm hard)) → Q (.ref p) H'
theorem LG.nn {K : PySem.W.Frag} {H : Hp} {P D : Addr} {qs : List Rat} {hss tss rss : List (List Rat)} {rs : List Addr} {ww dd mm : Nat} (h : LG K H P D qs hss tss rss rs ww dd mm) : ∀ r ∈ rss, ∀ q ∈ r, 0 ≤ q := fun r hr q hq => (h.go.row r hr).2.1 q hq
theorem gainW_bel {xss : List (List Rat)} {qs : List Rat} {hss tss rss : List (List Rat)} {dd i d : Nat} {hard : Bool} (hp : 0 < wq rss qs i) (h : IsDone (keyT tss (belq rss qs i) hard) (bestL hss (belq rss qs i) dd) d) : wq rss qs i * wq xss (belq rss qs i) d = gainW xss qs hss tss rss dd hard i := by
  unfold gainW
  rw [bel_done hp h]
  show _ = wq xss (prods rss qs i) d
  unfold belq
  rw [wq_scale, ← Rat.mul_assoc, Rat.mul_inv_cancel _ (fun z => by rw [z] at hp; exact absurd hp (Rat.not_lt.mpr Rat.le_refl)), Rat.one_mul]
theorem gainW_none {xss : List (List Rat)} {qs : List Rat} {hss tss rss : List (List Rat)} {dd i : Nat} {hard : Bool} (hz : wq rss qs i = 0) : gainW xss qs hss tss rss dd hard i = 0 := by
  unfold gainW
  rw [word_none hz]
def gSum (xss : List (List Rat)) (qs : List Rat) (hss tss rss : List (List Rat)) (dd : Nat) (hard : Bool) (k : Nat) : Rat := ((List.range k).map (gainW xss qs hss tss rss dd hard)).sum
theorem gSum_succ (xss : List (List Rat)) (qs : List Rat) (hss tss rss : List (List Rat)) (dd : Nat) (hard : Bool) (k : Nat) : gSum xss qs hss tss rss dd hard (k + 1) = gSum xss qs hss tss rss dd hard k + gainW xss qs hss tss rss dd hard k := by
  unfold gSum
  rw [List.range_succ, List.map_append, List.sum_append, List.map_singleton, List.sum_singleton]
/-- values, then names, whatever the defaults are -/
def g3 : {α : Type} → List α → List α → List α → List α := fun us _ ws => us ++ ws
theorem g3_rel {vs ds zs : List V} {us its ws : List Value} (a : Vals vs us) (_ : Vals ds its) (b : Vals zs ws) : Vals (g3 vs ds zs) (g3 us its ws) := a.append b
theorem mk_ruleN {K : PySem.W.Frag} {C : Addr} {H : Hp} {a : Addr} {rs : List Addr} {rss : List (List Rat)} {n m : Nat} {Q : Addr → Hp → Prop} (hw : RwL K H a rs rss n) (hg : Good rss m) (hn : n ≤ 280) (q : ∀ x H', Same H H' → H x = none → IsRule K H' C x rss n → Q x H') :
    ∀ x dx, H x = none → H dx = none → dx ≠ x → spInit K C [.ref x, .ref a] (upd (upd H dx (.own x)) x (.ins C dx [])) (fun v H2 => v = .non ∧ Q x H2) E0 := by
  intro x dx hx hdx hne
  have s1 := same_new hdx (.own x)
  have hx1 : (upd H dx (.own x)) x = none := by rw [upd_ne (Ne.symm hne)]; exact hx
  have s2 := s1.trans (same_new hx1 (.ins C dx []))
  exact ⟨x, a, dx, rs, rss, n, m, rfl, upd_same, hw.same s2, hg, hn, fun ra rs' H' kp hx' hw' => ⟨rfl, q x H' (fun b o e => kp b o (ne_of_none e hx) (s2 _ _ e)) hx ⟨dx, ra, rs', hx', hw'⟩⟩⟩
/-! ### alike -/
structure IsT (K : PySem.W.Frag) (C : Addr) : Prop where
  ha : PySem.W.findIn K (.ref C) "__class__" = some (some (.builtin "object.__class__"))
  hn : PySem.W.specialIn K (.builtin "object.__class__") "__get__" = some (some (.builtin "getset_descriptor.__get__"))
  ht : PySem.W.takesIn K (.builtin "object.__class__") = some true
  hm : PySem.W.mroIn K C (.type "object") = some true
  kt : PySem.W.kitOne K (.ref C) (.ref C) = some true
def AlikeC (K : PySem.W.Frag) (C : Addr) (a b : Addr) (H : Hp) : Prop := ∃ (qs : List Rat) (hss tss : List (List Rat)) (n m : Nat), IsCase K H C a qs hss tss n ∧ IsCase K H C b qs hss tss m
def AlikeR (K : PySem.W.Frag) (C : Addr) (a b : Addr) (H : Hp) : Prop := ∃ (rss : List (List Rat)) (n m : Nat), IsRule K H C a rss n ∧ IsRule K H C b rss m
end Hr

set_option Elab.async false
set_option linter.all false
set_option maxRecDepth 100000
set_option maxHeartbeats 4000000
namespace Hr
open PySem PySem.Spec PyProof.Rows L2 BX EXB Co Ru
open Dz Cs
open Fr (Bd)
/-! ### words put together -/
abbrev gv (gs : List Nat) : List V := dsV gs
def spChkGr (K : PySem.W.Frag) : Sp := fun vs H Q _ => ∃ (a : Addr) (gs : List Nat) (many : Nat), vs = [.ref a, .int (gs.length : Int), .int (many : Int)] ∧ H a = some (.lst (gv gs)) ∧ (∀ g ∈ gs, g < many) ∧ ∀ H', Same H H' → Q .non H'
def spGrpRow (K : PySem.W.Frag) : Sp := fun vs H Q _ => ∃ (r gl : Addr) (cs : List V) (qs : List Rat) (gs : List Nat) (n many : Nat), vs = [.ref r, .ref gl, .int (many : Int)] ∧ H r = some (.lst cs) ∧ FrN K H n cs qs ∧ H gl = some (.lst (gv gs)) ∧ gs.length = qs.length ∧ qs.length ≤ 30 ∧ (∀ g ∈ gs, g < many) ∧ many ≤ 30 ∧ n ≤ 8 ∧
  ∀ D cs' H', Same H H' → H D = none → H' D = some (.lst cs') → FrN K H' 280 cs' (grp qs gs (List.replicate many 0)) → Q (.ref D) H'
def spGrouped (K : PySem.W.Frag) (C : Addr) : Sp := fun vs H Q _ => ∃ (x gl : Addr) (rss : List (List Rat)) (gs : List Nat) (n m many : Nat), vs = [.ref x, .ref gl, .int (many : Int)] ∧ IsRule K H C x rss n ∧ Good rss m ∧ H gl = some (.lst (gv gs)) ∧ gs.length = m ∧ (∀ g ∈ gs, g < many) ∧ 1 ≤ many ∧ many ≤ 30 ∧ n ≤ 8 ∧
  ∀ x H', Same H H' → H x = none → IsRule K H' C x (rss.map fun qs => grp qs gs (List.replicate many 0)) 280 → Q (.ref x) H'
theorem grp_snoc : ∀ (qs : List Rat) (gs : List Nat) (s : Rat) (g : Nat) (told : List Rat), qs.length = gs.length → grp (qs ++ [s]) (gs ++ [g]) told = (grp qs gs told).set g ((grp qs gs told).getD g 0 + s)
  | [], [], s, g, told, _ => rfl
  | [], _ :: _, _, _, _, h => by simp at h
  | _ :: _, [], _, _, _, h => by simp at h
  | q :: qs, x :: gs, s, g, told, h => by
    show grp (qs ++ [s]) (gs ++ [g]) _ = _
    rw [grp_snoc qs gs s g _ (by simpa using h)]
    rfl
theorem good_grouped {rss : List (List Rat)} {gs : List Nat} {m many : Nat} (hg : Good rss m) (hl : gs.length = m) (hm : ∀ g ∈ gs, g < many) (h1 : 1 ≤ many) (h30 : many ≤ 30) : Good (rss.map fun qs => grp qs gs (List.replicate many 0)) many := by
  refine ⟨by rw [List.length_map]; exact hg.w1, by rw [List.length_map]; exact hg.w5, h1, h30, fun qs hq => ?_⟩
  obtain ⟨r, hr, rfl⟩ := List.mem_map.mp hq
  exact grp_ok (hg.row r hr) hl hm
theorem rep_flat (k : Nat) (v : V) : (List.replicate k [v]).flatten = List.replicate k v := by
  induction k with
  | zero => rfl
  | succ k ih => rw [List.replicate_succ, List.flatten_cons, ih, List.replicate_succ]; rfl
theorem frn_rep {K : PySem.W.Frag} {H : Hp} {t : Addr} {k : Nat} (ht : SqT K H t (rp 0)) : FrN K H 1 (List.replicate k (V.ref t)) (List.replicate k 0) := by
  refine ⟨by rw [List.length_replicate, List.length_replicate], fun i v e => ?_⟩
  have hi : i < k := by
    have := (List.getElem?_eq_some_iff.mp e).1
    rw [List.length_replicate] at this
    exact this
  rw [List.getElem?_replicate, if_pos hi] at e
  exact ⟨t, 0, by rw [List.getElem?_replicate, if_pos hi], (Option.some.inj e).symm, ht, (⟨by decide, by decide⟩ : Bd 1 (0 : Rat))⟩
/-- the groups that make advice -/
def grpsL (qs : List Rat) (hss tss rss : List (List Rat)) (dd mm : Nat) (hard : Bool) : List Nat := (deedsL qs hss tss rss dd mm hard).map fun o => o.getD 0
def advR (qs : List Rat) (hss tss rss : List (List Rat)) (dd mm : Nat) (hard : Bool) : List (List Rat) := rss.map fun r => grp r (grpsL qs hss tss rss dd mm hard) (List.replicate dd 0)
theorem grpsL_len {qs : List Rat} {hss tss rss : List (List Rat)} {dd mm : Nat} {hard : Bool} : (grpsL qs hss tss rss dd mm hard).length = mm := by
  unfold grpsL
  rw [List.length_map, deedsL_len]
theorem grpsL_at {qs : List Rat} {hss tss rss : List (List Rat)} {dd mm i : Nat} {hard : Bool} (h : i < mm) : (grpsL qs hss tss rss dd mm hard)[i]? = some ((wordD qs hss tss rss dd hard i).getD 0) := by
  unfold grpsL
  rw [List.getElem?_map, deedsL_at h]
  rfl
theorem grpsL_lt {qs : List Rat} {hss tss rss : List (List Rat)} {dd mm : Nat} {hard : Bool} (h1 : 1 ≤ dd) : ∀ g ∈ grpsL qs hss tss rss dd mm hard, g < dd := fun g hg => by
  unfold grpsL at hg
  obtain ⟨o, ho, rfl⟩ := List.mem_map.mp hg
  unfold deedsL at ho
  obtain ⟨i, _, rfl⟩ := List.mem_map.mp ho
  cases e : wordD qs hss tss rss dd hard i with
  | none => exact h1
  | some d => exact word_lt e h1
theorem grp_bd : ∀ (row : List Rat) (gs : List Nat) (told : List Rat) (n : Nat), 1 ≤ n → (∀ q ∈ row, Bd 8 q) → (∀ q ∈ told, Bd n q) → ∀ x ∈ grp row gs told, Bd (n + 9 * row.length) x
  | [], _, told, n, _, _, ht, x, hx => by
    rw [grp] at hx
    · exact (ht x hx).mono (Nat.le_add_right _ _)
    · simp
  | _ :: _, [], told, n, _, _, ht, x, hx => by
    rw [grp] at hx
    · exact (ht x hx).mono (Nat.le_add_right _ _)
    · simp
  | s :: row, g :: gs, told, n, hn, hr, ht, x, hx => by
    rw [grp] at hx
    refine (grp_bd row gs _ (n + 9) (by omega) (fun q hq => hr q (List.mem_cons_of_mem _ hq)) (fun q hq => ?_) x hx).mono (by rw [List.length_cons]; omega)
    rcases List.mem_or_eq_of_mem_set hq with hq | rfl
    · exact (ht q hq).mono (by omega)
    · by_cases h : g < told.length
      · rw [List.getD_eq_getElem?_getD, List.getElem?_eq_getElem h]
        exact (Fr.bd_add (ht _ (List.getElem_mem h)) (hr s (List.mem_cons_self ..))).mono (by omega)
      · rw [List.getD_eq_getElem?_getD, List.getElem?_eq_none (by omega)]
        exact (Fr.bd_add (a := 0) (n := 1) ⟨by decide, by decide⟩ (hr s (List.mem_cons_self ..))).mono (by omega)
/-- the first i words put together -/
def grpI (gs : List Nat) (dd i : Nat) (r : List Rat) : List Rat := grp (r.take i) (gs.take i) (List.replicate dd 0)
theorem grpI_succ {gs : List Nat} {dd i g : Nat} {r : List Rat} {s : Rat} (hl : gs.length = r.length) (hg : gs[i]? = some g) (hs : r[i]? = some s) : grpI gs dd (i + 1) r = (grpI gs dd i r).set g ((grpI gs dd i r).getD g 0 + s) := by
  unfold grpI
  rw [take_succ_at hg, take_succ_at hs]
  exact grp_snoc _ _ _ _ _ (by rw [List.length_take, List.length_take, hl])
theorem grpI_len {gs : List Nat} {dd i : Nat} {r : List Rat} : (grpI gs dd i r).length = dd := by
  unfold grpI
  rw [grp_len, List.length_replicate]
theorem grpI_all {gs : List Nat} {dd i : Nat} {r : List Rat} (h1 : r.length ≤ i) (h2 : gs.length ≤ i) : grpI gs dd i r = grp r gs (List.replicate dd 0) := by
  unfold grpI
  rw [List.take_of_length_le h1, List.take_of_length_le h2]
theorem grpI_bd {gs : List Nat} {dd i : Nat} {r : List Rat} (h : ∀ q ∈ r, Bd 8 q) (hi : i ≤ 9) : ∀ x ∈ grpI gs dd i r, Bd 82 x := fun x hx => by
  unfold grpI at hx
  refine (grp_bd _ _ _ 1 (Nat.le_refl _) (fun q hq => h q (List.mem_of_mem_take hq)) (fun q hq => ?_) x hx).mono ?_
  · rw [List.eq_of_mem_replicate hq]
    exact ⟨by decide, by decide⟩
  · have := List.length_take_le i r
    omega
def midR (gs : List Nat) (dd i j : Nat) (rss : List (List Rat)) : List (List Rat) := (rss.take j).map (grpI gs dd (i + 1)) ++ (rss.drop j).map (grpI gs dd i)
theorem midR_at {gs : List Nat} {dd i j : Nat} {rss : List (List Rat)} {r : List Rat} (h : rss[j]? = some r) : (midR gs dd i j rss)[j]? = some (grpI gs dd i r) := by
  have hj : j < rss.length := (List.getElem?_eq_some_iff.mp h).1
  unfold midR
  rw [List.getElem?_append_right (by rw [List.length_map, List.length_take]; omega), List.length_map, List.length_take, Nat.min_eq_left (by omega), Nat.sub_self, List.getElem?_map, List.getElem?_drop, Nat.add_zero, h]
  rfl
theorem midR_succ {gs : List Nat} {dd i j : Nat} {rss : List (List Rat)} {r : List Rat} (h : rss[j]? = some r) : (midR gs dd i j rss).set j (grpI gs dd (i + 1) r) = midR gs dd i (j + 1) rss := by
  have hj : j < rss.length := (List.getElem?_eq_some_iff.mp h).1
  have er : rss[j] = r := (List.getElem?_eq_some_iff.mp h).2
  unfold midR
  rw [List.set_append_right _ _ (by rw [List.length_map, List.length_take]; omega), List.length_map, List.length_take, Nat.min_eq_left (by omega), Nat.sub_self, List.drop_eq_getElem_cons hj, List.map_cons, List.set_cons_zero, take_succ_at h, List.map_append, List.append_assoc]
  rfl
theorem midR_zero {gs : List Nat} {dd i : Nat} {rss : List (List Rat)} : midR gs dd i 0 rss = rss.map (grpI gs dd i) := by
  unfold midR
  rw [List.take_zero, List.drop_zero]
  rfl
theorem midR_full {gs : List Nat} {dd i : Nat} {rss : List (List Rat)} : midR gs dd i rss.length rss = rss.map (grpI gs dd (i + 1)) := by
  unfold midR
  rw [List.take_length, List.drop_length, List.map_nil, List.append_nil]
def spAdvised (K : PySem.W.Frag) (C CR : Addr) : Sp := fun vs H Q _ => ∃ (x y : Addr) (hard : Bool) (qs : List Rat) (hss tss rss : List (List Rat)) (n m ww dd mm : Nat), vs = [.ref x, .ref y, .bl hard] ∧ Ga K H C CR x y qs hss tss rss n m ww dd mm ∧ m ≤ 8 ∧
  ∀ z H', Same H H' → H z = none → IsRule K H' CR z (advR qs hss tss rss dd mm hard) 280 → Q (.ref z) H'
def spDueG (K : PySem.W.Frag) : Sp := fun vs H Q _ => ∃ (P D : Addr) (hard : Bool) (qs : List Rat) (hss tss rss : List (List Rat)) (rs : List Addr) (ww dd mm : Nat), vs = [.ref P, .ref D, .bl hard] ∧ LG K H P D qs hss tss rss rs ww dd mm ∧ mm ≤ 9 ∧
  ∀ p rs' H', Same H H' → RwL K H' p rs' (advR qs hss tss rss dd mm hard) 280 → Q (.ref p) H'
theorem good_adv {K : PySem.W.Frag} {H : Hp} {P D : Addr} {qs : List Rat} {hss tss rss : List (List Rat)} {rs : List Addr} {ww dd mm : Nat} {hard : Bool} (h : LG K H P D qs hss tss rss rs ww dd mm) : Good (advR qs hss tss rss dd mm hard) dd := good_grouped h.go grpsL_len (grpsL_lt h.g.d1) h.g.d1 (by have := h.g.d6; omega)
end Hr

set_option Elab.async false
set_option linter.all false
set_option maxRecDepth 100000
set_option maxHeartbeats 4000000
namespace Hr
open PySem PySem.Spec PyProof.Rows L2 BX EXB Co Ru
open Dz Cs
open Fr (Bd)
/-! ### where advice falls short -/
theorem num_pos' (q : Rat) : 0 < q.num ↔ 0 < q := by
  constructor
  · intro h
    have h1 : 0 ≤ q := Rat.num_nonneg.mp (by omega)
    exact Rat.not_le.mp fun z => by
      have := Rat.le_antisymm z h1
      rw [this] at h
      exact absurd h (by decide)
  · intro h
    have h1 : 0 ≤ q.num := Rat.num_nonneg.mpr (Rat.le_of_lt h)
    rcases Int.lt_or_eq_of_le h1 with h2 | h2
    · exact h2
    · have := Rat.num_eq_zero.mp h2.symm
      rw [this] at h
      exact absurd h (Rat.not_lt.mpr Rat.le_refl)
def leadP (rss : List (List Rat)) (ws : List Rat) (d e : Nat) : List Rat := List.zipWith (fun w r => w * (r.getD d 0 - r.getD e 0)) ws rss
def leadQ (rss : List (List Rat)) (ws : List Rat) (d e : Nat) : Rat := (leadP rss ws d e).sum
theorem leadP_at {rss : List (List Rat)} {ws : List Rat} {d e i : Nat} {q : Rat} {r : List Rat} (h1 : ws[i]? = some q) (h2 : rss[i]? = some r) : (leadP rss ws d e)[i]? = some (q * (r.getD d 0 - r.getD e 0)) := by
  unfold leadP
  rw [List.getElem?_zipWith, h1, h2]
theorem leadP_len {rss : List (List Rat)} {ws : List Rat} {d e : Nat} (h : ws.length = rss.length) : (leadP rss ws d e).length = ws.length := by
  unfold leadP
  rw [List.length_zipWith]
  omega
theorem lead_wq : ∀ (rss : List (List Rat)) (ws : List Rat) (d e : Nat), leadQ rss ws d e = wq rss ws d - wq rss ws e
  | [], ws, d, e => by
    cases ws <;> (unfold leadQ leadP wq prods; simp; try grind)
  | r :: rss, [], d, e => by unfold leadQ leadP wq prods; simp; try grind
  | r :: rss, w :: ws, d, e => by
    have i := lead_wq rss ws d e
    have a : leadQ (r :: rss) (w :: ws) d e = w * (r.getD d 0 - r.getD e 0) + leadQ rss ws d e := rfl
    have b : ∀ x, wq (r :: rss) (w :: ws) x = w * r.getD x 0 + wq rss ws x := fun x => rfl
    rw [a, b, b, i]
    grind
def spLead (K : PySem.W.Frag) : Sp := fun vs H Q _ => ∃ (a b : Addr) (d e : Nat) (rs : List Addr) (rss : List (List Rat)) (cs : List V) (ws : List Rat) (n m dd : Nat), vs = [.ref a, .ref b, .int (d : Int), .int (e : Int)] ∧ RwL K H a rs rss n ∧ SqL K H b cs ∧ FrN K H m cs ws ∧ ws.length = rss.length ∧ rss.length ≤ 5 ∧ (∀ r ∈ rss, r.length = dd) ∧ d < dd ∧ e < dd ∧ n ≤ 280 ∧ m ≤ 560 ∧
  ∀ p H', Same H H' → SqT K H' p (rp (leadQ rss ws d e)) → Q (.ref p) H'
/-- the deeds that would be better, word by word -/
def faultD (hss : List (List Rat)) (ws : List Rat) (d k : Nat) : List (Nat × Nat × Rat) := (List.range k).filterMap fun e => if 0 < leadQ hss ws e d then some (d, e, leadQ hss ws e d) else none
def faultsL (qs : List Rat) (hss rss : List (List Rat)) (dd k : Nat) : List (Nat × Nat × Rat) := (List.range k).flatMap fun d => faultD hss (prods rss qs d) d dd
theorem faultD_succ {hss : List (List Rat)} {ws : List Rat} {d k : Nat} : faultD hss ws d (k + 1) = faultD hss ws d k ++ (if 0 < leadQ hss ws k d then [(d, k, leadQ hss ws k d)] else []) := by
  unfold faultD
  rw [List.range_succ, List.filterMap_append]
  congr 1
  by_cases h : 0 < leadQ hss ws k d
  · simp [h]
  · simp [h]
theorem faultD_len {hss : List (List Rat)} {ws : List Rat} {d k : Nat} : (faultD hss ws d k).length ≤ k := by
  unfold faultD
  refine Nat.le_trans (List.length_filterMap_le _ _) ?_
  rw [List.length_range]
  exact Nat.le_refl _
theorem faultsL_succ {qs : List Rat} {hss rss : List (List Rat)} {dd k : Nat} : faultsL qs hss rss dd (k + 1) = faultsL qs hss rss dd k ++ faultD hss (prods rss qs k) k dd := by
  unfold faultsL
  rw [List.range_succ, List.flatMap_append]
  congr 1
  simp
theorem faultsL_len {qs : List Rat} {hss rss : List (List Rat)} {dd : Nat} : ∀ k : Nat, (faultsL qs hss rss dd k).length ≤ k * dd
  | 0 => Nat.zero_le _
  | k + 1 => by
    rw [faultsL_succ, List.length_append]
    have := faultsL_len (qs := qs) (hss := hss) (rss := rss) (dd := dd) k
    have := faultD_len (hss := hss) (ws := prods rss qs k) (d := k) (k := dd)
    rw [Nat.succ_mul]
    omega
/-- tuples (deed, other, much) -/
def FauAt (K : PySem.W.Frag) (H : Hp) (cs : List V) (l : List (Nat × Nat × Rat)) : Prop := cs.length = l.length ∧ ∀ (j : Nat) (v : V), cs[j]? = some v → ∃ (d e : Nat) (m : Rat) (t p : Addr), l[j]? = some (d, e, m) ∧ v = .ref t ∧ SqT K H t [.int (d : Int), .int (e : Int), .ref p] ∧ SqT K H p (rp m)
theorem FauAt.keep {K : PySem.W.Frag} {H H' : Hp} {cs : List V} {l : List (Nat × Nat × Rat)} (h : FauAt K H cs l) (k : ∀ a xs, SqT K H a xs → SqT K H' a xs) : FauAt K H' cs l :=
  ⟨h.1, fun j v e => let ⟨d, x, m, t, p, a, b, c, f⟩ := h.2 j v e; ⟨d, x, m, t, p, a, b, k _ _ c, k _ _ f⟩⟩
theorem FauAt.same {K : PySem.W.Frag} {H H' : Hp} {cs : List V} {l : List (Nat × Nat × Rat)} (h : FauAt K H cs l) (s : Same H H') : FauAt K H' cs l := h.keep fun _ _ => seqT s
theorem FauAt.nil {K : PySem.W.Frag} {H : Hp} : FauAt K H [] [] := ⟨rfl, fun j v e => by simp at e⟩
theorem FauAt.snoc {K : PySem.W.Frag} {H : Hp} {cs : List V} {l : List (Nat × Nat × Rat)} {d e : Nat} {m : Rat} {t p : Addr} (h : FauAt K H cs l) (ht : SqT K H t [.int (d : Int), .int (e : Int), .ref p]) (hp : SqT K H p (rp m)) : FauAt K H (cs ++ [.ref t]) (l ++ [(d, e, m)]) := by
  refine ⟨by rw [List.length_append, List.length_append, h.1]; rfl, fun j v ev => ?_⟩
  by_cases hj : j < cs.length
  · rw [List.getElem?_append_left hj] at ev
    obtain ⟨d', e', m', t', p', a, r⟩ := h.2 j v ev
    exact ⟨d', e', m', t', p', by rw [List.getElem?_append_left (by rw [← h.1]; exact hj)]; exact a, r⟩
  · rw [List.getElem?_append_right (by omega)] at ev
    have e0 : j - cs.length = 0 := by
      cases z : j - cs.length with
      | zero => rfl
      | succ k => rw [z] at ev; simp at ev
    rw [e0] at ev
    refine ⟨d, e, m, t, p, ?_, (Option.some.inj ev).symm, ht, hp⟩
    rw [List.getElem?_append_right (by rw [← h.1]; omega), ← h.1, e0]
    rfl
def spFaults (K : PySem.W.Frag) (C CR : Addr) : Sp := fun vs H Q _ => ∃ (x y : Addr) (qs : List Rat) (hss tss rss : List (List Rat)) (n m ww dd : Nat), vs = [.ref x, .ref y] ∧ Ga K H C CR x y qs hss tss rss n m ww dd dd ∧
  ∀ p cs H', Same H H' → H p = none → H' p = some (.lst cs) → FauAt K H' cs (faultsL qs hss rss dd dd) → Q (.ref p) H'
def spFollowed (K : PySem.W.Frag) (C CR : Addr) : Sp := fun vs H Q _ => ∃ (x y : Addr) (qs : List Rat) (hss tss rss : List (List Rat)) (n m ww dd : Nat), vs = [.ref x, .ref y] ∧ Ga K H C CR x y qs hss tss rss n m ww dd dd ∧
  ∀ H', Same H H' → Q (.bl (decide (faultsL qs hss rss dd dd = []))) H'
end Hr

set_option Elab.async false
set_option linter.all false
set_option maxRecDepth 100000
set_option maxHeartbeats 4000000
namespace Hr
open PySem PySem.Spec PyProof.Rows L2 BX EXB Co Ru
open Dz Cs
open Fr (Bd)
/-! ### words put together, weighed -/
/-- the sum over the words of a group -/
def sumG : List Nat → Nat → (Nat → Rat) → Rat
  | [], _, _ => 0
  | g :: gs, d, f => (if g = d then f 0 else 0) + sumG gs d fun i => f (i + 1)
theorem sumG_congr {d : Nat} : ∀ {gs : List Nat} {f g : Nat → Rat}, (∀ i, gs[i]? = some d → f i = g i) → sumG gs d f = sumG gs d g
  | [], _, _, _ => rfl
  | x :: gs, f, g, h => by
    have i := sumG_congr (gs := gs) (f := fun i => f (i + 1)) (g := fun i => g (i + 1)) fun i hi => h (i + 1) hi
    unfold sumG
    rw [i]
    by_cases e : x = d
    · rw [if_pos e, if_pos e, h 0 (by rw [e]; rfl)]
    · rw [if_neg e, if_neg e]
theorem sumG_add {d : Nat} : ∀ (gs : List Nat) (f g : Nat → Rat), sumG gs d (fun i => f i + g i) = sumG gs d f + sumG gs d g
  | [], _, _ => by unfold sumG; grind
  | x :: gs, f, g => by
    have i := sumG_add (d := d) gs (fun i => f (i + 1)) (fun i => g (i + 1))
    unfold sumG
    rw [i]
    by_cases e : x = d
    · rw [if_pos e, if_pos e, if_pos e]; grind
    · rw [if_neg e, if_neg e, if_neg e]; grind
theorem sumG_mul {d : Nat} : ∀ (gs : List Nat) (c : Rat) (f : Nat → Rat), sumG gs d (fun i => c * f i) = c * sumG gs d f
  | [], _, _ => by unfold sumG; grind
  | x :: gs, c, f => by
    have i := sumG_mul (d := d) gs c (fun i => f (i + 1))
    unfold sumG
    rw [i]
    by_cases e : x = d
    · rw [if_pos e, if_pos e]; grind
    · rw [if_neg e, if_neg e]; grind
theorem sumG_zero {d : Nat} : ∀ (gs : List Nat), sumG gs d (fun _ => 0) = 0
  | [] => rfl
  | x :: gs => by
    unfold sumG
    rw [sumG_zero gs]
    by_cases e : x = d
    · rw [if_pos e]; grind
    · rw [if_neg e]; grind
theorem sumG_le {d : Nat} : ∀ {gs : List Nat} {f g : Nat → Rat}, (∀ i, gs[i]? = some d → f i ≤ g i) → sumG gs d f ≤ sumG gs d g
  | [], _, _, _ => Rat.le_refl
  | x :: gs, f, g, h => by
    have i := sumG_le (gs := gs) (f := fun i => f (i + 1)) (g := fun i => g (i + 1)) fun i hi => h (i + 1) hi
    unfold sumG
    by_cases e : x = d
    · have := h 0 (by rw [e]; rfl)
      rw [if_pos e, if_pos e]; grind
    · rw [if_neg e, if_neg e]; grind
theorem sumG_lt {d : Nat} : ∀ {gs : List Nat} {f g : Nat → Rat} {j : Nat}, (∀ i, gs[i]? = some d → f i ≤ g i) → gs[j]? = some d → f j < g j → sumG gs d f < sumG gs d g
  | [], _, _, _, _, hj, _ => by simp at hj
  | x :: gs, f, g, 0, h, hj, hl => by
    have i := sumG_le (gs := gs) (f := fun i => f (i + 1)) (g := fun i => g (i + 1)) fun i hi => h (i + 1) hi
    have e : x = d := Option.some.inj hj
    unfold sumG
    rw [if_pos e, if_pos e]; grind
  | x :: gs, f, g, j + 1, h, hj, hl => by
    have i := sumG_lt (gs := gs) (f := fun i => f (i + 1)) (g := fun i => g (i + 1)) (j := j) (fun i hi => h (i + 1) hi) hj hl
    unfold sumG
    by_cases e : x = d
    · have := h 0 (by rw [e]; rfl)
      rw [if_pos e, if_pos e]; grind
    · rw [if_neg e, if_neg e]; grind
/-- no word of the group: nothing -/
theorem sumG_none {d : Nat} {gs : List Nat} {f : Nat → Rat} (h : ∀ i : Nat, gs[i]? ≠ some d) : sumG gs d f = 0 := by
  rw [← sumG_zero (d := d) gs]
  exact sumG_congr fun i hi => absurd hi (h i)
theorem getD_set {l : List Rat} {g d : Nat} {v : Rat} (hg : g < l.length) : (l.set g v).getD d 0 = if g = d then v else l.getD d 0 := by
  rw [List.getD_eq_getElem?_getD, List.getD_eq_getElem?_getD, List.getElem?_set]
  by_cases e : g = d
  · rw [if_pos e, if_pos e, if_pos (by omega)]
    rfl
  · rw [if_neg e, if_neg e]
theorem grp_getD : ∀ (r : List Rat) (gs : List Nat) (told : List Rat) (d : Nat), r.length = gs.length → (∀ g ∈ gs, g < told.length) → (grp r gs told).getD d 0 = told.getD d 0 + sumG gs d fun i => r.getD i 0
  | [], [], told, d, _, _ => by
    rw [grp]
    · unfold sumG; grind
    · simp
  | [], _ :: _, _, _, h, _ => by simp at h
  | _ :: _, [], _, _, h, _ => by simp at h
  | s :: r, g :: gs, told, d, h, hg => by
    have g0 := hg g (List.mem_cons_self ..)
    rw [grp, grp_getD r gs _ d (by simpa using h) (fun x hx => by rw [List.length_set]; exact hg x (List.mem_cons_of_mem _ hx)), getD_set g0]
    show _ = told.getD d 0 + ((if g = d then s else 0) + sumG gs d fun i => r.getD i 0)
    by_cases e : g = d
    · rw [if_pos e, if_pos e, e]; grind
    · rw [if_neg e, if_neg e]; grind
theorem rep_getD (dd d : Nat) : (List.replicate dd (0 : Rat)).getD d 0 = 0 := by
  rw [List.getD_eq_getElem?_getD, List.getElem?_replicate]
  by_cases h : d < dd
  · rw [if_pos h]; rfl
  · rw [if_neg h]; rfl
section
variable {gs : List Nat} {dd : Nat}
/-- the weight of a word of the advice, by any table -/
theorem wq_grp {d : Nat} : ∀ (rss : List (List Rat)) (qs : List Rat), (∀ r ∈ rss, r.length = gs.length) → (∀ g ∈ gs, g < dd) → wq (rss.map fun r => grp r gs (List.replicate dd 0)) qs d = sumG gs d fun i => wq rss qs i
  | [], qs, _, _ => by
    have e : ∀ i, wq [] qs i = 0 := fun i => by unfold wq prods; cases qs <;> rfl
    show wq [] qs d = _
    rw [e, ← sumG_zero (d := d) gs]
    exact sumG_congr fun i _ => (e i).symm
  | r :: rss, [], _, _ => by
    have e : ∀ (l : List (List Rat)) i, wq l [] i = 0 := fun l i => rfl
    rw [e, ← sumG_zero (d := d) gs]
    exact sumG_congr fun i _ => (e _ i).symm
  | r :: rss, q :: qs, hr, hg => by
    have i := wq_grp (d := d) rss qs (fun x hx => hr x (List.mem_cons_of_mem _ hx)) hg
    have a : ∀ x, wq (r :: rss) (q :: qs) x = q * r.getD x 0 + wq rss qs x := fun x => rfl
    show q * (grp r gs (List.replicate dd 0)).getD d 0 + wq (rss.map fun r => grp r gs (List.replicate dd 0)) qs d = _
    rw [i, grp_getD r gs _ d (hr r (List.mem_cons_self ..)) (fun g h => by rw [List.length_replicate]; exact hg g h), rep_getD, Rat.zero_add, ← sumG_mul, ← sumG_add]
    exact sumG_congr fun i _ => (a i).symm
theorem wq_adv {d e : Nat} : ∀ (rss xss : List (List Rat)) (qs : List Rat), (∀ r ∈ rss, r.length = gs.length) → (∀ g ∈ gs, g < dd) → wq xss (prods (rss.map fun r => grp r gs (List.replicate dd 0)) qs d) e = sumG gs d fun i => wq xss (prods rss qs i) e
  | [], xss, qs, _, _ => by
    have z : ∀ i, wq xss (prods [] qs i) e = 0 := fun i => by unfold wq prods; cases qs <;> cases xss <;> rfl
    show wq xss (prods [] qs d) e = _
    rw [z, ← sumG_zero (d := d) gs]
    exact sumG_congr fun i _ => (z i).symm
  | r :: rss, xss, [], _, _ => by
    have z : ∀ (l : List (List Rat)) i, wq xss (prods l [] i) e = 0 := fun l i => by unfold wq prods; cases xss <;> rfl
    rw [z, ← sumG_zero (d := d) gs]
    exact sumG_congr fun i _ => (z _ i).symm
  | r :: rss, [], q :: qs, _, _ => by
    have z : ∀ (l : List Rat), wq [] l e = 0 := fun l => by unfold wq prods; cases l <;> rfl
    rw [z, ← sumG_zero (d := d) gs]
    exact sumG_congr fun i _ => (z _).symm
  | r :: rss, x :: xss, q :: qs, hr, hg => by
    have i := wq_adv (d := d) (e := e) rss xss qs (fun x hx => hr x (List.mem_cons_of_mem _ hx)) hg
    have a : ∀ j, wq (x :: xss) (prods (r :: rss) (q :: qs) j) e = (q * x.getD e 0) * r.getD j 0 + wq xss (prods rss qs j) e := fun j => by
      show q * r.getD j 0 * x.getD e 0 + wq xss (prods rss qs j) e = _
      grind
    show q * (grp r gs (List.replicate dd 0)).getD d 0 * x.getD e 0 + wq xss (prods (rss.map fun r => grp r gs (List.replicate dd 0)) qs d) e = _
    rw [i, grp_getD r gs _ d (hr r (List.mem_cons_self ..)) (fun g h => by rw [List.length_replicate]; exact hg g h), rep_getD, Rat.zero_add]
    rw [show q * (sumG gs d fun i => r.getD i 0) * x.getD e 0 = (q * x.getD e 0) * (sumG gs d fun i => r.getD i 0) by grind, ← sumG_mul, ← sumG_add]
    exact sumG_congr fun i _ => (a i).symm
end
/-! ### who is done, by values -/
theorem best_sorted (hss : List (List Rat)) (ws : List Rat) (dd : Nat) : (bestL hss ws dd).Pairwise (· < ·) := List.Pairwise.filter _ List.pairwise_lt_range
theorem done_iff {key : Nat → Rat} {l : List Nat} {d : Nat} (hs : l.Pairwise (· < ·)) : IsDone key l d ↔ d ∈ l ∧ (∀ e ∈ l, key e ≤ key d) ∧ ∀ e ∈ l, e < d → key e < key d := by
  have ord : ∀ (i j : Nat) (a b : Nat), l[i]? = some a → l[j]? = some b → i < j → a < b := fun i j a b ha hb hij => by
    obtain ⟨h1, e1⟩ := List.getElem?_eq_some_iff.mp ha
    obtain ⟨h2, e2⟩ := List.getElem?_eq_some_iff.mp hb
    have := List.pairwise_iff_getElem.mp hs i j h1 h2 hij
    omega
  constructor
  · rintro ⟨j, h1, h2, h3⟩
    refine ⟨List.mem_of_getElem? h1, h2, fun e he hlt => ?_⟩
    obtain ⟨i, hi, ei⟩ := List.getElem_of_mem he
    have hi' : l[i]? = some e := by rw [List.getElem?_eq_getElem hi, ei]
    refine h3 i e ?_ hi'
    rcases Nat.lt_trichotomy i j with h | h | h
    · exact h
    · subst h
      rw [h1] at hi'
      cases hi'
      omega
    · have := ord j i d e h1 hi' h
      omega
  · rintro ⟨h1, h2, h3⟩
    obtain ⟨j, hj, ej⟩ := List.getElem_of_mem h1
    have hj' : l[j]? = some d := by rw [List.getElem?_eq_getElem hj, ej]
    exact ⟨j, hj', h2, fun i e hi he => h3 e (List.mem_of_getElem? he) (ord i j e d he hj' hi)⟩
theorem mem_best {hss : List (List Rat)} {ws : List Rat} {dd d : Nat} : d ∈ bestL hss ws dd ↔ d < dd ∧ ∀ e, e < dd → wq hss ws e ≤ wq hss ws d := by
  unfold bestL
  rw [List.mem_filter, List.mem_range, decide_eq_true_eq]
/-! ### a word that is never said weighs nothing -/
theorem sum_zero_all : ∀ {l : List Rat}, (∀ x ∈ l, 0 ≤ x) → l.sum = 0 → ∀ x ∈ l, x = 0
  | [], _, _, x, hx => by simp at hx
  | a :: l, h, hs, x, hx => by
    have h0 := h a (List.mem_cons_self ..)
    have h1 : 0 ≤ l.sum := sum_nonneg' fun y hy => h y (List.mem_cons_of_mem _ hy)
    rw [List.sum_cons] at hs
    have ha : a = 0 := by grind
    have hl : l.sum = 0 := by grind
    rcases List.mem_cons.mp hx with rfl | hx
    · exact ha
    · exact sum_zero_all (fun y hy => h y (List.mem_cons_of_mem _ hy)) hl x hx
theorem wq_zeros {e : Nat} : ∀ {xss : List (List Rat)} {ws : List Rat}, (∀ x ∈ ws, x = 0) → wq xss ws e = 0
  | [], ws, _ => by unfold wq prods; cases ws <;> rfl
  | x :: xss, [], _ => rfl
  | x :: xss, w :: ws, h => by
    have i := wq_zeros (e := e) (xss := xss) (ws := ws) fun y hy => h y (List.mem_cons_of_mem _ hy)
    show w * x.getD e 0 + wq xss ws e = 0
    rw [i, h w (List.mem_cons_self ..)]
    grind
theorem unsaid {qs : List Rat} {rss xss : List (List Rat)} {i e : Nat} (h1 : ∀ q ∈ qs, 0 ≤ q) (h2 : ∀ r ∈ rss, ∀ q ∈ r, 0 ≤ q) (h : wq rss qs i = 0) : wq xss (prods rss qs i) e = 0 :=
  wq_zeros (sum_zero_all (prods_nn h1 h2) h)
/-! ### the advice made of words is followed -/
section
variable {qs : List Rat} {hss tss rss : List (List Rat)} {dd mm : Nat} {hard : Bool}
theorem adv_len (hr : ∀ r ∈ rss, r.length = mm) : ∀ r ∈ rss, r.length = (grpsL qs hss tss rss dd mm hard).length := fun r h => by rw [grpsL_len]; exact hr r h
/-- of a word of the group: it is never said, or d is done behind it -/
theorem grp_word {i d : Nat} (h : (grpsL qs hss tss rss dd mm hard)[i]? = some d) (d1 : 1 ≤ dd) : wq rss qs i = 0 ∨ (wq rss qs i ≠ 0 ∧ IsDone (keyT tss (prods rss qs i) hard) (bestL hss (prods rss qs i) dd) d) := by
  have him : i < mm := by
    have := (List.getElem?_eq_some_iff.mp h).1
    rw [grpsL_len] at this
    exact this
  rw [grpsL_at him] at h
  by_cases z : wq rss qs i = 0
  · exact .inl z
  · refine .inr ⟨z, ?_⟩
    obtain ⟨e, a, b⟩ := doneF_ok (key := keyT tss (prods rss qs i) hard) (bestL hss (prods rss qs i) dd).length (bestL hss (prods rss qs i) dd) rfl (best_ne' d1)
    unfold wordD at h
    rw [if_neg z, a] at h
    cases h
    exact b
theorem keyT_adv {d e : Nat} {gs : List Nat} (hr : ∀ r ∈ rss, r.length = gs.length) (hg : ∀ g ∈ gs, g < dd) : keyT tss (prods (rss.map fun r => grp r gs (List.replicate dd 0)) qs d) hard e = sumG gs d fun i => keyT tss (prods rss qs i) hard e := by
  have a := wq_adv (d := d) (e := e) rss tss qs hr hg
  cases hard with
  | false => exact a
  | true =>
    show 0 - _ = _
    rw [a, show (0 : Rat) - (sumG gs d fun i => wq tss (prods rss qs i) e) = (-1) * (sumG gs d fun i => wq tss (prods rss qs i) e) by grind, ← sumG_mul]
    refine sumG_congr fun i _ => ?_
    show _ = 0 - wq tss (prods rss qs i) e
    grind
/-- the deed that is advised is best, whether the word is said or not -/
theorem adv_best {d e : Nat} (h1 : ∀ q ∈ qs, 0 ≤ q) (h2 : ∀ r ∈ rss, ∀ q ∈ r, 0 ≤ q) (hr : ∀ r ∈ rss, r.length = mm) (d1 : 1 ≤ dd) (he : e < dd) : wq hss (prods (advR qs hss tss rss dd mm hard) qs d) e ≤ wq hss (prods (advR qs hss tss rss dd mm hard) qs d) d := by
  unfold advR
  rw [wq_adv rss hss qs (adv_len hr) (grpsL_lt d1), wq_adv rss hss qs (adv_len hr) (grpsL_lt d1)]
  refine sumG_le fun i hi => ?_
  rcases grp_word hi d1 with z | ⟨_, hd⟩
  · rw [unsaid h1 h2 z, unsaid h1 h2 z]
    exact Rat.le_refl
  · exact (mem_best.mp hd.mem).2 e he
theorem adv_followed (h1 : ∀ q ∈ qs, 0 ≤ q) (h2 : ∀ r ∈ rss, ∀ q ∈ r, 0 ≤ q) (hr : ∀ r ∈ rss, r.length = mm) (d1 : 1 ≤ dd) : faultsL qs hss (advR qs hss tss rss dd mm hard) dd dd = [] := by
  unfold faultsL
  rw [List.flatMap_eq_nil_iff]
  intro d _
  unfold faultD
  rw [List.filterMap_eq_nil_iff]
  intro e he
  refine if_neg fun z => ?_
  rw [lead_wq] at z
  have := adv_best (qs := qs) (hss := hss) (tss := tss) (rss := rss) (hard := hard) (d := d) h1 h2 hr d1 (List.mem_range.mp he)
  grind
/-- behind each word of the advice that is said, its own deed is done -/
theorem adv_done {d : Nat} (h1 : ∀ q ∈ qs, 0 ≤ q) (h2 : ∀ r ∈ rss, ∀ q ∈ r, 0 ≤ q) (hr : ∀ r ∈ rss, r.length = mm) (d1 : 1 ≤ dd) (hd : d < dd) (hn : wq (advR qs hss tss rss dd mm hard) qs d ≠ 0) : wordD qs hss tss (advR qs hss tss rss dd mm hard) dd hard d = some d := by
  refine word_some hn ((done_iff (best_sorted _ _ _)).mpr ⟨mem_best.mpr ⟨hd, fun e he => adv_best h1 h2 hr d1 he⟩, fun e he => ?_, fun e he hlt => ?_⟩)
  all_goals
    have eb := mem_best.mp he
    have same : ∀ i : Nat, (grpsL qs hss tss rss dd mm hard)[i]? = some d → wq hss (prods rss qs i) d ≤ wq hss (prods rss qs i) e := fun i hi => Rat.not_lt.mp fun z => by
      have lt : wq hss (prods (advR qs hss tss rss dd mm hard) qs d) e < wq hss (prods (advR qs hss tss rss dd mm hard) qs d) d := by
        unfold advR
        rw [wq_adv rss hss qs (adv_len hr) (grpsL_lt d1), wq_adv rss hss qs (adv_len hr) (grpsL_lt d1)]
        refine sumG_lt (j := i) (fun j hj => ?_) hi z
        rcases grp_word hj d1 with y | ⟨_, hy⟩
        · rw [unsaid h1 h2 y, unsaid h1 h2 y]
          exact Rat.le_refl
        · exact (mem_best.mp hy.mem).2 e eb.1
      exact absurd lt (Rat.not_lt.mpr (eb.2 d hd))
    have alike : ∀ i : Nat, IsDone (keyT tss (prods rss qs i) hard) (bestL hss (prods rss qs i) dd) d → (grpsL qs hss tss rss dd mm hard)[i]? = some d → e ∈ bestL hss (prods rss qs i) dd := fun i hi hg => mem_best.mpr ⟨eb.1, fun x hx => Rat.le_trans ((mem_best.mp hi.mem).2 x hx) (same i hg)⟩
    have le : ∀ i : Nat, (grpsL qs hss tss rss dd mm hard)[i]? = some d → keyT tss (prods rss qs i) hard e ≤ keyT tss (prods rss qs i) hard d := fun i hi => by
      rcases grp_word hi d1 with y | ⟨_, hy⟩
      · have z : ∀ x, keyT tss (prods rss qs i) hard x = 0 := fun x => by
          unfold keyT
          rw [unsaid h1 h2 y]
          cases hard with
          | false => rfl
          | true => rw [if_pos rfl]; grind
        rw [z, z]
        exact Rat.le_refl
      · exact ((done_iff (best_sorted _ _ _)).mp hy).2.1 e (alike i hy hi)
    unfold advR
    rw [keyT_adv (adv_len hr) (grpsL_lt d1), keyT_adv (adv_len hr) (grpsL_lt d1)]
  · exact sumG_le le
  · obtain ⟨i, hi, hs⟩ : ∃ i : Nat, (grpsL qs hss tss rss dd mm hard)[i]? = some d ∧ wq rss qs i ≠ 0 := by
      refine Classical.byContradiction fun z => hn ?_
      unfold advR
      rw [wq_grp rss qs (adv_len hr) (grpsL_lt d1), ← sumG_zero (d := d) (grpsL qs hss tss rss dd mm hard)]
      refine sumG_congr fun i hi => Classical.byContradiction fun y => z ⟨i, hi, y⟩
    rcases grp_word hi d1 with y | ⟨_, hy⟩
    · exact absurd y hs
    · exact sumG_lt le hi (((done_iff (best_sorted _ _ _)).mp hy).2.2 e (alike i hy hi) hlt)
end
/-! ### gains by the advice -/
def sumI : List Nat → (Nat → Nat → Rat) → Rat
  | [], _ => 0
  | g :: gs, f => f 0 g + sumI gs fun i => f (i + 1)
theorem sum_pick (g : Nat) (f : Nat → Rat) : ∀ k : Nat, ((List.range k).map fun d => if g = d then f d else 0).sum = if g < k then f g else 0
  | 0 => rfl
  | k + 1 => by
    rw [List.range_succ, List.map_append, List.sum_append, sum_pick g f k, List.map_singleton, List.sum_singleton]
    by_cases e : g = k
    · subst e
      rw [if_neg (Nat.lt_irrefl _), if_pos rfl, if_pos (Nat.lt_succ_self _)]; grind
    · by_cases h : g < k
      · rw [if_pos h, if_neg e, if_pos (by omega)]; grind
      · rw [if_neg h, if_neg e, if_neg (by omega)]; grind
theorem sum_map_add (f g : Nat → Rat) : ∀ l : List Nat, (l.map fun d => f d + g d).sum = (l.map f).sum + (l.map g).sum
  | [] => by show (0 : Rat) = 0 + 0; grind
  | x :: l => by
    rw [List.map_cons, List.map_cons, List.map_cons, List.sum_cons, List.sum_cons, List.sum_cons, sum_map_add f g l]
    grind
theorem sum_map_zero : ∀ l : List Nat, (l.map fun _ => (0 : Rat)).sum = 0
  | [] => rfl
  | x :: l => by
    rw [List.map_cons, List.sum_cons, sum_map_zero l]
    grind
theorem sumG_total {dd : Nat} : ∀ (gs : List Nat) (f : Nat → Nat → Rat), (∀ g ∈ gs, g < dd) → ((List.range dd).map fun d => sumG gs d fun i => f i d).sum = sumI gs f
  | [], f, _ => sum_map_zero _
  | g :: gs, f, h => by
    have i := sumG_total gs (fun i => f (i + 1)) fun x hx => h x (List.mem_cons_of_mem _ hx)
    show ((List.range dd).map fun d => (if g = d then f 0 d else 0) + sumG gs d fun i => f (i + 1) d).sum = f 0 g + sumI gs fun i => f (i + 1)
    rw [sum_map_add, i, sum_pick g (f 0) dd, if_pos (h g (List.mem_cons_self ..))]
theorem sumI_range : ∀ (gs : List Nat) (f : Nat → Nat → Rat), sumI gs f = ((List.range gs.length).map fun i => f i (gs.getD i 0)).sum
  | [], f => rfl
  | g :: gs, f => by
    rw [List.length_cons, List.range_succ_eq_map, List.map_cons, List.sum_cons, List.map_map]
    show f 0 g + sumI gs (fun i => f (i + 1)) = _
    rw [sumI_range gs]
    rfl
section
variable {qs : List Rat} {hss tss rss xss : List (List Rat)} {dd mm : Nat} {hard : Bool}
theorem gain_word {i : Nat} (h1 : ∀ q ∈ qs, 0 ≤ q) (h2 : ∀ r ∈ rss, ∀ q ∈ r, 0 ≤ q) (d1 : 1 ≤ dd) (him : i < mm) : gainW xss qs hss tss rss dd hard i = wq xss (prods rss qs i) ((grpsL qs hss tss rss dd mm hard).getD i 0) := by
  rw [List.getD_eq_getElem?_getD, grpsL_at him]
  by_cases z : wq rss qs i = 0
  · rw [gainW_none z, unsaid h1 h2 z]
  · unfold gainW
    cases e : wordD qs hss tss rss dd hard i with
    | none =>
      exfalso
      unfold wordD at e
      rw [if_neg z] at e
      obtain ⟨d, a, _⟩ := doneF_ok (key := keyT tss (prods rss qs i) hard) (bestL hss (prods rss qs i) dd).length (bestL hss (prods rss qs i) dd) rfl (best_ne' d1)
      rw [a] at e
      cases e
    | some d => rfl
theorem gain_adv {d : Nat} (h1 : ∀ q ∈ qs, 0 ≤ q) (h2 : ∀ r ∈ rss, ∀ q ∈ r, 0 ≤ q) (h3 : ∀ r ∈ advR qs hss tss rss dd mm hard, ∀ q ∈ r, 0 ≤ q) (hr : ∀ r ∈ rss, r.length = mm) (d1 : 1 ≤ dd) (hd : d < dd) : gainW xss qs hss tss (advR qs hss tss rss dd mm hard) dd hard d = wq xss (prods (advR qs hss tss rss dd mm hard) qs d) d := by
  by_cases z : wq (advR qs hss tss rss dd mm hard) qs d = 0
  · rw [gainW_none z, unsaid h1 h3 z]
  · unfold gainW
    rw [adv_done h1 h2 hr d1 hd z]
/-- the advice gains what the words did -/
theorem gains_adv (h1 : ∀ q ∈ qs, 0 ≤ q) (h2 : ∀ r ∈ rss, ∀ q ∈ r, 0 ≤ q) (h3 : ∀ r ∈ advR qs hss tss rss dd mm hard, ∀ q ∈ r, 0 ≤ q) (hr : ∀ r ∈ rss, r.length = mm) (d1 : 1 ≤ dd) : gainT xss qs hss tss (advR qs hss tss rss dd mm hard) dd dd hard = gainT xss qs hss tss rss dd mm hard := by
  have e1 : gainT xss qs hss tss (advR qs hss tss rss dd mm hard) dd dd hard = ((List.range dd).map fun d => sumG (grpsL qs hss tss rss dd mm hard) d fun i => wq xss (prods rss qs i) d).sum := by
    unfold gainT
    congr 1
    refine List.map_congr_left fun d hd => ?_
    rw [gain_adv h1 h2 h3 hr d1 (List.mem_range.mp hd)]
    exact wq_adv rss xss qs (adv_len hr) (grpsL_lt d1)
  rw [e1, sumG_total _ (fun i d => wq xss (prods rss qs i) d) (grpsL_lt d1), sumI_range, grpsL_len]
  unfold gainT
  congr 1
  exact List.map_congr_left fun i hi => (gain_word h1 h2 d1 (List.mem_range.mp hi)).symm
/-- a word of the advice, none but the first, that is never said: it stands nowhere -/
theorem adv_silent {d : Nat} (h1 : ∀ q ∈ qs, 0 ≤ q) (h2 : ∀ r ∈ rss, ∀ q ∈ r, 0 ≤ q) (hr : ∀ r ∈ rss, r.length = mm) (d1 : 1 ≤ dd) (h0 : d ≠ 0) (hz : wq (advR qs hss tss rss dd mm hard) qs d = 0) : ∀ i : Nat, (grpsL qs hss tss rss dd mm hard)[i]? ≠ some d := fun i hi => by
  rcases grp_word hi d1 with y | ⟨y, _⟩
  · have him : i < mm := by
      have := (List.getElem?_eq_some_iff.mp hi).1
      rw [grpsL_len] at this
      exact this
    rw [grpsL_at him, word_none y] at hi
    exact h0 (Option.some.inj hi).symm
  · unfold advR at hz
    rw [wq_grp rss qs (adv_len hr) (grpsL_lt d1), ← sumG_zero (d := d) (grpsL qs hss tss rss dd mm hard)] at hz
    have pos : ∀ j : Nat, 0 ≤ wq rss qs j := fun j => sum_nonneg' (prods_nn h1 h2)
    have lt := sumG_lt (gs := grpsL qs hss tss rss dd mm hard) (f := fun _ => 0) (g := fun j => wq rss qs j) (fun j _ => pos j) hi (wq_pos h1 h2 y)
    rw [hz] at lt
    exact absurd lt (Rat.not_lt.mpr Rat.le_refl)
end
/-! ### advice made of advice -/
theorem sumG_pick {d : Nat} (c : Rat) : ∀ (gs : List Nat) (k : Nat), sumG gs d (fun i => if i = k then c else 0) = if gs[k]? = some d then c else 0
  | [], k => by
    rw [if_neg (by simp)]
    rfl
  | g :: gs, 0 => by
    have z : sumG gs d (fun i => if i + 1 = 0 then c else 0) = 0 := by
      refine Eq.trans (sumG_congr (g := fun _ => 0) fun i _ => ?_) (sumG_zero gs)
      show (if i + 1 = 0 then c else 0) = 0
      exact if_neg (by omega)
    show (if g = d then (if (0 : Nat) = 0 then c else 0) else 0) + sumG gs d (fun i => if i + 1 = 0 then c else 0) = _
    rw [z, if_pos (rfl : (0 : Nat) = 0)]
    by_cases e : g = d
    · rw [if_pos e, if_pos (by rw [e]; rfl)]; grind
    · rw [if_neg e, if_neg (show ¬ (g :: gs)[0]? = some d from fun h => e (Option.some.inj h))]; grind
  | g :: gs, k + 1 => by
    have z : sumG gs d (fun i => if i + 1 = k + 1 then c else 0) = if gs[k]? = some d then c else 0 := by
      rw [← sumG_pick c gs k]
      refine sumG_congr fun i _ => ?_
      show (if i + 1 = k + 1 then c else 0) = if i = k then c else 0
      by_cases e : i = k
      · rw [if_pos e, if_pos (by omega)]
      · rw [if_neg e, if_neg (by omega)]
    show (if g = d then (if (0 : Nat) = k + 1 then c else 0) else 0) + sumG gs d (fun i => if i + 1 = k + 1 then c else 0) = if gs[k]? = some d then c else 0
    rw [z, if_neg (by omega : ¬ (0 : Nat) = k + 1)]
    by_cases e : g = d
    · rw [if_pos e]; grind
    · rw [if_neg e]; grind
theorem sumG_single {d : Nat} {gs : List Nat} {f : Nat → Rat} (h1 : ∀ i : Nat, i ≠ d → gs[i]? = some d → f i = 0) (h2 : gs[d]? = some d ∨ f d = 0) : sumG gs d f = f d := by
  have e : sumG gs d f = sumG gs d fun i => if i = d then f d else 0 := sumG_congr fun i hi => by
    by_cases e : i = d
    · rw [if_pos e, e]
    · rw [if_neg e, h1 i e hi]
  rw [e, sumG_pick]
  rcases h2 with h | h
  · rw [if_pos h]
  · rw [h]
    by_cases z : gs[d]? = some d
    · rw [if_pos z]
    · rw [if_neg z]
theorem ext_getD {a b : List Rat} (hl : a.length = b.length) (h : ∀ d, a.getD d 0 = b.getD d 0) : a = b := by
  refine List.ext_getElem hl fun i h1 h2 => ?_
  have := h i
  rw [List.getD_eq_getElem?_getD, List.getD_eq_getElem?_getD, List.getElem?_eq_getElem h1, List.getElem?_eq_getElem h2] at this
  exact this
section
variable {qs : List Rat} {hss tss rss : List (List Rat)} {dd mm : Nat} {hard : Bool}
theorem adv_again (h1 : ∀ q ∈ qs, 0 ≤ q) (h2 : ∀ r ∈ rss, ∀ q ∈ r, 0 ≤ q) (hr : ∀ r ∈ rss, r.length = mm) (d1 : 1 ≤ dd) : advR qs hss tss (advR qs hss tss rss dd mm hard) dd dd hard = advR qs hss tss rss dd mm hard := by
  have say : ∀ d, d < dd → (grpsL qs hss tss (advR qs hss tss rss dd mm hard) dd dd hard)[d]? = some (if wq (advR qs hss tss rss dd mm hard) qs d = 0 then 0 else d) := fun d hd => by
    rw [grpsL_at hd]
    by_cases z : wq (advR qs hss tss rss dd mm hard) qs d = 0
    · rw [word_none z, if_pos z]
      rfl
    · rw [adv_done h1 h2 hr d1 hd z, if_neg z]
      rfl
  have row : ∀ r ∈ advR qs hss tss rss dd mm hard, r.length = dd ∧ ∀ d, d ≠ 0 → wq (advR qs hss tss rss dd mm hard) qs d = 0 → r.getD d 0 = 0 := fun r hr' => by
    unfold advR at hr'
    obtain ⟨r0, h0, rfl⟩ := List.mem_map.mp hr'
    refine ⟨by rw [grp_len, List.length_replicate], fun d hd z => ?_⟩
    rw [grp_getD r0 _ _ d (adv_len hr r0 h0) (fun g h => by rw [List.length_replicate]; exact grpsL_lt d1 g h), rep_getD, sumG_none (adv_silent h1 h2 hr d1 hd z)]
    grind
  have key : ∀ r ∈ advR qs hss tss rss dd mm hard, grp r (grpsL qs hss tss (advR qs hss tss rss dd mm hard) dd dd hard) (List.replicate dd 0) = r := fun r hr' => by
    obtain ⟨rl, rz⟩ := row r hr'
    refine ext_getD (by rw [grp_len, List.length_replicate, rl]) fun d => ?_
    rw [grp_getD r _ _ d (by rw [rl, grpsL_len]) (fun g h => by rw [List.length_replicate]; exact grpsL_lt d1 g h), rep_getD, Rat.zero_add]
    refine sumG_single (fun i hi hg => ?_) ?_
    · have hid : i < dd := by
        have := (List.getElem?_eq_some_iff.mp hg).1
        rw [grpsL_len] at this
        exact this
      rw [say i hid] at hg
      have e := Option.some.inj hg
      by_cases z : wq (advR qs hss tss rss dd mm hard) qs i = 0
      · rw [if_pos z] at e
        exact rz i (by omega) z
      · rw [if_neg z] at e
        exact absurd e hi
    · by_cases hd : d < dd
      · rw [say d hd]
        by_cases z : wq (advR qs hss tss rss dd mm hard) qs d = 0
        · rw [if_pos z]
          by_cases d0 : d = 0
          · exact .inl (by rw [d0])
          · exact .inr (rz d d0 z)
        · rw [if_neg z]
          exact .inl rfl
      · refine .inr ?_
        rw [List.getD_eq_getElem?_getD, List.getElem?_eq_none (by omega)]
        rfl
  show (advR qs hss tss rss dd mm hard).map (fun r => grp r (grpsL qs hss tss (advR qs hss tss rss dd mm hard) dd dd hard) (List.replicate dd 0)) = _
  refine Eq.trans (List.map_congr_left (g := id) fun r h => key r h) ?_
  rw [List.map_id]
end
/-! ### advice that is followed gains what it tells -/
def dueT (xss : List (List Rat)) (qs : List Rat) (rss : List (List Rat)) (dd : Nat) : Rat := ((List.range dd).map fun a => wq xss (prods rss qs a) a).sum
theorem sum_map_le {f g : Nat → Rat} : ∀ {l : List Nat}, (∀ x ∈ l, f x ≤ g x) → (l.map f).sum ≤ (l.map g).sum
  | [], _ => Rat.le_refl
  | x :: l, h => by
    have i := sum_map_le (l := l) fun y hy => h y (List.mem_cons_of_mem _ hy)
    have := h x (List.mem_cons_self ..)
    rw [List.map_cons, List.map_cons, List.sum_cons, List.sum_cons]
    grind
section
variable {qs : List Rat} {hss tss rss xss : List (List Rat)} {dd mm : Nat} {hard : Bool}
theorem due_adv (h1 : ∀ q ∈ qs, 0 ≤ q) (h2 : ∀ r ∈ rss, ∀ q ∈ r, 0 ≤ q) (h3 : ∀ r ∈ advR qs hss tss rss dd mm hard, ∀ q ∈ r, 0 ≤ q) (hr : ∀ r ∈ rss, r.length = mm) (d1 : 1 ≤ dd) : gainT xss qs hss tss (advR qs hss tss rss dd mm hard) dd dd hard = dueT xss qs (advR qs hss tss rss dd mm hard) dd := by
  unfold gainT dueT
  congr 1
  exact List.map_congr_left fun d hd => gain_adv h1 h2 h3 hr d1 (List.mem_range.mp hd)
theorem fol_best (h : faultsL qs hss rss dd dd = []) {a e : Nat} (ha : a < dd) (he : e < dd) : wq hss (prods rss qs a) e ≤ wq hss (prods rss qs a) a := by
  unfold faultsL at h
  rw [List.flatMap_eq_nil_iff] at h
  have h' := h a (List.mem_range.mpr ha)
  unfold faultD at h'
  rw [List.filterMap_eq_nil_iff] at h'
  have z := h' e (List.mem_range.mpr he)
  by_cases c : 0 < leadQ hss (prods rss qs a) e a
  · rw [if_pos c] at z
    cases z
  · rw [lead_wq] at c
    have := Rat.not_lt.mp c
    grind
/-- what is done behind a word that is said -/
theorem said_done {a : Nat} (d1 : 1 ≤ dd) (hn : wq rss qs a ≠ 0) : ∃ d, wordD qs hss tss rss dd hard a = some d ∧ IsDone (keyT tss (prods rss qs a) hard) (bestL hss (prods rss qs a) dd) d := by
  obtain ⟨d, x, y⟩ := doneF_ok (key := keyT tss (prods rss qs a) hard) (bestL hss (prods rss qs a) dd).length (bestL hss (prods rss qs a) dd) rfl (best_ne' d1)
  refine ⟨d, ?_, y⟩
  unfold wordD
  rw [if_neg hn, x]
theorem fol_hearer (h1 : ∀ q ∈ qs, 0 ≤ q) (h2 : ∀ r ∈ rss, ∀ q ∈ r, 0 ≤ q) (d1 : 1 ≤ dd) (h : faultsL qs hss rss dd dd = []) : gainT hss qs hss tss rss dd dd hard = dueT hss qs rss dd := by
  unfold gainT dueT
  congr 1
  refine List.map_congr_left fun a ha => ?_
  have ha := List.mem_range.mp ha
  by_cases z : wq rss qs a = 0
  · rw [gainW_none z, unsaid h1 h2 z]
  · obtain ⟨d, e1, e2⟩ := said_done (hss := hss) (tss := tss) (hard := hard) d1 z
    unfold gainW
    rw [e1]
    have m := mem_best.mp e2.mem
    exact Rat.le_antisymm (fol_best h ha m.1) (m.2 a ha)
theorem fol_teller (h1 : ∀ q ∈ qs, 0 ≤ q) (h2 : ∀ r ∈ rss, ∀ q ∈ r, 0 ≤ q) (d1 : 1 ≤ dd) (h : faultsL qs hss rss dd dd = []) : dueT tss qs rss dd ≤ gainT tss qs hss tss rss dd dd false := by
  unfold gainT dueT
  refine sum_map_le fun a ha => ?_
  have ha := List.mem_range.mp ha
  by_cases z : wq rss qs a = 0
  · rw [gainW_none z, unsaid h1 h2 z]
    exact Rat.le_refl
  · obtain ⟨d, e1, e2⟩ := said_done (hss := hss) (tss := tss) (hard := false) d1 z
    unfold gainW
    rw [e1]
    exact ((done_iff (best_sorted _ _ _)).mp e2).2.1 a (mem_best.mpr ⟨ha, fun e he => fol_best h ha he⟩)
end
/-! ### how often a deed is done in a world -/
def oftF (f : Nat → Option Nat) (r : List Rat) (act k : Nat) : Rat := ((List.range k).map fun i => if f i = some act then r.getD i 0 else 0).sum
theorem sumG_range {d : Nat} : ∀ (gs : List Nat) (f : Nat → Rat), sumG gs d f = ((List.range gs.length).map fun i => if gs.getD i 0 = d then f i else 0).sum
  | [], f => rfl
  | g :: gs, f => by
    rw [List.length_cons, List.range_succ_eq_map, List.map_cons, List.sum_cons, List.map_map]
    show (if g = d then f 0 else 0) + sumG gs d (fun i => f (i + 1)) = _
    rw [sumG_range gs]
    rfl
theorem row_zero {qs : List Rat} {rss : List (List Rat)} {w i : Nat} {q : Rat} {r : List Rat} (h1 : ∀ q ∈ qs, 0 ≤ q) (h2 : ∀ r ∈ rss, ∀ q ∈ r, 0 ≤ q) (hq : qs[w]? = some q) (hr : rss[w]? = some r) (hp : 0 < q) (hz : wq rss qs i = 0) : r.getD i 0 = 0 := by
  have e := sum_zero_all (prods_nn h1 h2) hz _ (List.mem_of_getElem? (prods_at (d := i) hq hr))
  rcases Rat.mul_eq_zero.mp e with z | z
  · rw [z] at hp
    exact absurd hp (Rat.not_lt.mpr Rat.le_refl)
  · exact z
section
variable {qs : List Rat} {hss tss rss : List (List Rat)} {dd mm w act : Nat} {hard : Bool} {q : Rat} {r : List Rat}
theorem oft_words (h1 : ∀ q ∈ qs, 0 ≤ q) (h2 : ∀ r ∈ rss, ∀ q ∈ r, 0 ≤ q) (d1 : 1 ≤ dd) (hq : qs[w]? = some q) (hr : rss[w]? = some r) (hp : 0 < q) : oftF (wordD qs hss tss rss dd hard) r act mm = sumG (grpsL qs hss tss rss dd mm hard) act fun i => r.getD i 0 := by
  rw [sumG_range, grpsL_len]
  unfold oftF
  congr 1
  refine List.map_congr_left fun i hi => ?_
  have hi := List.mem_range.mp hi
  have eg : (grpsL qs hss tss rss dd mm hard).getD i 0 = (wordD qs hss tss rss dd hard i).getD 0 := by rw [List.getD_eq_getElem?_getD, grpsL_at hi]; rfl
  rw [eg]
  by_cases z : wq rss qs i = 0
  · rw [row_zero h1 h2 hq hr hp z]
    by_cases a : wordD qs hss tss rss dd hard i = some act <;> by_cases b : (wordD qs hss tss rss dd hard i).getD 0 = act <;> simp [a, b]
  · obtain ⟨d, e, _⟩ := said_done (hss := hss) (tss := tss) (hard := hard) d1 z
    rw [e]
    show (if some d = some act then _ else _) = if d = act then _ else _
    by_cases a : d = act
    · rw [if_pos (by rw [a]), if_pos a]
    · rw [if_neg (fun x => a (Option.some.inj x)), if_neg a]
theorem oft_adv (h1 : ∀ q ∈ qs, 0 ≤ q) (h2 : ∀ r ∈ rss, ∀ q ∈ r, 0 ≤ q) (h3 : ∀ r ∈ advR qs hss tss rss dd mm hard, ∀ q ∈ r, 0 ≤ q) (hl : ∀ r ∈ rss, r.length = mm) (d1 : 1 ≤ dd) (hq : qs[w]? = some q) (hr : (advR qs hss tss rss dd mm hard)[w]? = some r) (hp : 0 < q) (ha : act < dd) : oftF (wordD qs hss tss (advR qs hss tss rss dd mm hard) dd hard) r act dd = r.getD act 0 := by
  have e : oftF (wordD qs hss tss (advR qs hss tss rss dd mm hard) dd hard) r act dd = ((List.range dd).map fun d => if act = d then r.getD act 0 else 0).sum := by
    unfold oftF
    congr 1
    refine List.map_congr_left fun d hd => ?_
    have hd := List.mem_range.mp hd
    by_cases z : wq (advR qs hss tss rss dd mm hard) qs d = 0
    · rw [word_none z, if_neg (by simp)]
      by_cases a : act = d
      · rw [if_pos a, a, row_zero h1 h3 hq hr hp z]
      · rw [if_neg a]
    · rw [adv_done h1 h2 hl d1 hd z]
      by_cases a : act = d
      · rw [if_pos a, if_pos (by rw [a]), a]
      · rw [if_neg a, if_neg (fun x => a (Option.some.inj x).symm)]
  rw [e, sum_pick act (fun _ => r.getD act 0) dd, if_pos ha]
/-- in each world with a share each deed is done as often -/
theorem oft_alike (h1 : ∀ q ∈ qs, 0 ≤ q) (h2 : ∀ r ∈ rss, ∀ q ∈ r, 0 ≤ q) (h3 : ∀ r ∈ advR qs hss tss rss dd mm hard, ∀ q ∈ r, 0 ≤ q) (hl : ∀ r ∈ rss, r.length = mm) (d1 : 1 ≤ dd) (hq : qs[w]? = some q) (hr : rss[w]? = some r) (hp : 0 < q) (ha : act < dd) :
    oftF (wordD qs hss tss rss dd hard) r act mm = oftF (wordD qs hss tss (advR qs hss tss rss dd mm hard) dd hard) (grp r (grpsL qs hss tss rss dd mm hard) (List.replicate dd 0)) act dd := by
  have hr' : (advR qs hss tss rss dd mm hard)[w]? = some (grp r (grpsL qs hss tss rss dd mm hard) (List.replicate dd 0)) := by
    unfold advR
    rw [List.getElem?_map, hr]
    rfl
  rw [oft_words h1 h2 d1 hq hr hp, oft_adv h1 h2 h3 hl d1 hq hr' hp ha, grp_getD r _ _ act (adv_len hl r (List.mem_of_getElem? hr)) (fun g h => by rw [List.length_replicate]; exact grpsL_lt d1 g h), rep_getD]
  grind
end
end Hr

set_option Elab.async false
set_option linter.all false
set_option maxRecDepth 100000
set_option maxHeartbeats 4000000
namespace Hr
open PySem PySem.Spec PyProof.Rows L2 BX EXB Co Ru
open Dz Cs
open Fr (Bd)
/-! ### words put together, with a bound that is known of the values -/
def spGrpRowB (K : PySem.W.Frag) : Sp := fun vs H Q _ => ∃ (r gl : Addr) (cs : List V) (qs : List Rat) (gs : List Nat) (n many : Nat), vs = [.ref r, .ref gl, .int (many : Int)] ∧ H r = some (.lst cs) ∧ FrN K H n cs qs ∧ H gl = some (.lst (gv gs)) ∧ gs.length = qs.length ∧ qs.length ≤ 30 ∧ (∀ g ∈ gs, g < many) ∧ many ≤ 30 ∧ (n + 1) * qs.length ≤ 4000 ∧
  ∀ D cs' H', Same H H' → H D = none → H' D = some (.lst cs') → FrN K H' (1 + (n + 1) * qs.length) cs' (grp qs gs (List.replicate many 0)) → Q (.ref D) H'
def spGroupedB (K : PySem.W.Frag) (C : Addr) : Sp := fun vs H Q _ => ∃ (x gl : Addr) (rss : List (List Rat)) (gs : List Nat) (n m many b : Nat), vs = [.ref x, .ref gl, .int (many : Int)] ∧ IsRule K H C x rss n ∧ Good rss m ∧ H gl = some (.lst (gv gs)) ∧ gs.length = m ∧ (∀ g ∈ gs, g < many) ∧ 1 ≤ many ∧ many ≤ 30 ∧ (n + 1) * m ≤ 4000 ∧ b ≤ 280 ∧ (∀ r ∈ rss, ∀ q ∈ grp r gs (List.replicate many 0), Bd b q) ∧
  ∀ x H', Same H H' → H x = none → IsRule K H' C x (rss.map fun qs => grp qs gs (List.replicate many 0)) b → Q (.ref x) H'
def spAdvisedB (K : PySem.W.Frag) (C CR : Addr) : Sp := fun vs H Q _ => ∃ (x y : Addr) (hard : Bool) (qs : List Rat) (hss tss rss : List (List Rat)) (n m ww dd mm b : Nat), vs = [.ref x, .ref y, .bl hard] ∧ Ga K H C CR x y qs hss tss rss n m ww dd mm ∧ (m + 1) * mm ≤ 4000 ∧ b ≤ 280 ∧ (∀ r ∈ advR qs hss tss rss dd mm hard, ∀ q ∈ r, Bd b q) ∧
  ∀ z H', Same H H' → H z = none → IsRule K H' CR z (advR qs hss tss rss dd mm hard) b → Q (.ref z) H'
theorem rw_bd {K : PySem.W.Frag} {H : Hp} {a : Addr} {rs : List Addr} {rss : List (List Rat)} {n : Nat} (h : RwL K H a rs rss n) : ∀ r ∈ rss, ∀ q ∈ r, Bd n q := fun r hr q hq => by
  obtain ⟨i, hi, e⟩ := List.getElem_of_mem hr
  have hrs : i < rs.length := by rw [h.2.1]; exact hi
  obtain ⟨cs', qs, f1, f2, f3⟩ := h.2.2 i rs[i] (List.getElem?_eq_getElem hrs)
  rw [List.getElem?_eq_getElem hi, e] at f1
  cases f1
  exact frn_bd f3 q hq
theorem adv_bd {qs : List Rat} {hss tss rss : List (List Rat)} {dd mm : Nat} {hard : Bool} (h : ∀ r ∈ rss, ∀ q ∈ r, Bd 8 q) (hl : ∀ r ∈ rss, r.length = mm) (hm : mm ≤ 9) : ∀ r ∈ advR qs hss tss rss dd mm hard, ∀ q ∈ r, Bd 82 q := fun r hr q hq => by
  unfold advR at hr
  obtain ⟨r0, h0, rfl⟩ := List.mem_map.mp hr
  have l0 := hl r0 h0
  rw [← grpI_all (i := mm) (by omega) (by rw [grpsL_len]; exact Nat.le_refl _)] at hq
  exact grpI_bd (h r0 h0) hm q hq
theorem prodB {xss : List (List Rat)} {ws : List Rat} {d n m : Nat} (hn : 1 ≤ n) (hx : ∀ r ∈ xss, ∀ q ∈ r, Bd n q) (hw : ∀ q ∈ ws, Bd m q) : ∀ q ∈ prods xss ws d, Bd (m + n) q := fun q hq => by
  unfold prods at hq
  obtain ⟨i, hi, e⟩ := List.getElem_of_mem hq
  rw [List.getElem_zipWith] at e
  subst e
  rw [List.length_zipWith] at hi
  refine Fr.bd_mul (hw _ (List.getElem_mem _)) ?_
  have hr : i < xss.length := by omega
  by_cases hd : d < xss[i].length
  · rw [List.getD_eq_getElem?_getD, List.getElem?_eq_getElem hd]
    exact hx _ (List.getElem_mem hr) _ (List.getElem_mem hd)
  · rw [List.getD_eq_getElem?_getD, List.getElem?_eq_none (by omega)]
    exact Fr.Bd.mono (n := 1) ⟨by decide, by decide⟩ hn
theorem wqB {xss : List (List Rat)} {ws : List Rat} {d n m : Nat} (hn : 1 ≤ n) (hx : ∀ r ∈ xss, ∀ q ∈ r, Bd n q) (hw : ∀ q ∈ ws, Bd m q) (h5 : ws.length ≤ 5) : Bd ((m + n + 1) * 5 + 1) (wq xss ws d) := by
  unfold wq
  refine (bd_sum (prodB hn hx hw)).mono ?_
  have : (prods xss ws d).length ≤ 5 := by unfold prods; rw [List.length_zipWith]; omega
  have := Nat.mul_le_mul_left (m + n + 1) this
  omega
theorem gainB {xss : List (List Rat)} {qs : List Rat} {hss tss rss : List (List Rat)} {dd mm n a b : Nat} {hard : Bool} (hn : 1 ≤ n) (hb : 1 ≤ b) (hx : ∀ r ∈ xss, ∀ q ∈ r, Bd n q) (hq : ∀ q ∈ qs, Bd a q) (hr : ∀ r ∈ rss, ∀ q ∈ r, Bd b q) (h5 : qs.length ≤ 5) : Bd (((a + b + n + 1) * 5 + 2) * mm + 1) (gainT xss qs hss tss rss dd mm hard) := by
  unfold gainT
  have hw : ∀ q ∈ (List.range mm).map (gainW xss qs hss tss rss dd hard), Bd ((a + b + n + 1) * 5 + 1) q := fun q hq' => by
    obtain ⟨i, _, rfl⟩ := List.mem_map.mp hq'
    unfold gainW
    split
    · exact Fr.Bd.mono (n := 1) ⟨by decide, by decide⟩ (by omega)
    · exact wqB hn hx (prodB hb hr hq) (by unfold prods; rw [List.length_zipWith]; omega)
  refine (bd_sum hw).mono ?_
  rw [List.length_map, List.length_range]
  exact Nat.le_refl _
theorem dueB {xss : List (List Rat)} {qs : List Rat} {rss : List (List Rat)} {dd n a b : Nat} (hn : 1 ≤ n) (hb : 1 ≤ b) (hx : ∀ r ∈ xss, ∀ q ∈ r, Bd n q) (hq : ∀ q ∈ qs, Bd a q) (hr : ∀ r ∈ rss, ∀ q ∈ r, Bd b q) (h5 : qs.length ≤ 5) : Bd (((a + b + n + 1) * 5 + 2) * dd + 1) (dueT xss qs rss dd) := by
  unfold dueT
  have hw : ∀ q ∈ (List.range dd).map (fun a => wq xss (prods rss qs a) a), Bd ((a + b + n + 1) * 5 + 1) q := fun q hq' => by
    obtain ⟨i, _, rfl⟩ := List.mem_map.mp hq'
    exact wqB hn hx (prodB hb hr hq) (by unfold prods; rw [List.length_zipWith]; omega)
  refine (bd_sum hw).mono ?_
  rw [List.length_map, List.length_range]
  exact Nat.le_refl _
theorem is_re {K : PySem.W.Frag} {H : Hp} {C x : Addr} {rss : List (List Rat)} {n m : Nat} (h : IsRule K H C x rss n) (hb : ∀ r ∈ rss, ∀ q ∈ r, Bd m q) : IsRule K H C x rss m := by
  obtain ⟨d, ra, rs, e, w⟩ := h
  exact ⟨d, ra, rs, e, w.1, w.2.1, fun j r er => let ⟨cs, qs, f1, f2, f3⟩ := w.2.2 j r er; ⟨cs, qs, f1, f2, frn_re f3 (hb qs (List.mem_of_getElem? f1))⟩⟩
end Hr

set_option Elab.async false
set_option linter.all false
set_option maxRecDepth 100000
set_option maxHeartbeats 4000000
namespace Sx
open PySem PySem.Spec PyProof.Rows L2
/-! ### sorted of a tuple of numbers -/
section
variable {prog : Program} {w : World} {A : Around} {E : Value → Shared → Prop} {s : Shared}
theorem sorted_tup {l : Addr} {o : Obj} {vs : List Value} {ns : List Int} {n : Nat} {Q : Value → Shared → Prop} (ho : s.heap.get? l = some o) (hc : o.cls = .type "tuple") (hd : o.data = .seq vs.toArray n) (hI : IntsAre vs ns) (h64 : vs.length < 64)
    (h : ∀ (h1 : Heap) (p : Addr) (out : Array Value) (ns' : List Int), (∀ b u, s.heap.get? b = some u → h1.get? b = some u) → s.heap.get? p = none → (∃ e, h1.get? p = some (seqObj "list" out e)) → IntsAre out.toList ns' → ns'.Perm ns → ns'.Pairwise (· ≤ ·) → Q (.ref p) { s with heap := h1 }) :
    wpAny (model prog w) A (call (.builtin "sorted") [.ref l]) Q E s := by
  have hz : vs.toArray.size ≤ sizeLine := by
    rw [List.size_toArray, sizeLine_eq]
    omega
  refine Calls.call_function_entry kind_sorted plain_sorted entry_sorted (args_sorted1 _) ?_
  unfold Builtin.«sorted»
  refine wpAny_bind (m := checkCount "sorted" 1 1 _) (wpAny_pure ?_)
  refine wpAny_bind (wpAny_collect_seq l (.inr rfl) ho hc hd (fun h2 k2 => ?_) hz)
  rw [show vs.toArray.toList = vs by simp]
  refine wpAny_bind (wpAny_newList ?_)
  have at2 : (h2.push (seqObj "list" vs.toArray 0)).get? h2.objs.size = some (seqObj "list" vs.toArray 0) := Heap.get?_push_size _ rfl
  refine wpAny_bind (wpAny_holding (wpAny_call_entry slot_list_sort ⟨_, at2, rfl⟩ entry_list_sort (list_sort_tree at2 hI h64 fun out ns' a1 a2 a3 => ⟨_, rfl, wpAny_pure ⟨_, rfl, ?_⟩⟩) (args_list_sort _)))
  refine h _ h2.objs.size out ns' (fun b u hb => ?_) ?_ (sortedHeap_at at2) a1 a2 a3
  · have hb2 := k2 b u hb
    have lt2 : b < h2.objs.size := Heap.lt_size hb2
    show (sortedHeap _ _ _ _).get? b = some u
    rw [sortedHeap_old (Nat.ne_of_lt lt2) (by rw [size_push']; exact Nat.lt_succ_of_lt lt2)]
    exact Heap.get?_push_of_some _ hb2
  · cases e : s.heap.get? h2.objs.size with
    | none => rfl
    | some u => exact absurd (Heap.lt_size (k2 _ _ e)) (Nat.lt_irrefl _)
end
def rSortT (K : PySem.W.Frag) : List V → Hp → VK → Prop := fun vs H Q => ∃ (a : Addr) (ns : List Int), vs = [V.ref a] ∧ SqT K H a (ns.map V.int) ∧ ns.length < 64 ∧ ∀ (ns' : List Int) (p : Addr), ns'.Perm ns → ns'.Pairwise (· ≤ ·) → H p = none → Q (.ref p) (upd H p (.lst (ns'.map V.int)))
theorem cr_sortT {X : Cx} : CallR X (.builtin "sorted") (rSortT X.K) := by
  intro pins s σ H vs us Q I r h
  obtain ⟨a, ns, rfl, hs, h64, q⟩ := h
  obtain ⟨its, rv, pl, hz⟩ := I.tuple hs
  rw [Vals.ref1 r]
  have hi := rv.ints
  obtain ⟨o, ho, hc, n, hd⟩ := pl
  refine sorted_tup ho hc hd hi (by rw [hi.length]; exact h64) fun h1 p out ns' k hp he h2 h3 h4 => ?_
  obtain ⟨ep, he'⟩ := he
  have hlen : (ns'.map V.int).length ≤ sizeLine := by rw [List.length_map, h3.length_eq]; exact small64 h64
  have hn : H p = none := HOk.gone I.hok hp
  exact ⟨.ref p, upd H p (.lst (ns'.map V.int)), I.laidN (t' := s.toks) k hp hn ⟨hlen, out.toList, ep, vals_of_ints h2, he'⟩, rfl, q ns' p h3 h4 hn⟩
end Sx

set_option Elab.async false
set_option linter.all false
set_option maxRecDepth 100000
set_option maxHeartbeats 4000000
namespace Hr
open PySem PySem.Spec PyProof.Rows L2 BX EXB Co Ru
open Dz Cs
open Fr (Bd)
/-! ### beliefs, by bounds that are known of the values -/
theorem belB {rss : List (List Rat)} {qs : List Rat} {i n m : Nat} (hn : 1 ≤ n) (hx : ∀ r ∈ rss, ∀ q ∈ r, Bd n q) (hw : ∀ q ∈ qs, Bd m q) (h5 : qs.length ≤ 5) (h0 : wq rss qs i ≠ 0) : ∀ q ∈ belq rss qs i, Bd ((m + n) + ((m + n + 1) * 5 + 1)) q := fun q hq => by
  unfold belq at hq
  obtain ⟨w, hw', rfl⟩ := List.mem_map.mp hq
  exact bd_div (prodB hn hx hw w hw') (wqB hn hx hw h5) h0
theorem lead_bel {hss rss : List (List Rat)} {qs : List Rat} {i : Nat} (h0 : wq rss qs i ≠ 0) (a b : Nat) : wq rss qs i * (wq hss (belq rss qs i) a - wq hss (belq rss qs i) b) = leadQ hss (prods rss qs i) a b := by
  unfold belq
  rw [wq_scale, wq_scale, lead_wq]
  have h := Rat.mul_inv_cancel _ h0
  generalize wq rss qs i = c at h
  generalize wq hss (prods rss qs i) a = A
  generalize wq hss (prods rss qs i) b = B
  grind
theorem lead_zero {hss rss : List (List Rat)} {qs : List Rat} {i : Nat} (h1 : ∀ q ∈ qs, 0 ≤ q) (h2 : ∀ r ∈ rss, ∀ q ∈ r, 0 ≤ q) (h : wq rss qs i = 0) (a b : Nat) : leadQ hss (prods rss qs i) a b = 0 := by
  rw [lead_wq, unsaid h1 h2 h, unsaid h1 h2 h, Rat.sub_self]
theorem faultD_nil {hss : List (List Rat)} {ws : List Rat} {d k : Nat} (h : ∀ e, e < k → ¬ 0 < leadQ hss ws e d) : faultD hss ws d k = [] := by
  unfold faultD
  refine List.filterMap_eq_nil_iff.mpr fun e he => ?_
  rw [if_neg (h e (List.mem_range.mp he))]
theorem faultsL_nil {qs : List Rat} {hss rss : List (List Rat)} {dd : Nat} (h : ∀ d, d < dd → ∀ e, e < dd → ¬ 0 < leadQ hss (prods rss qs d) e d) : faultsL qs hss rss dd dd = [] := by
  unfold faultsL
  refine List.flatMap_eq_nil_iff.mpr fun d hd => faultD_nil (h d (List.mem_range.mp hd))
theorem lead_pos {hss rss : List (List Rat)} {qs : List Rat} {i a b : Nat} (hp : 0 < wq rss qs i) : 0 < wq hss (belq rss qs i) a - wq hss (belq rss qs i) b ↔ 0 < leadQ hss (prods rss qs i) a b := by
  rw [← lead_bel (fun z => by rw [z] at hp; exact absurd hp (Rat.not_lt.mpr Rat.le_refl))]
  constructor
  · exact fun h => Rat.mul_pos hp h
  · intro h
    refine Rat.not_le.mp fun z => ?_
    have := Rat.mul_le_mul_of_nonneg_left z (Rat.le_of_lt hp)
    rw [Rat.mul_zero] at this
    exact absurd h (Rat.not_lt.mpr this)
/-! ### two rules mixed -/
def mixRow (p : Rat) (a b : List Rat) : List Rat := List.zipWith (fun x y => (1 - p) * x + p * y) a b
def mixR (p : Rat) (as bs : List (List Rat)) : List (List Rat) := List.zipWith (mixRow p) as bs
theorem mixRow_sum (p : Rat) : ∀ {a b : List Rat}, a.length = b.length → (mixRow p a b).sum = (1 - p) * a.sum + p * b.sum
  | [], [], _ => by
    show ([] : List Rat).sum = _
    rw [List.sum_nil, Rat.mul_zero, Rat.mul_zero, Rat.add_zero]
  | [], _ :: _, h => by simp at h
  | _ :: _, [], h => by simp at h
  | x :: a, y :: b, h => by
    show (((1 - p) * x + p * y) :: mixRow p a b).sum = _
    rw [List.sum_cons, mixRow_sum p (by simpa using h), List.sum_cons, List.sum_cons]
    grind
theorem mixRow_at {p : Rat} {a b : List Rat} {i : Nat} {x y : Rat} (h1 : a[i]? = some x) (h2 : b[i]? = some y) : (mixRow p a b)[i]? = some ((1 - p) * x + p * y) := by
  unfold mixRow
  rw [List.getElem?_zipWith, h1, h2]
theorem mixR_at {p : Rat} {as bs : List (List Rat)} {i : Nat} {x y : List Rat} (h1 : as[i]? = some x) (h2 : bs[i]? = some y) : (mixR p as bs)[i]? = some (mixRow p x y) := by
  unfold mixR
  rw [List.getElem?_zipWith, h1, h2]
theorem mixRow_len {p : Rat} {a b : List Rat} (h : a.length = b.length) : (mixRow p a b).length = a.length := by
  unfold mixRow
  rw [List.length_zipWith]
  omega
theorem mixR_len {p : Rat} {a b : List (List Rat)} (h : a.length = b.length) : (mixR p a b).length = a.length := by
  unfold mixR
  rw [List.length_zipWith]
  omega
theorem mixRow_ok {p : Rat} {a b : List Rat} {m : Nat} (p0 : 0 ≤ p) (p1 : p ≤ 1) (ha : RowOk m a) (hb : RowOk m b) : RowOk m (mixRow p a b) := by
  have hl : a.length = b.length := by rw [ha.1, hb.1]
  refine ⟨by rw [mixRow_len hl, ha.1], fun q hq => ?_, by rw [mixRow_sum p hl, ha.2.2, hb.2.2]; grind⟩
  obtain ⟨i, hi, e⟩ := List.getElem_of_mem hq
  rw [mixRow_len hl] at hi
  have e2 := mixRow_at (p := p) (List.getElem?_eq_getElem hi) (List.getElem?_eq_getElem (show i < b.length by omega))
  have e3 : q = (1 - p) * a[i] + p * b[i] := by
    rw [← e]
    exact (List.getElem?_eq_some_iff.mp e2).2
  rw [e3]
  exact Rat.add_nonneg (Rat.mul_nonneg (by grind) (ha.2.1 _ (List.getElem_mem hi))) (Rat.mul_nonneg p0 (hb.2.1 _ (List.getElem_mem _)))
theorem mix_mem {p : Rat} {as bs : List (List Rat)} {r : List Rat} (h : r ∈ mixR p as bs) : ∃ (i : Nat) (x y : List Rat), as[i]? = some x ∧ bs[i]? = some y ∧ (mixR p as bs)[i]? = some r ∧ r = mixRow p x y := by
  obtain ⟨i, hi, e⟩ := List.getElem_of_mem h
  have hi' := hi
  unfold mixR at hi'
  rw [List.length_zipWith] at hi'
  have h1 : i < as.length := by omega
  have h2 : i < bs.length := by omega
  refine ⟨i, as[i], bs[i], List.getElem?_eq_getElem h1, List.getElem?_eq_getElem h2, by rw [List.getElem?_eq_getElem hi, e], ?_⟩
  have e2 := mixR_at (p := p) (List.getElem?_eq_getElem h1) (List.getElem?_eq_getElem h2)
  rw [List.getElem?_eq_getElem hi, e] at e2
  exact Option.some.inj e2
theorem mix_good {p : Rat} {as bs : List (List Rat)} {m : Nat} (p0 : 0 ≤ p) (p1 : p ≤ 1) (ha : Good as m) (hb : Good bs m) (hl : as.length = bs.length) : Good (mixR p as bs) m := by
  refine ⟨by rw [mixR_len hl]; exact ha.w1, by rw [mixR_len hl]; exact ha.w5, ha.m1, ha.m30, fun r hr => ?_⟩
  obtain ⟨i, x, y, e1, e2, _, rfl⟩ := mix_mem hr
  exact mixRow_ok p0 p1 (ha.row _ (List.mem_of_getElem? e1)) (hb.row _ (List.mem_of_getElem? e2))
theorem mix_getD {p : Rat} {a b : List Rat} (h : a.length = b.length) (d : Nat) : (mixRow p a b).getD d 0 = (1 - p) * a.getD d 0 + p * b.getD d 0 := by
  by_cases hd : d < a.length
  · rw [List.getD_eq_getElem?_getD, mixRow_at (List.getElem?_eq_getElem hd) (List.getElem?_eq_getElem (show d < b.length by omega)), List.getD_eq_getElem?_getD, List.getElem?_eq_getElem hd, List.getD_eq_getElem?_getD, List.getElem?_eq_getElem (show d < b.length by omega)]
    rfl
  · rw [List.getD_eq_getElem?_getD, List.getElem?_eq_none (by rw [mixRow_len h]; omega), List.getD_eq_getElem?_getD, List.getElem?_eq_none (by omega), List.getD_eq_getElem?_getD, List.getElem?_eq_none (by omega)]
    show (0 : Rat) = (1 - p) * 0 + p * 0
    rw [Rat.mul_zero, Rat.mul_zero, Rat.add_zero]
/-! ### advice that goes where deeds are best -/
/-- advice given at all is best there -/
def Wise (hss rss : List (List Rat)) (dd : Nat) : Prop := ∀ (w : Nat) (r h : List Rat), rss[w]? = some r → hss[w]? = some h → ∀ d, r.getD d 0 ≠ 0 → ∀ e, e < dd → h.getD e 0 ≤ h.getD d 0
theorem sum_nonpos : ∀ {l : List Rat}, (∀ x ∈ l, x ≤ 0) → l.sum ≤ 0
  | [], _ => by rw [List.sum_nil]; exact Rat.le_refl
  | x :: l, h => by
    have h1 := h x (List.mem_cons_self ..)
    have h2 := sum_nonpos fun y hy => h y (List.mem_cons_of_mem _ hy)
    rw [List.sum_cons]
    grind
theorem wise_fol {qs : List Rat} {hss rss : List (List Rat)} {dd : Nat} (h1 : ∀ q ∈ qs, 0 ≤ q) (h2 : ∀ r ∈ rss, ∀ q ∈ r, 0 ≤ q) (hb : Wise hss rss dd) : faultsL qs hss rss dd dd = [] := by
  refine faultsL_nil fun d hd e he => Rat.not_lt.mpr ?_
  unfold leadQ
  refine sum_nonpos fun x hx => ?_
  obtain ⟨i, hi, ex⟩ := List.getElem_of_mem hx
  have hi' := hi
  unfold leadP prods at hi'
  rw [List.length_zipWith, List.length_zipWith] at hi'
  have a1 : i < qs.length := by omega
  have a2 : i < rss.length := by omega
  have a3 : i < hss.length := by omega
  have e1 := leadP_at (d := e) (e := d) (prods_at (d := d) (List.getElem?_eq_getElem a1) (List.getElem?_eq_getElem a2)) (List.getElem?_eq_getElem a3)
  have e2 : x = qs[i] * rss[i].getD d 0 * (hss[i].getD e 0 - hss[i].getD d 0) := by
    rw [← ex]
    exact (List.getElem?_eq_some_iff.mp e1).2
  rw [e2]
  have q0 := h1 _ (List.getElem_mem a1)
  by_cases z : rss[i].getD d 0 = 0
  · rw [z, Rat.mul_zero, Rat.zero_mul]
    exact Rat.le_refl
  · have r0 : 0 ≤ rss[i].getD d 0 := by
      by_cases hdl : d < rss[i].length
      · rw [List.getD_eq_getElem?_getD, List.getElem?_eq_getElem hdl]
        exact h2 _ (List.getElem_mem a2) _ (List.getElem_mem hdl)
      · rw [List.getD_eq_getElem?_getD, List.getElem?_eq_none (by omega)]
        exact Rat.le_refl
    have le := hb i _ _ (List.getElem?_eq_getElem a2) (List.getElem?_eq_getElem a3) d z e he
    have := Rat.mul_le_mul_of_nonneg_left (show hss[i].getD e 0 - hss[i].getD d 0 ≤ 0 by grind) (Rat.mul_nonneg q0 r0)
    rw [Rat.mul_zero] at this
    exact this
theorem wise_mix {p : Rat} {hss as bs : List (List Rat)} {dd : Nat} (ha : Wise hss as dd) (hb : Wise hss bs dd) (hl : ∀ (i : Nat) (x y : List Rat), as[i]? = some x → bs[i]? = some y → x.length = y.length) : Wise hss (mixR p as bs) dd := by
  intro w r h hr hh d hd
  obtain ⟨i, x, y, e1, e2, e3, e4⟩ : ∃ (i : Nat) (x y : List Rat), as[w]? = some x ∧ bs[w]? = some y ∧ i = w ∧ r = mixRow p x y := by
    have hw := (List.getElem?_eq_some_iff.mp hr).1
    unfold mixR at hw
    rw [List.length_zipWith] at hw
    have h1 : w < as.length := by omega
    have h2 : w < bs.length := by omega
    have e2 := mixR_at (p := p) (List.getElem?_eq_getElem h1) (List.getElem?_eq_getElem h2)
    rw [hr] at e2
    exact ⟨w, as[w], bs[w], List.getElem?_eq_getElem h1, List.getElem?_eq_getElem h2, rfl, Option.some.inj e2⟩
  rw [e4, mix_getD (hl w x y e1 e2)] at hd
  by_cases z : x.getD d 0 = 0
  · refine hb w y h e2 hh d fun z2 => hd ?_
    rw [z, z2, Rat.mul_zero, Rat.mul_zero, Rat.add_zero]
  · exact ha w x h e1 hh d z
theorem unit_getD {dd a d : Nat} : (unit dd a).getD d 0 = if d < dd ∧ d = a then 1 else 0 := by
  unfold unit
  by_cases h : d < dd
  · rw [List.getD_eq_getElem?_getD, List.getElem?_map, List.getElem?_range h]
    show (if d = a then (1 : Rat) else 0) = _
    by_cases e : d = a
    · rw [if_pos e, if_pos ⟨h, e⟩]
    · rw [if_neg e, if_neg (fun z => e z.2)]
  · rw [List.getD_eq_getElem?_getD, List.getElem?_eq_none (by rw [List.length_map, List.length_range]; omega), if_neg (fun z => h z.1)]
    rfl
theorem unit_len {dd a : Nat} : (unit dd a).length = dd := by
  unfold unit
  rw [List.length_map, List.length_range]
theorem unit_bd {dd a : Nat} : ∀ q ∈ unit dd a, Bd 1 q := fun q hq => by
  unfold unit at hq
  obtain ⟨j, _, rfl⟩ := List.mem_map.mp hq
  split
  · exact ⟨by decide, by decide⟩
  · exact ⟨by decide, by decide⟩
def bestR (as : List Nat) (dd : Nat) : List (List Rat) := as.map (unit dd)
theorem bestR_good {as : List Nat} {ww dd : Nat} (hl : as.length = ww) (w1 : 1 ≤ ww) (w5 : ww ≤ 5) (d1 : 1 ≤ dd) (d6 : dd ≤ 6) (ha : ∀ a ∈ as, a < dd) : Good (bestR as dd) dd := by
  refine ⟨by unfold bestR; rw [List.length_map]; omega, by unfold bestR; rw [List.length_map]; omega, d1, by omega, fun r hr => ?_⟩
  obtain ⟨a, h, rfl⟩ := List.mem_map.mp hr
  exact unit_ok (ha a h)
/-! ### all in one world -/
theorem getD_in {α : Type} {l : List α} {i : Nat} {z : α} (h : i < l.length) : l.getD i z = l[i] := by
  rw [List.getD_eq_getElem?_getD, List.getElem?_eq_getElem h]
  rfl
theorem wq_range {xss : List (List Rat)} {ws : List Rat} {d : Nat} (h : ws.length = xss.length) : wq xss ws d = ((List.range ws.length).map fun j => ws.getD j 0 * (xss.getD j []).getD d 0).sum := by
  unfold wq
  congr 1
  refine List.ext_getElem? fun i => ?_
  rw [List.getElem?_map]
  by_cases hi : i < ws.length
  · rw [prods_at (List.getElem?_eq_getElem hi) (List.getElem?_eq_getElem (show i < xss.length by omega)), List.getElem?_range hi]
    show some (ws[i] * (xss[i]'(by omega)).getD d 0) = some (ws.getD i 0 * (xss.getD i []).getD d 0)
    rw [getD_in hi, getD_in (show i < xss.length by omega)]
  · rw [List.getElem?_eq_none (by rw [prods_len h]; omega), List.getElem?_eq_none (by rw [List.length_range]; omega)]
    rfl
theorem wq_unit {xss : List (List Rat)} {ww w d : Nat} (h : xss.length = ww) (hw : w < ww) : wq xss (unit ww w) d = (xss.getD w []).getD d 0 := by
  rw [wq_range (by rw [unit_len, h]), unit_len]
  have e : ((List.range ww).map fun j => (unit ww w).getD j 0 * (xss.getD j []).getD d 0) = (List.range ww).map fun j => if w = j then (xss.getD j []).getD d 0 else 0 := by
    refine List.map_congr_left fun j hj => ?_
    rw [unit_getD]
    by_cases z : w = j
    · subst z
      rw [if_pos ⟨hw, rfl⟩, if_pos rfl, Rat.one_mul]
    · rw [if_neg (fun q => z q.2.symm), if_neg z, Rat.zero_mul]
  rw [e, sum_pick, if_pos hw]
theorem prods_getD {xss : List (List Rat)} {ws : List Rat} {d j : Nat} (h : ws.length = xss.length) : (prods xss ws d).getD j 0 = ws.getD j 0 * (xss.getD j []).getD d 0 := by
  by_cases hi : j < ws.length
  · rw [List.getD_eq_getElem?_getD (l := prods xss ws d), prods_at (List.getElem?_eq_getElem hi) (List.getElem?_eq_getElem (show j < xss.length by omega)), getD_in hi, getD_in (show j < xss.length by omega)]
    rfl
  · rw [List.getD_eq_getElem?_getD, List.getElem?_eq_none (by rw [prods_len h]; omega), List.getD_eq_getElem?_getD, List.getElem?_eq_none (by omega)]
    show (0 : Rat) = 0 * _
    rw [Rat.zero_mul]
theorem wq_unit2 {xss rss : List (List Rat)} {ww w d e : Nat} (h : xss.length = ww) (hr : rss.length = ww) (hw : w < ww) : wq xss (prods rss (unit ww w) d) e = (rss.getD w []).getD d 0 * (xss.getD w []).getD e 0 := by
  have hl : (prods rss (unit ww w) d).length = ww := by rw [prods_len (by rw [unit_len, hr]), unit_len]
  rw [wq_range (by rw [hl, h]), hl]
  have ee : ((List.range ww).map fun j => (prods rss (unit ww w) d).getD j 0 * (xss.getD j []).getD e 0) = (List.range ww).map fun j => if w = j then (rss.getD j []).getD d 0 * (xss.getD j []).getD e 0 else 0 := by
    refine List.map_congr_left fun j hj => ?_
    rw [prods_getD (by rw [unit_len, hr]), unit_getD]
    by_cases z : w = j
    · subst z
      rw [if_pos ⟨hw, rfl⟩, if_pos rfl, Rat.one_mul]
    · rw [if_neg (fun q => z q.2.symm), if_neg z, Rat.zero_mul, Rat.zero_mul]
  rw [ee, sum_pick (f := fun j => (rss.getD j []).getD d 0 * (xss.getD j []).getD e 0), if_pos hw]
theorem best_unit {hss : List (List Rat)} {ww w dd d : Nat} (h : hss.length = ww) (hw : w < ww) (hd : d < dd) : d ∈ bestL hss (unit ww w) dd ↔ ∀ e, e < dd → (hss.getD w []).getD e 0 ≤ (hss.getD w []).getD d 0 := by
  rw [mem_best]
  constructor
  · intro z e he
    have := z.2 e he
    rw [wq_unit h hw, wq_unit h hw] at this
    exact this
  · intro z
    refine ⟨hd, fun e he => ?_⟩
    rw [wq_unit h hw, wq_unit h hw]
    exact z e he
theorem one_world {hss rss : List (List Rat)} {ww w dd : Nat} (h : hss.length = ww) (hr : rss.length = ww) (hw : w < ww) (h2 : ∀ r ∈ rss, ∀ q ∈ r, 0 ≤ q) : faultsL (unit ww w) hss rss dd dd = [] ↔ ∀ d, d < dd → 0 < (rss.getD w []).getD d 0 → d ∈ bestL hss (unit ww w) dd := by
  constructor
  · intro f d hd hp
    rw [best_unit h hw hd]
    intro e he
    have := fol_best f hd he
    rw [wq_unit2 h hr hw, wq_unit2 h hr hw] at this
    refine Rat.not_lt.mp fun z => ?_
    exact absurd ((Rat.mul_lt_mul_left hp).mpr z) (Rat.not_lt.mpr this)
  · intro f
    refine faultsL_nil fun d hd e he => Rat.not_lt.mpr ?_
    rw [lead_wq, wq_unit2 h hr hw, wq_unit2 h hr hw]
    by_cases hp : 0 < (rss.getD w []).getD d 0
    · have le := (best_unit h hw hd).mp (f d hd hp) e he
      have := Rat.mul_le_mul_of_nonneg_left le (Rat.le_of_lt hp)
      grind
    · have r0 : 0 ≤ (rss.getD w []).getD d 0 := by
        have hwr : w < rss.length := by omega
        rw [List.getD_eq_getElem?_getD (l := rss), List.getElem?_eq_getElem hwr]
        show 0 ≤ rss[w].getD d 0
        by_cases hdl : d < rss[w].length
        · rw [List.getD_eq_getElem?_getD, List.getElem?_eq_getElem hdl]
          exact h2 _ (List.getElem_mem hwr) _ (List.getElem_mem hdl)
        · rw [List.getD_eq_getElem?_getD, List.getElem?_eq_none (by omega)]
          exact Rat.le_refl
      rw [Rat.le_antisymm (Rat.not_lt.mp hp) r0, Rat.zero_mul, Rat.zero_mul, Rat.sub_self]
      exact Rat.le_refl
theorem bestR_wise {hss : List (List Rat)} {as : List Nat} {ww dd : Nat} (h : hss.length = ww) (hl : as.length = ww) (ha : ∀ (w a : Nat), as[w]? = some a → a ∈ bestL hss (unit ww w) dd) : Wise hss (bestR as dd) dd := by
  intro w r x hr hx d hd e he
  unfold bestR at hr
  rw [List.getElem?_map] at hr
  obtain ⟨a, ea, rfl⟩ := Option.map_eq_some_iff.mp hr
  rw [unit_getD] at hd
  by_cases c : d < dd ∧ d = a
  · obtain ⟨c1, rfl⟩ := c
    have hw : w < ww := by rw [← hl]; exact (List.getElem?_eq_some_iff.mp ea).1
    have := (best_unit h hw c1).mp (ha w d ea) e he
    rw [List.getD_eq_getElem?_getD (l := hss), hx] at this
    exact this
  · rw [if_neg c] at hd
    exact absurd rfl hd
end Hr

set_option Elab.async false
set_option linter.all false
set_option maxRecDepth 100000
set_option maxHeartbeats 4000000
namespace Hr
open PySem PySem.Spec PyProof.Rows L2 BX EXB Co Ru
open Dz Cs
open Fr (Bd)
def spChanceP (K : PySem.W.Frag) (C CR : Addr) : Sp := fun vs H Q _ => ∃ (x y : Addr) (i : Nat) (qs : List Rat) (hss tss rss : List (List Rat)) (n m ww dd mm : Nat), vs = [.ref x, .ref y, .int (i : Int)] ∧ Ga K H C CR x y qs hss tss rss n m ww dd mm ∧ i < mm ∧
  ∀ p H', Same H H' → SqT K H' p (rp (wq rss qs i)) → Q (.ref p) H'
def spBeliefsP (K : PySem.W.Frag) (C CR : Addr) : Sp := fun vs H Q _ => ∃ (x y : Addr) (i : Nat) (qs : List Rat) (hss tss rss : List (List Rat)) (n m ww dd mm : Nat), vs = [.ref x, .ref y, .int (i : Int)] ∧ Ga K H C CR x y qs hss tss rss n m ww dd mm ∧ i < mm ∧ wq rss qs i ≠ 0 ∧
  ∀ p cs H', Same H H' → H p = none → H' p = some (.lst cs) → FrN K H' (n + m + ((n + m + 1) * 5 + 1)) cs (belq rss qs i) → Q (.ref p) H'
def spCWithG (K : PySem.W.Frag) (C : Addr) : Sp := fun vs H Q _ => ∃ (x S : Addr) (qs : List Rat) (hss tss : List (List Rat)) (ws : List Rat) (cs : List V) (n m ww dd : Nat), vs = [.ref x, .ref S] ∧ IsCase K H C x qs hss tss n ∧ GoodC qs hss tss ww dd ∧ H S = some (.lst cs) ∧ FrN K H m cs ws ∧ RowOk ww ws ∧ m ≤ n ∧ n ≤ 1000 ∧
  ∀ z H', Same H H' → H z = none → IsCase K H' C z ws hss tss n → Q (.ref z) H'
/-! ### k26 -/
def spWeighed (K : PySem.W.Frag) (C CR : Addr) : Sp := fun vs H Q _ => ∃ (x y : Addr) (qs : List Rat) (hss tss rss : List (List Rat)) (m ww dd : Nat), vs = [.ref x, .ref y] ∧ Ga K H C CR x y qs hss tss rss 43 m ww dd dd ∧ 1 ≤ m ∧ m ≤ 35 ∧ (∀ q ∈ qs, Bd 8 q) ∧
  ∀ p cs H', Same H H' → H p = none → H' p = some (.lst cs) → FauAt K H' cs (faultsL qs hss rss dd dd) → Q (.ref p) H'
def spMixed (K : PySem.W.Frag) (CR : Addr) : Sp := fun vs H Q _ => ∃ (y z pp : Addr) (as bs : List (List Rat)) (p : Rat) (n m k : Nat), vs = [.ref y, .ref z, .ref pp] ∧ IsRule K H CR y as n ∧ IsRule K H CR z bs m ∧ Good as k ∧ Good bs k ∧ as.length = bs.length ∧ SqT K H pp (rp p) ∧ Bd 8 p ∧ 0 ≤ p ∧ p ≤ 1 ∧ n ≤ 100 ∧ m ≤ 100 ∧
  ∀ x H', Same H H' → H x = none → IsRule K H' CR x (mixR p as bs) (n + m + 19) → Q (.ref x) H'
def spBestRule (K : PySem.W.Frag) (C CR : Addr) : Sp := fun vs H Q _ => ∃ (l x : Addr) (z : Int) (qs : List Rat) (hss tss : List (List Rat)) (ww dd : Nat), vs = [.ref l, .ref x] ∧ H l = some (.lst [.int z]) ∧ IsCase K H C x qs hss tss 43 ∧ GoodC qs hss tss ww dd ∧
  ∀ y as z' H', SameB l H H' → H' l = some (.lst [.int z']) → IsRule K H' CR y (bestR as dd) 1 → as.length = ww → (∀ (w a : Nat), as[w]? = some a → a ∈ bestL hss (unit ww w) dd) → Q (.ref y) H'
def spInOne (K : PySem.W.Frag) (C CR : Addr) : Sp := fun vs H Q _ => ∃ (x y : Addr) (qs : List Rat) (hss tss rss : List (List Rat)) (m ww dd : Nat), vs = [.ref x, .ref y] ∧ Ga K H C CR x y qs hss tss rss 43 m ww dd dd ∧ ∀ H', Same H H' → Q (.bl true) H'
theorem bel_ok {rss : List (List Rat)} {qs : List Rat} {i ww : Nat} (hl : qs.length = rss.length) (hw : qs.length = ww) (h1 : ∀ q ∈ qs, 0 ≤ q) (h2 : ∀ r ∈ rss, ∀ q ∈ r, 0 ≤ q) (h0 : wq rss qs i ≠ 0) : RowOk ww (belq rss qs i) := by
  have hp := wq_pos h1 h2 h0
  refine ⟨by unfold belq; rw [List.length_map, prods_len hl, hw], fun q hq => ?_, ?_⟩
  · unfold belq at hq
    obtain ⟨w, hw', rfl⟩ := List.mem_map.mp hq
    rw [Rat.div_def]
    exact Rat.mul_nonneg (prods_nn h1 h2 w hw') (Rat.le_of_lt (Rat.inv_pos.mpr hp))
  · have e : belq rss qs i = (prods rss qs i).map fun o => (wq rss qs i)⁻¹ * o := by
      unfold belq
      refine List.map_congr_left fun w _ => ?_
      rw [Rat.div_def, Rat.mul_comm]
    rw [e, sum_map_mul]
    exact (Rat.mul_comm _ _).trans (Rat.mul_inv_cancel _ h0)
/-- data of what falls short -/
def dF1 (z : Nat × Nat × Rat) : PyData := .tuple [.int (z.1 : Int), .int (z.2.1 : Int), dR z.2.2]
def dF (l : List (Nat × Nat × Rat)) : PyData := .list (l.map dF1)
theorem FauAt.dps {K : PySem.W.Frag} {H : Hp} : ∀ {cs : List V} {l : List (Nat × Nat × Rat)}, FauAt K H cs l → DpAll K H cs (l.map dF1)
  | [], [], _ => .nil
  | [], _ :: _, h => by have := h.1; simp at this
  | _ :: _, [], h => by have := h.1; simp at this
  | v :: cs, z :: l, h => by
    obtain ⟨d, e, m, t, p, e1, rfl, e3, e4⟩ := h.2 0 v rfl
    have ez : z = (d, e, m) := Option.some.inj e1
    subst ez
    exact .cons (.tup e3 (.cons (.int _) (.cons (.int _) (.cons (dp_r e4) .nil)))) (FauAt.dps ⟨by have := h.1; simpa using this, fun j x ej => h.2 (j + 1) x ej⟩)
theorem dF_lays : ∀ l : List (Nat × Nat × Rat), PyData.canLayAll0 (l.map dF1) = true
  | [] => rfl
  | z :: l => by
    show ((dF1 z).canLay0 && PyData.canLayAll0 (l.map dF1)) = true
    rw [dF_lays l]
    rfl
theorem dF_deps : ∀ l : List (Nat × Nat × Rat), PyData.depthAll (l.map dF1) ≤ 2
  | [] => by decide
  | z :: l => by
    have := dF_deps l
    have h : PyData.depth (dF1 z) = 2 := rfl
    show max (PyData.depth (dF1 z)) (PyData.depthAll (l.map dF1)) ≤ 2
    omega
theorem dF_lay (l : List (Nat × Nat × Rat)) : (dF l).canLay0 = true := dF_lays l
theorem dF_shaped (l : List (Nat × Nat × Rat)) : SeqAt.shaped (dF l) = true := by
  unfold SeqAt.shaped
  rw [dF_lay, Bool.true_and]
  refine decide_eq_true ?_
  have := dF_deps l
  show PyData.depthAll (l.map dF1) + 1 ≤ 64
  omega
theorem in_ds (d : Nat) : ∀ l : List Nat, inV (.int (d : Int)) (dsV l) = decide (d ∈ l)
  | [] => rfl
  | x :: l => by
    have e : inV (.int (d : Int)) (dsV (x :: l)) = (eqV (.int (x : Int)) (.int (d : Int)) || inV (.int (d : Int)) (dsV l)) := rfl
    rw [e, in_ds d l, Bool.eq_iff_iff, Bool.or_eq_true, decide_eq_true_eq, decide_eq_true_eq, List.mem_cons]
    have h : eqV (.int (x : Int)) (.int (d : Int)) = true ↔ d = x := by
      show ((x : Int) == (d : Int)) = true ↔ _
      rw [beq_iff_eq]
      constructor
      · intro z; omega
      · intro z; omega
    rw [h]
theorem ds_flat' (l : List Nat) : (dsV l).all flatV = true := List.all_eq_true.mpr fun v hv => by
  obtain ⟨p, _, rfl⟩ := List.mem_map.mp hv
  rfl
/-- data of numbers -/
def dNs (ps : List Nat) : PyData := .list (ps.map fun (d : Nat) => PyData.int (d : Int))
theorem dNs_lays : ∀ ps : List Nat, PyData.canLayAll0 (ps.map fun (d : Nat) => PyData.int (d : Int)) = true
  | [] => rfl
  | p :: ps => by
    show (true && PyData.canLayAll0 (ps.map fun (d : Nat) => PyData.int (d : Int))) = true
    rw [dNs_lays ps]
    rfl
theorem dNs_deps : ∀ ps : List Nat, PyData.depthAll (ps.map fun (d : Nat) => PyData.int (d : Int)) ≤ 0
  | [] => by decide
  | p :: ps => by
    have := dNs_deps ps
    show max 0 (PyData.depthAll (ps.map fun (d : Nat) => PyData.int (d : Int))) ≤ 0
    omega
theorem dNs_shaped (ps : List Nat) : SeqAt.shaped (dNs ps) = true := by
  unfold SeqAt.shaped
  have h : (dNs ps).canLay0 = true := dNs_lays ps
  rw [h, Bool.true_and]
  refine decide_eq_true ?_
  have := dNs_deps ps
  show PyData.depthAll (ps.map fun (d : Nat) => PyData.int (d : Int)) + 1 ≤ 64
  omega
theorem dNs_nil (ps : List Nat) : PyData.eqv (dNs ps) (.list []) = decide (ps = []) := by
  cases ps with
  | nil => rfl
  | cons p ps => rfl
theorem part7 {d : Int} (h0 : 0 ≤ d) (h8 : d < 8) : 0 ≤ Rat.divInt d 7 ∧ Rat.divInt d 7 ≤ 1 ∧ Bd 8 (Rat.divInt d 7) := by
  have : d = 0 ∨ d = 1 ∨ d = 2 ∨ d = 3 ∨ d = 4 ∨ d = 5 ∨ d = 6 ∨ d = 7 := by omega
  have b : Bd 8 (Rat.divInt d 7) := Fr.bd_low (Nat.lt_of_le_of_lt (show d.natAbs ≤ 7 by omega) (by decide)) (by decide) (by decide)
  refine ⟨?_, ?_, b⟩
  · exact Rs.divInt_nn h0 (by decide)
  · clear b
    rcases this with rfl | rfl | rfl | rfl | rfl | rfl | rfl | rfl <;> decide +kernel
/-- a rule with some bound -/
def RuX (K : PySem.W.Frag) (H : Hp) (CR : Addr) (v : V) (ww dd : Nat) : Prop := ∃ (y : Addr) (rss : List (List Rat)) (m : Nat), v = .ref y ∧ IsRule K H CR y rss m ∧ 1 ≤ m ∧ m ≤ 35 ∧ Good rss dd ∧ rss.length = ww
theorem RuX.same {K : PySem.W.Frag} {H H' : Hp} {CR : Addr} {v : V} {ww dd : Nat} (h : RuX K H CR v ww dd) (s : Same H H') : RuX K H' CR v ww dd :=
  let ⟨y, rss, m, a, b, c⟩ := h; ⟨y, rss, m, a, b.same s, c⟩
end Hr

set_option Elab.async false
set_option linter.all false
set_option maxRecDepth 100000
set_option maxHeartbeats 4000000
namespace BX
open PySem PySem.Spec PyProof.Rows L2
def tMethD (C : Addr) (m : Str) (sp : Sp) (dvs : List V) (E : L2.St → XK) (ta : TE) (t : TA) : TE := fun σ H Q => ta σ H fun x H1 => ∃ a dx fs, x = .ref a ∧ H1 a = some (.ins C dx fs) ∧ fs.lookup m = none ∧ t σ H1 fun vs H2 => sp (x :: (vs ++ dvs)) H2 Q (E σ)
section
variable {X : Cx} {CX : CXT} {k : Nat} {f C : Addr} {fd : FuncData} {ps : List Str} {sp : Sp} {E : L2.St → XK} {m : Str} {apos pos : Pos} {o e : Expr} {es : List Expr} {ta : TE} {t : TA} {ds : List Value} {dvs : List V}
/-- o.m(e, ..), what it raises being wished for at the caller's slots -/
theorem pe_methD {pl : Sem Bool} (c : Cls X.K C) (hm : Meth X.K C m f) (F : FnOk X.prog X.w X.K X.mg X.base CX k f fd ps sp) (hr : Room k X.A) (hb : Binds X.K fd ps ds) (hd : Vals dvs ds) (hx : ∀ σ, PassesAt CX X σ (E σ)) (he : PE X o ta) (ha : PA X (e :: es) t) (hst : starEach (e :: es) X.env = (false, eval e X.env) :: starEach es X.env := by rfl) (hpl : (backTo pos (starEach es X.env)).any (·.1) = false := by rfl)
    (ht : eval (.Call (.Attribute o m apos) (e :: es) [] pos) X.env = (do let ov ← eval o X.env; standAt apos.atName; let (f, first) ← holding [ov] (getMethod ov m pl); callWith pos f first (backTo pos (starEach (e :: es) X.env)) (backToKw pos (keywordEach [] X.env))) := by rfl) :
    PE X (.Call (.Attribute o m apos) (e :: es) [] pos) (tMethD C m sp dvs E ta t) := by
  refine ⟨fun pins s σ H Q I h => ?_⟩
  refine PySem.W.methodCall_KW (pl := pl) (thn (he.run pins s σ H _ I h) fun u s1 ⟨x, H1, I1, rx, a, dx, fs, ex, ea, l, q⟩ => ?_) ht
  subst ex
  obtain rfl : u = Value.ref a := rx
  refine getmeth_ok I1 ea c hm l ?_
  refine PySem.W.callWith_K (first := [.ref a]) (h₀ := X.base) I.ok.mod.kin hm.kp (thn (ha.run pos pins s1 σ H1 _ I1 q) fun us s2 ⟨vs, H2, I2, r, q2⟩ => ⟨I2.kIn, ?_⟩) hst hpl
  have r2 : Vals (V.ref a :: (vs ++ dvs)) (Value.ref a :: (us ++ ds)) := .cons rfl (r.append hd)
  have hl : (Value.ref a :: us ++ ds).length = ps.length := by
    have z := r2.length
    rw [F.len _ _ _ _ q2] at z
    exact z.symm
  refine wpAny_call (codeAny_mono (F.run X.A X.stack s2 H2 ⟨Value.ref a :: us, []⟩ (Value.ref a :: (us ++ ds)) _ Q (E σ) hr I2.env0 (hb s2 (Value.ref a :: us) I2.kIn hl) r2 q2) fun r s' hq => ?_)
  cases r with
  | error er => exact hx σ pins _ _ er s' I2 hq
  | ok fl =>
    cases fl with
    | ret u => exact I2.after hq
    | next => exact False.elim hq
    | brk => exact False.elim hq
    | cont => exact False.elim hq
end
end BX

set_option Elab.async false
set_option linter.all false
set_option maxRecDepth 100000
set_option maxHeartbeats 4000000
namespace BX
open PySem PySem.Spec PyProof.Rows L2
/-- o.m(.., k = v, ..) -/
def tMethN (C : Addr) (m : Str) (n j : Nat) (sp : Sp) (gV : List V → List V → List V) (E : L2.St → XK) (ta : TE) (t tk : TA) : TE := fun σ H Q => ta σ H fun x H1 => ∃ a dx fs, x = .ref a ∧ H1 a = some (.ins C dx fs) ∧ fs.lookup m = none ∧ t σ H1 fun vs H2 => tk σ H2 fun zs H3 => vs.length = n ∧ zs.length = j ∧ sp (gV (x :: vs) zs) H3 Q (E σ)
section
variable {X : Cx} {CX : CXT} {k n : Nat} {f C : Addr} {fd : FuncData} {ps ks : List Str} {sp : Sp} {m : Str} {apos pos : Pos} {o e : Expr} {es : List Expr} {ta : TE} {t tk : TA} {kws : List Keyword} {g : List Value → List Value → List Value} {gV : List V → List V → List V}
theorem run_fnX {E : XK} {pins : List (Addr × Obj)} {σ : L2.St} {H : Hp} {s : Shared} {Q : VK} {us ws : List Value} {vs zs : List V} (F : FnOk X.prog X.w X.K X.mg X.base CX k f fd ps sp) (hr : Room k X.A) (hb : KBn X.K fd ps n ks g gV) (hx : PassesAt CX X σ E)
    (I : Inv X pins σ H s) (r : Vals vs us) (rz : Vals zs ws) (l1 : vs.length = n) (l2 : zs.length = ks.length) (h : sp (gV vs zs) H Q E) : wpAny (model X.prog X.w) X.A (call (.ref f) us (ks.zip ws)) (EP X pins σ Q) X.xe s := by
  have r2 := hb.rel r rz
  refine wpAny_call (codeAny_mono (F.run X.A X.stack s H ⟨us, ks.zip ws⟩ (g us ws) (gV vs zs) Q E hr I.env0 (hb.to s us ws I.kIn (r.length.symm.trans l1) (rz.length.symm.trans l2)) r2 h) fun r s' hq => ?_)
  cases r with
  | error er => exact hx pins _ _ er s' I hq
  | ok fl =>
    cases fl with
    | ret u => exact I.after hq
    | next => exact False.elim hq
    | brk => exact False.elim hq
    | cont => exact False.elim hq
theorem pe_methN {E : L2.St → XK} {pl : Sem Bool} (c : Cls X.K C) (hm : Meth X.K C m f) (F : FnOk X.prog X.w X.K X.mg X.base CX k f fd ps sp) (hr : Room k X.A) (hb : KBn X.K fd ps (n + 1) ks g gV) (hx : ∀ σ, PassesAt CX X σ (E σ)) (he : PE X o ta) (ha : PA X (e :: es) t) (hkw : PK X kws tk)
    (hall : (backToKw pos (keywordEach kws X.env)).all (·.1.isSome) = true := by rfl) (hks : (backToKw pos (keywordEach kws X.env)).filterMap (·.1) = ks := by rfl) (hst : starEach (e :: es) X.env = (false, eval e X.env) :: starEach es X.env := by rfl)
    (hpl : ((backTo pos (starEach (e :: es) X.env)).any (·.1) || (backToKw pos (keywordEach kws X.env)).any (·.1.isNone)) = false := by rfl)
    (ht : eval (.Call (.Attribute o m apos) (e :: es) kws pos) X.env = (do let ov ← eval o X.env; standAt apos.atName; let (f, first) ← holding [ov] (getMethod ov m pl); callWith pos f first (backTo pos (starEach (e :: es) X.env)) (backToKw pos (keywordEach kws X.env))) := by rfl) :
    PE X (.Call (.Attribute o m apos) (e :: es) kws pos) (tMethN C m n ks.length sp gV E ta t tk) := by
  refine ⟨fun pins s σ H Q I h => ?_⟩
  refine PySem.W.methodCall_KW (pl := pl) (thn (he.run pins s σ H _ I h) fun u s1 ⟨x, H1, I1, rx, a, dx, fs, ex, ea, l, q⟩ => ?_) ht
  subst ex
  obtain rfl : u = Value.ref a := rx
  refine getmeth_ok I1 ea c hm l ?_
  refine PySem.W.callWith_KW (first := [.ref a]) (h₀ := X.base) I.ok.mod.kin hm.kp hall (thn (ha.run pos pins s1 σ H1 _ I1 q) fun us s2 ⟨vs, H2, I2, r, q2⟩ => ?_) hpl hst
  refine thn (hkw.run pos pins s2 σ H2 _ I2 q2) fun ws s3 ⟨zs, H3, I3, rz, l1, l2, q3⟩ => ⟨I3.kIn, ?_⟩
  rw [hks]
  exact run_fnX (us := .ref a :: us) (vs := .ref a :: vs) F hr hb (hx σ) I3 (.cons rfl r) rz (by rw [List.length_cons, l1]) l2 q3
/-- o.m(k = v, ..), by names alone -/
theorem pe_methN0 {E : L2.St → XK} {pl : Sem Bool} (c : Cls X.K C) (hm : Meth X.K C m f) (F : FnOk X.prog X.w X.K X.mg X.base CX k f fd ps sp) (hr : Room k X.A) (hb : KBn X.K fd ps 1 ks g gV) (hx : ∀ σ, PassesAt CX X σ (E σ)) (he : PE X o ta) (hkw : PK X kws tk)
    (hall : (backToKw pos (keywordEach kws X.env)).all (·.1.isSome) = true := by rfl) (hks : (backToKw pos (keywordEach kws X.env)).filterMap (·.1) = ks := by rfl)
    (hpl : ((backTo pos (starEach [] X.env)).any (·.1) || (backToKw pos (keywordEach kws X.env)).any (·.1.isNone)) = false := by rfl)
    (ht : eval (.Call (.Attribute o m apos) [] kws pos) X.env = (do let ov ← eval o X.env; standAt apos.atName; let (f, first) ← holding [ov] (getMethod ov m pl); callWith pos f first (backTo pos (starEach [] X.env)) (backToKw pos (keywordEach kws X.env))) := by rfl) :
    PE X (.Call (.Attribute o m apos) [] kws pos) (tMethN C m 0 ks.length sp gV E ta tNil tk) := by
  refine ⟨fun pins s σ H Q I h => ?_⟩
  refine PySem.W.methodCall_KW (pl := pl) (thn (he.run pins s σ H _ I h) fun u s1 ⟨x, H1, I1, rx, a, dx, fs, ex, ea, l, q⟩ => ?_) ht
  subst ex
  obtain rfl : u = Value.ref a := rx
  refine getmeth_ok I1 ea c hm l ?_
  refine PySem.W.callWith_KW0 (first := [.ref a]) (h₀ := X.base) I.ok.mod.kin hm.kp hall (thn (hkw.run pos pins s1 σ H1 _ I1 q) fun ws s3 ⟨zs, H3, I3, rz, l1, l2, q3⟩ => ⟨I3.kIn, ?_⟩) hpl
  rw [hks]
  exact run_fnX (us := [.ref a]) (vs := [.ref a]) F hr hb (hx σ) I3 (.cons rfl .nil) rz rfl l2 q3
end
end BX

set_option Elab.async false
set_option linter.all false
set_option maxRecDepth 100000
set_option maxHeartbeats 4000000
namespace Ru
open PySem PySem.Spec PyProof.Rows L2 BX EXB Co
section
variable {prog : Program} {w : World} {A : Around} {E : Value → Shared → Prop} {h : Heap} {g : Array GenState} {d : Drawn} {t : Nat} {os : OsState}
/-- a comparison by an own special def of the left thing, whatever stands on the right, so long as its type is none of the left one's heirs -/
theorem rich_ask {op : CmpOp} {sym : String} {f r : Str} {x C : Addr} {v tv : Value} {Q : Value → Shared → Prop} (hop : cmpInfo op = (sym, f, r)) {o : Obj} (px : h.get? x = some o) (pc : o.cls = .ref C)
    (ty : ∀ P : Value → Shared → Prop, P tv ⟨h, g, d, t, os⟩ → wpAny (model prog w) A (typeOf v) P E ⟨h, g, d, t, os⟩)
    (sb : ∀ (k : Bool → Sem Value) (P : Value → Shared → Prop), wpAny (model prog w) A (k false) P E ⟨h, g, d, t, os⟩ → wpAny (model prog w) A (if Value.ref C != tv then isSubtype tv (.ref C) >>= k else pure false >>= k) P E ⟨h, g, d, t, os⟩) (room : A.units < cLine)
    (ask : wpAny (model prog w) A (tryCompare (.ref x) f v) (fun a s' => ∃ u, a = some u ∧ Q u s') E ⟨h, g, d, t, os⟩) : wpAny (model prog w) A (richCompare op (.ref x) v) Q E ⟨h, g, d, t, os⟩ := by
  unfold richCompare
  simp only [oneThing_ref]
  refine wpAny_holding (wpAny_bind (wpAny_cRoomFor room ?_))
  rw [hop]
  dsimp only
  refine wpAny_bind (wpAny_typeOf_ref px ?_)
  rw [pc]
  refine wpAny_bind (ty _ (sb _ _ ?_))
  simp only [Bool.false_eq_true, if_false]
  refine wpAny_bind (wpAny_mono ask (fun a s' ha => ?_) fun _ _ e => e)
  obtain ⟨u, rfl, q⟩ := ha
  exact wpAny_pure q
/-- the right one is of a type of the language -/
theorem sb_type {C : Addr} {T : String} {m : List Value} (e : fastBuiltinMro T = some m) (n : m.contains (.ref C) = false) (k : Bool → Sem Value) (P : Value → Shared → Prop) (q : wpAny (model prog w) A (k false) P E ⟨h, g, d, t, os⟩) :
    wpAny (model prog w) A (if Value.ref C != Value.type T then isSubtype (.type T) (.ref C) >>= k else pure false >>= k) P E ⟨h, g, d, t, os⟩ := by
  rw [if_pos (by rfl), isSubtype_type, e]
  dsimp only
  rw [n]
  exact wpAny_bind (wpAny_pure q)
theorem mro_noref {C : Addr} {T : String} {m : List Value} (e : fastBuiltinMro T = some m) : m.contains (.ref C) = false := by
  unfold fastBuiltinMro at e
  obtain ⟨r, _, rfl⟩ := Option.map_eq_some_iff.mp e
  have : ∀ l : List String, (l.map Value.type).contains (.ref C) = false := fun l => by
    induction l with
    | nil => rfl
    | cons a l ih => rw [List.map_cons, List.contains_cons, ih]; rfl
  exact this _
/-- == asks the own __eq__ -/
theorem eq_ask {x C fA : Addr} {B : String} {v : Value} {Q : Value → Shared → Prop} (X : h.OwnSpecial x C fA B "__eq__") (c : wpAny (model prog w) A (call (.ref fA) [.ref x, v]) (fun u s' => ∃ b, u = .bool b ∧ Q u s') E ⟨h, g, d, t, os⟩) :
    wpAny (model prog w) A (tryCompare (.ref x) "__eq__" v) (fun a s' => ∃ u, a = some u ∧ Q u s') E ⟨h, g, d, t, os⟩ := by
  unfold tryCompare
  refine wpAny_bind (wpAny_callSpecialIfBound?_own X (wpAny_mono c (fun u s' hu => ?_) fun _ _ z => z))
  obtain ⟨b, rfl, q⟩ := hu
  exact wpAny_pure ⟨_, rfl, q⟩
/-- the other's != for a class with an own __eq__ alone -/
theorem ne_body {x C f : Addr} {B : String} {bm : List Value} {v : Value} (X : h.OwnEqNoNe x C f B bm) (room : A.units < cLine) {Q : Fin → Shared → Prop} (c : wpAny (model prog w) A (call (.ref f) [.ref x, v]) (fun u s' => ∃ b, u = .bool b ∧ Q (.done (.ret (.bool (!b)))) s') E ⟨h, g, d, t, os⟩) :
    wpAny (model prog w) A (Builtin.«object.__ne__» ⟨[.ref x, v], []⟩) Q E ⟨h, g, d, t, os⟩ := by
  unfold Builtin.«object.__ne__»
  repeat (first
    | with_reducible refine wpAny_cRoomFor room ?_
    | (refine wpAny_bind (m := callSpecialIfBound? (.ref x) (Str.ofString "__eq__") [v]) (wpAny_callSpecialIfBound?_own X.ownEq (wpAny_mono c (fun u s' hu => by
          obtain ⟨b, rfl, q⟩ := hu
          repeat (first | exact q | exact wpAny_pure q | exact wpAny_truthy_bool q | (refine wpAny_bind (m := truthy (.bool _)) (wpAny_truthy_bool ?_)) | wp_step)) fun _ _ z => z)))
    | wp_step)
theorem ne_ask {x C f : Addr} {B : String} {bm : List Value} {v : Value} {Q : Value → Shared → Prop} (FB : CmpFacts B bm) (X : h.OwnEqNoNe x C f B bm) (room : A.units + 1 < cLine) (c : wpAny (model prog w) A.in1 (call (.ref f) [.ref x, v]) (fun u s' => ∃ b, u = .bool b ∧ Q (.bool (!b)) s') E ⟨h, g, d, t, os⟩) :
    wpAny (model prog w) A (tryCompare (.ref x) "__ne__" v) (fun a s' => ∃ u, a = some u ∧ Q u s') E ⟨h, g, d, t, os⟩ := by
  obtain ⟨o, _, nm, q, N, bs, hdct, sn, sub, ab, col, dd, k0, k1, k2, k3, k5, newId, mN, _, px, pc, pC, pn, _, _, _, _, _, pe⟩ := id X
  simp only [tryCompare]
  refine wpAny_bind (wpAny_callSpecialIfBound?_inst px pc pC pn pe FB.mro FB.ne (wpAny_call (codeAny_call_builtin FB.ne.plain F.cmpEntry_ne (wpAny_check_slot_inst F.cmpKind_ne F.cmpSplit_ne (F.cmpArgs_ne _ _) FB.hasObject px pc pC (ne_body (A := A.in1) X room (wpAny_mono c (fun u s' hu => ?_) fun _ _ z => z))))))
  obtain ⟨b, rfl, q⟩ := hu
  first | exact ⟨b, rfl, wpAny_pure ⟨_, rfl, q⟩⟩ | exact ⟨b, rfl, wpAny_pure (wpAny_pure ⟨_, rfl, q⟩)⟩
end
/-- what may stand on the right: nothing, a truth, a whole number, a text, a list, a tuple, or an instance of a plain own class -/
def Rt (K : PySem.W.Frag) (H : Hp) (y : V) : Prop := y = .non ∨ (∃ b, y = .bl b) ∨ (∃ i, y = .int i) ∨ (∃ z, y = .str z) ∨ (∃ a xs, y = .ref a ∧ H a = some (.lst xs)) ∨ (∃ a xs, y = .ref a ∧ SqT K H a xs) ∨ ∃ a D dx fs f, y = .ref a ∧ H a = some (.ins D dx fs) ∧ NeC K D f
section
variable {X : Cx} {pins : List (Addr × Obj)} {σ : L2.St} {H : Hp} {s : Shared} {A : Around} {E : Value → Shared → Prop}
def Tyd (X : Cx) (A : Around) (E : Value → Shared → Prop) (s : Shared) (u : Value) : Prop := ∃ tv : Value, (∀ P : Value → Shared → Prop, P tv s → wpAny (model X.prog X.w) A (typeOf u) P E s) ∧
  ∀ (C : Addr) (k : Bool → Sem Value) (P : Value → Shared → Prop), wpAny (model X.prog X.w) A (k false) P E s → wpAny (model X.prog X.w) A (if Value.ref C != tv then isSubtype tv (.ref C) >>= k else pure false >>= k) P E s
theorem tyd_b {u : Value} {T : String} (e0 : (fastBuiltinMro T).isSome = true) (h : ∀ P : Value → Shared → Prop, P (.type T) s → wpAny (model X.prog X.w) A (typeOf u) P E s) : Tyd X A E s u := by
  obtain ⟨m, e⟩ := Option.isSome_iff_exists.mp e0
  obtain ⟨hp, g, d, t, os⟩ := s
  exact ⟨.type T, h, fun C k P q => sb_type e (mro_noref e) k P q⟩
theorem rt_ty (I : Inv X pins σ H s) {y : V} {u : Value} (h : Rt X.K H y) (r : RelV y u) : Tyd X A E s u := by
  rcases h with rfl | ⟨b, rfl⟩ | ⟨i, rfl⟩ | ⟨z, rfl⟩ | ⟨a, xs, rfl, e⟩ | ⟨a, xs, rfl, e⟩ | ⟨a, D, dx, fs, f, rfl, e, N⟩
  · cases (show u = Value.none from r)
    exact tyd_b (T := "NoneType") (by decide +kernel) fun P q => by simp only [typeOf]; exact wpAny_pure q
  · cases (show u = Value.bool b from r)
    exact tyd_b (T := "bool") (by decide +kernel) fun P q => by simp only [typeOf]; exact wpAny_pure q
  · obtain ⟨t, rfl⟩ := r
    exact tyd_b (T := "int") (by decide +kernel) fun P q => by simp only [typeOf]; exact wpAny_pure q
  · obtain ⟨t, rfl⟩ := r
    exact tyd_b (T := "str") (by decide +kernel) fun P q => by simp only [typeOf]; exact wpAny_pure q
  · cases (show u = Value.ref a from r)
    obtain ⟨_, its, n, _, _, ea⟩ := I.lstM e
    exact tyd_b (T := "list") (by decide +kernel) fun P q => wpAny_typeOf_ref ea q
  · cases (show u = Value.ref a from r)
    obtain ⟨its, _, ⟨o, ea, ec, _⟩, _⟩ := I.tuple e
    exact tyd_b (T := "tuple") (by decide +kernel) fun P q => wpAny_typeOf_ref ea (by rw [ec]; exact q)
  · cases (show u = Value.ref a from r)
    obtain ⟨nm, q, N', bs, hdct, sn, sub, ab, col, dd, k0, k1, k2, k3, k5, newId, hC, _⟩ := N.cls
    obtain ⟨mA, J, _⟩ := ins_get I.hok e
    obtain ⟨od, J, _⟩ := J.look
    have gD := I.kIn _ _ hC
    have ja := J.at_
    have jc := J.cls
    obtain ⟨hp, g, d, t, os⟩ := s
    refine ⟨.ref D, fun P p => wpAny_typeOf_ref ja (by rw [jc]; exact p), fun C k P p => wpAny_rightFirst_false (fun a => by first | rfl | simp) gD p⟩
/-- x == y (x != y), x an instance of the class at C with its own __eq__ alone, y of another kind or of its own -/
def rAsk (K : PySem.W.Frag) (C : Addr) (sp : Sp) (g : Bool → Bool) : R2 := fun x y H Q => ∃ (a dx : Addr) (fs : List (Str × V)), x = .ref a ∧ H a = some (.ins C dx fs) ∧ Rt K H y ∧ sp [.ref a, y] H (fun v H' => ∃ c : Bool, v = .bl c ∧ Q (.bl (g c)) H') E0
theorem own_ne {C f : Addr} {a dx : Addr} {fs : List (Str × V)} (T : NeC X.K C f) (I : Inv X pins σ H s) (ha : H a = some (.ins C dx fs)) : s.heap.OwnEqNoNe a C f "object" [.type "object"] ∧ ∃ o : Obj, s.heap.get? a = some o ∧ o.cls = .ref C := by
  obtain ⟨nm, q, N, bs, hdct, sn, sub, ab, col, dd, k0, k1, k2, k3, k5, newId, hC, ok, heq, hne⟩ := T.cls
  obtain ⟨oF, hF, hFc⟩ := T.fn
  obtain ⟨mA, J, _⟩ := ins_get I.hok ha
  obtain ⟨od, J, _⟩ := J.look
  have hns : s.heap.Ns N (s.heap.nsMap N) := .of_isNs (PySem.W.isNs_of_in I.kIn ok)
  exact ⟨⟨_, _, nm, q, N, bs, hdct, sn, sub, ab, col, dd, k0, k1, k2, k3, k5, newId, _, _, J.at_, J.cls, I.kIn _ _ hC, hns, ns_some I.kIn hns heq, I.kIn _ _ hF, hFc, PySem.F.cmp_object.mro, PySem.F.cmp_object.eq.lookup, PySem.W.ns_none_of I.kIn hns hne⟩, _, J.at_, J.cls⟩
/-- the own __eq__, asked -/
theorem ask_run {f : Addr} {fd : FuncData} {k : Nat} {sp : Sp} {ps : List Str} {B : Around} (F : FnOk X.prog X.w X.K X.mg X.base CX0 k f fd ps sp) (hr : Room k B) (fr : B = X.A ∨ B = X.A.in1) (hb : Binds X.K fd ps []) (I : Inv X pins σ H s) {a : Addr} {y : V} {u : Value} (ry : RelV y u) {Q : Bool → VK} (hq : sp [.ref a, y] H (fun v H' => ∃ c : Bool, v = .bl c ∧ Q c (.bl c) H') E0) {E2 : Value → Shared → Prop} :
    wpAny (model X.prog X.w) B (call (.ref f) [.ref a, u]) (fun z s' => ∃ b, z = .bool b ∧ ∃ H', Inv X pins σ H' s' ∧ Q b (.bl b) H') E2 s := by
  have e0 : Env0 X.prog X.w X.K X.mg X.base B X.stack s H := by
    rcases fr with e | e
    · rw [e]; exact I.env0
    · rw [e]
      have z := I.env0
      exact ⟨z.frames, z.mod, z.bs, z.bsz, z.funs, z.frf, z.hok, z.bare⟩
  have hl := F.len _ _ _ _ hq
  have r2 : Vals [V.ref a, y] [Value.ref a, u] := .cons rfl (.cons ry .nil)
  refine wpAny_call (codeAny_mono (F.run B X.stack _ H ⟨[.ref a, u], []⟩ [.ref a, u] [.ref a, y] _ (fun _ _ _ => False) hr e0 (by
    have := hb s [.ref a, u] I.kIn (by simpa using hl)
    simpa using this) r2 hq) fun r s' hq' => ?_)
  cases r with
  | error e => exact False.elim hq'
  | ok fl =>
    cases fl with
    | ret z =>
      obtain ⟨v, H', I', rz, c, ez, q'⟩ := I.after hq'
      subst ez
      cases (show z = Value.bool c from rz)
      exact ⟨c, rfl, H', I', q'⟩
    | next => exact False.elim hq'
    | brk => exact False.elim hq'
    | cont => exact False.elim hq'
theorem op_eqA {C f : Addr} {fd : FuncData} {k : Nat} {sp : Sp} {ps : List Str} (T : NeC X.K C f) (F : FnOk X.prog X.w X.K X.mg X.base CX0 k f fd ps sp) (hr : Room (k + 1) X.A) (hb : Binds X.K fd ps []) : OpR X (compareOp .Eq) (rAsk X.K C sp id) := by
  intro pins s σ H x y v u Q I rx ry h
  obtain ⟨a, dx, fs, rfl, ha, hy, hq⟩ := h
  cases (show v = Value.ref a from rx)
  obtain ⟨Y, o, px, pc⟩ := own_ne T I ha
  obtain ⟨tv, ty, sb⟩ := rt_ty (A := X.A) (E := X.xe) I hy ry
  have c := ask_run (E2 := X.xe) F (hr.mono (by omega)) (.inl rfl) hb I ry (Q := fun b _ H' => Q (.bl b) H') hq
  obtain ⟨hp, g, d, t, os⟩ := s
  unfold compareOp
  refine rich_ask cmpInfo_Eq px pc ty (sb C) (by have := hr.un; omega) (eq_ask Y.ownEq (wpAny_mono c (fun z s' hz => ?_) fun _ _ e => e))
  obtain ⟨b, rfl, H', I', q⟩ := hz
  exact ⟨b, rfl, .bl b, H', I', rfl, q⟩
theorem op_neA {C f : Addr} {fd : FuncData} {k : Nat} {sp : Sp} {ps : List Str} (T : NeC X.K C f) (F : FnOk X.prog X.w X.K X.mg X.base CX0 k f fd ps sp) (hr : Room (k + 1) X.A) (hb : Binds X.K fd ps []) : OpR X (compareOp .NotEq) (rAsk X.K C sp not) := by
  intro pins s σ H x y v u Q I rx ry h
  obtain ⟨a, dx, fs, rfl, ha, hy, hq⟩ := h
  cases (show v = Value.ref a from rx)
  obtain ⟨Y, o, px, pc⟩ := own_ne T I ha
  obtain ⟨tv, ty, sb⟩ := rt_ty (A := X.A) (E := X.xe) I hy ry
  have c := ask_run (E2 := X.xe) F hr.in1 (.inr rfl) hb I ry (Q := fun b _ H' => Q (.bl (!b)) H') hq
  obtain ⟨hp, g, d, t, os⟩ := s
  unfold compareOp
  refine rich_ask cmpInfo_NotEq px pc ty (sb C) (by have := hr.un; omega) (ne_ask PySem.F.cmp_object Y (by have := hr.un; omega) (wpAny_mono c (fun z s' hz => ?_) fun _ _ e => e))
  obtain ⟨b, rfl, H', I', q⟩ := hz
  exact ⟨b, rfl, .bl (!b), H', I', rfl, q⟩
end
end Ru

set_option Elab.async false
set_option linter.all false
set_option maxRecDepth 100000
set_option maxHeartbeats 4000000
/-! str(x), repr(x) of an own class's instance; an f-string's own list; x in [None, y] -/
namespace Ru
open PySem PySem.Spec PyProof.Rows L2 BX EXB Co
def rTxO (C : Addr) (sp : Sp) : List V → Hp → VK → Prop := fun xs H Q => ∃ (x dx : Addr) (fs : List (Str × V)), xs = [.ref x] ∧ H x = some (.ins C dx fs) ∧ sp [.ref x] H (fun v H' => ∃ z : Str, v = .str z ∧ Q (.str z) H') (fun _ _ _ => False)
section
variable {X : Cx} {pins : List (Addr × Obj)} {σ : L2.St} {H : Hp} {s : Shared}
theorem env_in1 {B : Around} (e : Env0 X.prog X.w X.K X.mg X.base B X.stack s H) : Env0 X.prog X.w X.K X.mg X.base B.in1 X.stack s H := ⟨e.frames, e.mod, e.bs, e.bsz, e.funs, e.frf, e.hok, e.bare⟩
theorem back_text {r : Result} {s' : Shared} {Q : VK} {E2 : Value → Shared → Prop} (I : Inv X pins σ H s) (hq : CR CX0 X.stack X.prog X.w H s (fun v H' => ∃ z : Str, v = .str z ∧ Q (.str z) H') (fun _ _ _ => False) r s') : wants (PySem.W.StrBack (EP X pins σ Q)) E2 r s' := by
  cases r with
  | error e => exact False.elim hq
  | ok fl =>
    cases fl with
    | ret u =>
      obtain ⟨v, H', I', rz, z, ez, q⟩ := I.after hq
      subst ez
      obtain ⟨t, rfl⟩ := (show ∃ t, u = Value.str z t from rz)
      exact ⟨.str z, H', I', ⟨_, rfl⟩, q⟩
    | next => exact False.elim hq
    | brk => exact False.elim hq
    | cont => exact False.elim hq
/-- str(x), x an instance with its own __str__ -/
theorem call_strO {C f : Addr} {fd : FuncData} {k : Nat} {sp : Sp} (hs : PySem.W.findIn X.K (.ref C) "__str__" = some (some (.ref f))) (hf : PySem.W.isFn X.K (.ref f) = true) (F : FnOk X.prog X.w X.K X.mg X.base CX0 k f fd ["self"] sp) (hr : Room (k + 2) X.A) (hb : Binds X.K fd ["self"] []) :
    CallR X (.type "str") (rTxO C sp) := by
  intro pins s σ H xs us Q I r h
  obtain ⟨x, dx, fs, rfl, hx, hq⟩ := h
  cases r with
  | @cons _ u _ _ ru rn =>
    cases rn
    cases (show u = Value.ref x from ru)
    obtain ⟨mA, J, _⟩ := ins_get I.hok hx
    obtain ⟨od, J, _⟩ := J.look
    have e0 := env_in1 (env_in1 I.env0)
    have r2 : Vals [V.ref x] [Value.ref x] := .cons rfl .nil
    refine PySem.W.kso_call (hr.in1.in1.units0) I.kIn J hs hf ?_
    exact wpAny_call (codeAny_mono (F.run _ X.stack s H ⟨[.ref x], []⟩ [.ref x] [.ref x] _ (fun _ _ _ => False) hr.in1.in1 e0 (by
      have := hb s [.ref x] I.kIn rfl
      simpa using this) r2 hq) fun r s' hq' => back_text I hq')
/-- repr(x), x an instance with its own __repr__ -/
theorem call_reprOw {C f : Addr} {fd : FuncData} {k : Nat} {sp : Sp} (hs : PySem.W.findIn X.K (.ref C) "__repr__" = some (some (.ref f))) (hf : PySem.W.isFn X.K (.ref f) = true) (F : FnOkG X.prog X.w X.K X.mg X.base CX0 k f fd ["self"] sp) (hr : Room (k + 1) X.A) (hgd : X.A.guards = some []) (hb : Binds X.K fd ["self"] []) :
    CallR X (.builtin "repr") (rTxO C sp) := by
  intro pins s σ H xs us Q I r h
  obtain ⟨x, dx, fs, rfl, hx, hq⟩ := h
  cases r with
  | @cons _ u _ _ ru rn =>
    cases rn
    cases (show u = Value.ref x from ru)
    obtain ⟨mA, J, _⟩ := ins_get I.hok hx
    obtain ⟨od, J, _⟩ := J.look
    obtain ⟨m, hF⟩ := I.fr
    have e0 := env_in1 I.env0
    have r2 : Vals [V.ref x] [Value.ref x] := .cons rfl .nil
    refine PySem.W.repr_K (hr.in1.units0) hF I.ok.mod.kin J hs hf ?_
    exact wpAny_call (codeAny_mono (F.run _ X.stack s H ⟨[.ref x], []⟩ [.ref x] [.ref x] _ (fun _ _ _ => False) hr.in1 hgd e0 (by
      have := hb s [.ref x] I.kIn rfl
      simpa using this) r2 hq) fun r s' hq' => back_text I hq')
/-- {x!r}: a list or tuple of data -/
def tFmtD (K : PySem.W.Frag) (te : TE) : TE := fun σ H Q => te σ H fun x H1 => ∃ a d, x = .ref a ∧ Dp K H1 x d ∧ d.showable = true ∧ d.depth ≤ 64 ∧ d.shown.length ≤ sizeLine ∧ Q (.str d.shown) H1
theorem pe_fmtD (hgd : X.A.guards = some []) (hu : X.A.units + 80 < cLine) {e : Expr} {te : TE} {pos : Pos} (he : PE X e te) : PE X (.FormattedValue e 114 none pos) (tFmtD X.K te) := by
  refine ⟨fun pins s σ H Q I h => ?_⟩
  refine wpAny_FormattedValue_repr (thn (he.run pins s σ H _ I h) fun v s1 hv => ?_)
  obtain ⟨x, H1, I1, r1, a, d, rfl, hd, hs, hdp, hsz, q⟩ := hv
  cases (show v = Value.ref a from r1)
  obtain ⟨as, rd⟩ := Dp.reads I1 _ _ _ hd (show RelV (.ref a) (.ref a) from rfl)
  have nd := noDict d _ hd
  refine pyReprObj_of_reads rd hs (fun z => by rw [nd] at z; cases z) hgd (by omega) (fun _ _ z => z) (fun h' u tk hk => ?_) hsz
  exact wpAny_formatField_str ⟨.str d.shown, H1, I1.kept hk, ⟨_, rfl⟩, q⟩ ⟨.str d.shown, H1, (I1.kept (t' := tk) hk).tok _, ⟨_, rfl⟩, q⟩ hsz
end
end Ru

set_option Elab.async false
set_option linter.all false
set_option maxRecDepth 100000
set_option maxHeartbeats 4000000
/-! x in [None, y] by an own __eq__ -/
namespace Ru
open PySem PySem.Spec PyProof.Rows L2 BX EXB Co
open AutoSeq1 (wpAny_loadPart')
open MeetsSeq MeetsSeq2 MeetsSeq3 SeqRoads2 SeqAt
section
variable {prog : Program} {w : World} {A : Around} {R : Result → Shared → Prop}
/-- a turn of `in` over a list whose i-th thing is y -/
theorem in_turn {l : Addr} {items : Array Value} {n : Nat} {x y : Value} {i : Nat} {s : Shared} (hl : s.heap.get? l = some { cls := .type "list", data := .seq items n }) (hi : items[i]? = some y)
    (h : wpAny (model prog w) A.in1 (eqBool y x) (fun b s' => if b = true then R (.ok (.ret (.bool true))) s' else
      wpAny (model prog w) A.in1 (Builtin.«list.__contains__.loop» ⟨[.ref l, x, rawInt (i + 1 : Nat)], []⟩) (GQ.FinOf prog w A R) (fun e s' => R (.error e) s') s') (fun e s' => R (.error e) s') s) :
    wpAny (model prog w) A.in1 (Builtin.«list.__contains__.loop» ⟨[.ref l, x, rawInt i], []⟩) (GQ.FinOf prog w A R) (fun e s' => R (.error e) s') s := by
  obtain ⟨hp, g, d, tk, os⟩ := s
  wp_walk using wpAny_loadPart' hl
  have hi' : items[((i : Nat) : Int).toNat]? = some y := hi
  rw [hi']
  refine wpAny_bind (wpAny_mono h (fun b s2 h2 => ?_) fun _ _ x => x)
  obtain ⟨hp2, g2, d2, tk2, os2⟩ := s2
  cases b with
  | true =>
    wp_walk
    exact h2
  | false =>
    have hc : ((i : Int) + 1) = ((i + 1 : Nat) : Int) := by push_cast; rfl
    wp_walk
    rw [hc]
    exact ⟨plainId_quiet plain_contains_loop _, codeAny_builtin entry_contains_loop (by
      rw [Around.under_plainId plain_contains_loop _]
      exact h2)⟩
theorem in_done {l : Addr} {items : Array Value} {n : Nat} {x : Value} {i : Nat} {s : Shared} (hl : s.heap.get? l = some { cls := .type "list", data := .seq items n }) (hi : items[i]? = none) (h : R (.ok (.ret (.bool false))) s) :
    wpAny (model prog w) A.in1 (Builtin.«list.__contains__.loop» ⟨[.ref l, x, rawInt i], []⟩) (GQ.FinOf prog w A R) (fun e s' => R (.error e) s') s := by
  obtain ⟨hp, g, d, tk, os⟩ := s
  wp_walk using wpAny_loadPart' hl
  have hi' : items[((i : Nat) : Int).toNat]? = none := hi
  rw [hi']
  wp_walk
  exact h
theorem in_begin {l : Addr} {items : Array Value} {n : Nat} {x : Value} {s : Shared} (hl : s.heap.get? l = some { cls := .type "list", data := .seq items n })
    (h : wpAny (model prog w) A.in1 (Builtin.«list.__contains__.loop» ⟨[.ref l, x, rawInt (0 : Nat)], []⟩) (GQ.FinOf prog w A R) (fun e s' => R (.error e) s') s) :
    wpAny (model prog w) A.in1 (Builtin.«list.__contains__» ⟨[.ref l, x], []⟩) (GQ.FinOf prog w A R) (fun e s' => R (.error e) s') s := by
  obtain ⟨hp, g, d, tk, os⟩ := s
  wp_walk using wpAny_loadPart' hl
  exact ⟨plainId_quiet plain_contains_loop _, codeAny_builtin entry_contains_loop (by
    rw [Around.under_plainId plain_contains_loop _]
    exact h)⟩
end
section
variable {prog : Program} {w : World} {A : Around} {E : Value → Shared → Prop} {h : Heap} {g : Array GenState} {d : Drawn} {t : Nat} {os : OsState}
/-- None == x asks x's own __eq__ -/
theorem none_ask {x C : Addr} {Q : Value → Shared → Prop} (room : A.units < cLine) {o : Obj} (px : h.get? x = some o) (pc : o.cls = .ref C)
    (sb : PySem.W.Looks (model prog w) h (isSubtype (.ref C) (.type "NoneType")) false)
    (ask : wpAny (model prog w) A (tryCompare (.ref x) "__eq__" .none) (fun a s' => ∃ u, a = some u ∧ Q u s') E ⟨h, g, d, t, os⟩) : wpAny (model prog w) A (richCompare .Eq .none (.ref x)) Q E ⟨h, g, d, t, os⟩ := by
  unfold richCompare
  simp only [(show oneThing? .Eq .none (.ref x) = none from rfl)]
  refine wpAny_holding (wpAny_bind (wpAny_cRoomFor room ?_))
  rw [cmpInfo_Eq]
  dsimp only
  refine wpAny_bind (wpAny_typeOf (T := "NoneType") rfl ?_)
  refine wpAny_bind (wpAny_typeOf_ref px ?_)
  rw [pc]
  rw [if_pos (by rfl)]
  refine wpAny_bind (sb.here ?_)
  simp only [Bool.false_eq_true, if_false, Bool.not_false, if_true]
  refine wpAny_bind (m := tryCompare .none _ (.ref x)) (wpAny_tryCompare_declines (T := "NoneType") rfl F.slot_NoneType_eq (call_gives F.slot_NoneType_eq rfl F.entry_NoneType_eq (F.args_NoneType_eq_2 _ _) (NoneType___eq___none_ref_0 x) ⟨rfl, ?_⟩))
  refine wpAny_bind (wpAny_mono ask (fun a s' ha => ?_) fun _ _ e => e)
  obtain ⟨u, rfl, q⟩ := ha
  exact wpAny_pure q
end
section
variable {X : Cx}
def rInNY (K : PySem.W.Frag) (C : Addr) (sp : Sp) : R2 := fun x y H Q => ∃ (a b l dx dy : Addr) (fs gs : List (Str × V)), x = .ref a ∧ y = .ref l ∧ H l = some (.lst [.non, .ref b]) ∧ H a = some (.ins C dx fs) ∧ H b = some (.ins C dy gs) ∧ a ≠ b ∧
  sp [.ref a, .non] H (fun v H1 => ∃ c : Bool, v = .bl c ∧ c = false ∧ H1 l = some (.lst [.non, .ref b]) ∧ (∃ (ex ey : Addr) (gs1 gs2 : List (Str × V)), H1 a = some (.ins C ex gs1) ∧ H1 b = some (.ins C ey gs2)) ∧
    sp [.ref b, .ref a] H1 (fun v H2 => ∃ c : Bool, v = .bl c ∧ H2 l = some (.lst [.non, .ref b]) ∧ Q (.bl c) H2) E0) E0
theorem op_inNY {C f : Addr} {fd : FuncData} {k : Nat} {sp : Sp} {ps : List Str} (T : NeC X.K C f) (nn : PySem.W.mroIn X.K C (.type "NoneType") = some false) (G : FnOk X.prog X.w X.K X.mg X.base CX0 k f fd ps sp) (hr : Room (k + 2) X.A) (hb : Binds X.K fd ps []) : OpR X (compareOp .In) (rInNY X.K C sp) := by
  intro pins s σ H x y v u Q I rx ry h
  obtain ⟨a, b, l, dx, dy, fs, gs, rfl, rfl, hl, ha, hb', ab, hq⟩ := h
  cases (show v = Value.ref a from rx)
  cases (show u = Value.ref l from ry)
  have lst : ∀ {H1 : Hp} {s1 : Shared}, Inv X pins σ H1 s1 → H1 l = some (.lst [.non, .ref b]) → ∃ n, s1.heap.get? l = some { cls := .type "list", data := .seq #[.none, .ref b] n } := fun {H1 s1} I1 e => by
    obtain ⟨_, its, n, r, _, ho⟩ := I1.lstM e
    cases r with
    | cons r1 r =>
      cases r with
      | cons r2 r =>
        cases r
        cases r1
        cases r2
        exact ⟨n, ho⟩
  obtain ⟨n, hls⟩ := lst I hl
  show wpAny (model X.prog X.w) X.A (do return Value.bool (← contains (.ref l) (.ref a))) (EP X pins σ Q) X.xe s
  refine wpAny_bind (wpAny_contains_slot ⟨_, hls, rfl⟩ F.slot_list_contains (wpAny_mono (GQ.call_here F.slot_list_contains ⟨_, hls, rfl⟩ F.entry_list_contains (F.args_list_contains_2 _ _) (in_begin (R := wants (fun v s' => ∃ b : Bool, v = .bool b ∧ EP X pins σ Q (.bool b) s') X.xe) hls ?_)) (fun v s' hv => ?_) fun _ _ e => e))
  rotate_left
  · obtain ⟨b, rfl, q⟩ := hv
    exact wpAny_truthy_bool (wpAny_pure q)
  refine in_turn (y := .none) hls rfl ?_
  unfold eqBool
  refine wpAny_holding (wpAny_ite_split (fun hab => absurd (eq_of_beq hab) nofun) (fun _ => ?_))
  obtain ⟨Y, o, px, pc⟩ := own_ne T I ha
  have c1 := ask_run (E2 := fun e s' => wants (fun v s' => ∃ b : Bool, v = .bool b ∧ EP X pins σ Q (.bool b) s') X.xe (.error e) s') G (B := X.A.in1) (hr.in1.mono (by omega)) (.inr rfl) hb I (a := a) (y := .non) (u := .none) rfl
    (Q := fun c _ H1 => c = false ∧ H1 l = some (.lst [.non, .ref b]) ∧ (∃ (ex ey : Addr) (gs1 gs2 : List (Str × V)), H1 a = some (.ins C ex gs1) ∧ H1 b = some (.ins C ey gs2)) ∧ sp [.ref b, .ref a] H1 (fun v H2 => ∃ c : Bool, v = .bl c ∧ H2 l = some (.lst [.non, .ref b]) ∧ Q (.bl c) H2) E0) hq
  have sb := PySem.W.looks_mroIn (M := model X.prog X.w) I.kIn nn
  have room := (hr.in1).units0
  obtain ⟨hp, g, d, t, os⟩ := s
  refine wpAny_bind (none_ask room px pc sb (eq_ask Y.ownEq (wpAny_mono c1 (fun z s' hz => ?_) fun _ _ e => e)))
  obtain ⟨c, rfl, H1, I1, rfl, hl1, ⟨ex, ey, gs1, gs2, ha1, hb1⟩, hq1⟩ := hz
  refine ⟨_, rfl, wpAny_truthy_bool ?_⟩
  rw [if_neg (by decide)]
  obtain ⟨n1, hls1⟩ := lst I1 hl1
  obtain ⟨Y1, o1, px1, pc1⟩ := own_ne T I1 hb1
  refine in_turn (i := 1) (y := .ref b) hls1 rfl ?_
  obtain ⟨tv, ty, sb1⟩ := rt_ty (A := X.A.in1) (E := fun e s' => wants (fun v s' => ∃ b : Bool, v = .bool b ∧ EP X pins σ Q (.bool b) s') X.xe (.error e) s') I1 (y := .ref a) (.inr (.inr (.inr (.inr (.inr (.inr ⟨a, C, ex, gs1, f, rfl, ha1, T⟩)))))) (u := .ref a) rfl
  have c2 := ask_run (E2 := fun e s' => wants (fun v s' => ∃ b : Bool, v = .bool b ∧ EP X pins σ Q (.bool b) s') X.xe (.error e) s') G (B := X.A.in1) (hr.in1.mono (by omega)) (.inr rfl) hb I1 (a := b) (y := .ref a) (u := .ref a) rfl
    (Q := fun c _ H2 => H2 l = some (.lst [.non, .ref b]) ∧ Q (.bl c) H2) hq1
  obtain ⟨hp1, g1, d1, t1, os1⟩ := s'
  refine GQ.eqBool_refG (Ne.symm ab) (rich_ask cmpInfo_Eq px1 pc1 ty (sb1 C) room (eq_ask Y1.ownEq (wpAny_mono c2 (fun z s' hz => ?_) fun _ _ e => e)))
  obtain ⟨c, rfl, H2, I2, hl2, q⟩ := hz
  refine ⟨_, rfl, c, rfl, ?_⟩
  cases c with
  | true =>
    rw [if_pos rfl]
    exact ⟨true, rfl, .bl true, H2, I2, rfl, q⟩
  | false =>
    rw [if_neg (by decide)]
    obtain ⟨n2, hls2⟩ := lst I2 hl2
    exact in_done (i := 2) hls2 rfl ⟨false, rfl, .bl false, H2, I2, rfl, q⟩
end
end Ru

set_option Elab.async false
set_option linter.all false
set_option maxRecDepth 100000
set_option maxHeartbeats 8000000
namespace K06
open PySem PySem.Spec PyProof.Rows L2 BX EXB Co Ru
open Dz Cs Hr Gs
open Rs (Rsp Rv Ret tYes_of dV datR Flat Okr spShares spRowsL spTotal spCopied eqv_dR)
open Fr (Bd)
def topS (i : Nat) : Stmt := PySem.Challenge.pw_besttelling_k06_cases_told.main.body.getD i (.Pass ⟨0, 0, 0, 0⟩)
abbrev sNcInit : Stmt := inClass (topS 1) 0
abbrev sWhole : Stmt := topS 3
abbrev sIsR : Stmt := topS 4
abbrev sPlus : Stmt := topS 5
abbrev sTotal : Stmt := topS 6
abbrev sLowest : Stmt := topS 7
abbrev sDiv : Stmt := topS 8
abbrev sListOf : Stmt := topS 12
abbrev sShare : Stmt := topS 13
abbrev sRRow : Stmt := topS 14
abbrev sWrong : Stmt := topS 15
abbrev sCopied : Stmt := topS 16
abbrev sCInit : Stmt := inClass (topS 18) 0
abbrev sCWorlds : Stmt := inClass (topS 18) 1
abbrev sCDeeds : Stmt := inClass (topS 18) 2
abbrev sCShares : Stmt := inClass (topS 18) 3
abbrev sCHearer : Stmt := inClass (topS 18) 4
abbrev sCTeller : Stmt := inClass (topS 18) 5
abbrev sCWith : Stmt := inClass (topS 18) 6
abbrev sCLen : Stmt := inClass (topS 18) 7
abbrev sCEq : Stmt := inClass (topS 18) 8
abbrev sCStr : Stmt := inClass (topS 18) 9
abbrev sCRepr : Stmt := inClass (topS 18) 10
abbrev sChkS : Stmt := topS 19
abbrev sChkG : Stmt := topS 20
abbrev sLeft : Stmt := topS 22
abbrev sDigit : Stmt := topS 23
abbrev sLow : Stmt := topS 24
abbrev sLPlus : Stmt := topS 25
abbrev sLLess : Stmt := topS 26
abbrev sLTimes : Stmt := topS 27
abbrev sLUnder : Stmt := topS 28
abbrev sShares : Stmt := topS 29
abbrev sGain : Stmt := topS 30
abbrev sGains : Stmt := topS 31
abbrev sParts : Stmt := topS 32
abbrev sChg06 : Stmt := topS 33
abbrev sTxt06 : Stmt := topS 34
abbrev sCopy06 : Stmt := topS 35
abbrev sIs06 : Stmt := topS 36
abbrev sShd06 : Stmt := topS 37
abbrev sLtr06 : Stmt := topS 38
abbrev sLaw : Stmt := topS 39
structure NcT (K : PySem.W.Frag) (mg : Str → Option Value) (C fI : Addr) : Prop where
  g : mg "NoCase" = some (.ref C)
  i : PySem.W.findIn K (.ref C) "__init__" = some (some (.ref fI))
  t : PySem.W.typeIn K (.ref fI) = some (.type "function")
  xf : XfC K C
  ex : ExcC K C
  o : OexC K C
  n1 : PySem.W.findIn K (.ref C) "part" = some none
  n2 : PySem.W.findIn K (.ref C) "number" = some none
  vV : PySem.W.findCls K (.type "ValueError") (.type "type") "__init__" = some (.val (.builtin "ValueError.__init__"))
  nn : PySem.W.exmOne K (.ref C) (.ref C) = some true
  kV : PySem.W.kitOne K (.ref C) (.type "ValueError") = some true
structure CaT (K : PySem.W.Frag) (mg : Str → Option Value) (C fI : Addr) : Prop where
  cl : Cls K C
  gC : mg "Case" = some (.ref C)
  n1 : NoAttr K C "own_shares"
  n2 : NoAttr K C "own_hearer"
  n3 : NoAttr K C "own_teller"
  mkC : Mk K C fI
  g5 : ∃ t, mg "MOST_WORLDS" = some (.int 5 t)
  g6 : ∃ t, mg "MOST_DEEDS" = some (.int 6 t)
section
variable {P : Program} {w : World} {K : PySem.W.Frag} {mg : Str → Option Value} {base : Heap}
theorem scDiv : FnScope ["one", "other"] ["one", "other"] (defScope sDiv) := ⟨rfl, rfl, rfl, by decide +kernel, rfl, by decide +kernel, by decide +kernel⟩
theorem ok_div {f : Addr} {fd : FuncData} {k : Nat} (F : Fun K "divisor" "divisor" sDiv f fd) (B : Blt mg) : FnOk P w K mg base CX0 (k + 1) f fd ["one", "other"] spDiv := by
  refine F.ok scDiv (fun vs H Q E h => ?_) (fun cdv A outer s H vs Q E hr h => ?_)
  · obtain ⟨a, b, rfl, _⟩ := h
    rfl
  · obtain ⟨a, b, rfl, q⟩ := h
    refine ⟨_, pss_cons (ps_while PassesOwn.never (pt_cmpR op_ne (pv 1) pe_int (nomark _))
        (pss_one (ps_par (i := 0) (j := 1) (by rfl) scDiv.nd rfl rfl (by decide) rfl rfl (pa_cons (pv 1) (pa_cons (pe_op op_modN (pv 0) (pv 1)) pa_nil)) (by rfl))))
      (pss_one (ps_ret (pe_callB call_abs (by rfl) B.abs_ (by decide +kernel) (pa_cons (pv 0) pa_nil)))), ?_⟩
    refine ⟨fun m σ H' => ∃ x y : Int, σ = [some (.int x), some (.int y)] ∧ m = y.natAbs ∧ Int.gcd x y = Int.gcd a b ∧ H' = H, ⟨_, a, b, rfl, rfl, rfl, rfl⟩, ?_⟩
    rintro m σ H' ⟨x, y, rfl, rfl, hg, rfl⟩
    refine ⟨.int y, rfl, rfl, _, rfl, ite2 (fun c => ?_) (fun c => ?_)⟩
    · have hy : y ≠ 0 := fun e => by
        subst e
        exact absurd c (by decide)
      refine ⟨fun σ' H'' => ∃ x' y' : Int, σ' = [some (.int x'), some (.int y')] ∧ y'.natAbs < y.natAbs ∧ Int.gcd x' y' = Int.gcd a b ∧ H'' = H', ?_, ?_⟩
      · rintro σ' H'' ⟨x', y', e1, e2, e3, e4⟩
        exact ⟨y'.natAbs, e2, x', y', e1, rfl, e3, e4⟩
      · refine ⟨.int y, rfl, .int x, rfl, .int y, rfl, x, y, rfl, rfl, hy, _, _, rfl, y, _, rfl, Fr.fmod_abs x hy, ?_, rfl⟩
        rw [Fr.gcd_step]
        exact hg
    · have hy : y = 0 := by
        by_cases e : y = 0
        · exact e
        · exact absurd (by simp [e]) c
      subst hy
      rw [Int.gcd_zero_right] at hg
      refine ⟨.int x, rfl, x, rfl, ?_⟩
      have e : (if x < 0 then -x else x) = (Int.gcd a b : Int) := by
        rw [← hg]
        split <;> omega
      rw [e]
      exact q
theorem scLowest : FnScope ["top", "bottom", "by"] ["top", "bottom"] (defScope sLowest) := ⟨rfl, rfl, rfl, by decide +kernel, rfl, by decide +kernel, by decide +kernel⟩
theorem ok_lowest {f fD : Addr} {fd fdD : FuncData} {k : Nat} (F : Fun K "lowest" "lowest" sLowest f fd) (GD : FnOk P w K mg base CX0 k fD fdD ["one", "other"] spDiv) (kD : PySem.W.keepIn K (.ref fD) = true) (bD : Binds K fdD ["one", "other"] []) (gD : mg "divisor" = some (.ref fD)) : FnOk P w K mg base CX0 (k + 1) f fd ["top", "bottom"] spLow := by
  refine F.ok scLowest (fun vs H Q E h => ?_) (fun cdv A outer s H vs Q E hr h => ?_)
  · obtain ⟨a, b, n, rfl, _⟩ := h
    rfl
  · obtain ⟨t, b, n, rfl, ht, hb, h0, hn, q⟩ := h
    refine ⟨_, pss_cons (ps_set (i := 2) scLowest.nd rfl (.inl rfl) (pe_call GD hr (by rfl) gD kD bD .nil pass0 (pa_cons (pv 0) (pa_cons (pv 1) pa_nil))))
      (pss_cons (ps_if (pt_cmpR op_lt (pv 1) pe_int (nomark _)) (pss_one (ps_set (i := 2) scLowest.nd rfl (.inl rfl) (pe_un un_neg (pv 2)))) pss_nil)
      (pss_one (ps_ret (pe_tup (pa_cons (pe_op op_fdivZ (pv 0) (pv 2)) (pa_cons (pe_op op_fdivZ (pv 1) (pv 2)) pa_nil)))))), ?_⟩
    have hg := Fr.gcd_pos (t := t) h0
    have hgb := gcd_bd (t := t) h0 hb
    have hn0 : 0 < n := by
      cases n with
      | zero => simp at hb; omega
      | succ n => omega
    refine ⟨_, rfl, _, rfl, t, b, rfl, ?_⟩
    refine ⟨_, rfl, b, 0, rfl, rfl, _, rfl, ite2 (fun c => ?_) (fun c => ?_)⟩
    · have hb0 : b < 0 := of_decide_eq_true c
      refine ⟨_, rfl, _, rfl, ?_⟩
      have d : ∀ i : Int, CDivZ i (-(Int.gcd t b : Int)) := fun i => divZ (n := n) (by omega) (by rw [Int.natAbs_neg]; exact hgb) hn0 (by omega)
      refine ⟨_, rfl, _, rfl, t, _, rfl, rfl, d _, _, rfl, _, rfl, b, _, rfl, rfl, d _, (by show 2 ≤ sizeLine; decide), fun p hp => ?_⟩
      have z := q p hp
      rw [rp, ← Fr.lowN_num hb0, ← Fr.lowN_den hb0] at z
      exact z
    · have hb0 : 0 < b := by
        have : ¬ b < 0 := of_decide_eq_false (Bool.eq_false_iff.mpr c)
        omega
      have d : ∀ i : Int, CDivZ i (Int.gcd t b : Int) := fun i => divZ (n := n) (by omega) hgb hn0 (by omega)
      refine ⟨_, rfl, _, rfl, t, _, rfl, rfl, d _, _, rfl, _, rfl, b, _, rfl, rfl, d _, (by show 2 ≤ sizeLine; decide), fun p hp => ?_⟩
      have z := q p hp
      rw [rp, ← Fr.low_num hb0, ← Fr.low_den hb0] at z
      exact z

theorem scPlus : FnScope ["one", "other"] ["one", "other"] (defScope sPlus) := ⟨rfl, rfl, rfl, by decide +kernel, rfl, by decide +kernel, by decide +kernel⟩
theorem ok_Plus {f fC : Addr} {fd fdC : FuncData} {k : Nat} (F : Fun K "plus" "plus" sPlus f fd) (GC : FnOk P w K mg base CX0 k fC fdC ["top", "bottom"] spLow) (kC : PySem.W.keepIn K (.ref fC) = true) (bC : Binds K fdC ["top", "bottom"] []) (gC : mg "lowest" = some (.ref fC)) :
    FnOk P w K mg base CX0 (k + 1) f fd ["one", "other"] (spBin K (· + ·)) := by
  refine F.ok scPlus (fun vs H Q E h => ?_) (fun cdv A outer s H vs Q E hr h => ?_)
  · obtain ⟨a, b, x, y, n, m, rfl, _⟩ := h
    rfl
  · obtain ⟨a, b, x, y, n, m, rfl, hx, hy, bx, by_, hn, q⟩ := h
    refine ⟨_, pss_one (ps_ret (pe_call GC hr (by rfl) gC kC bC .nil pass0 (pa_cons (pe_op op_add (pe_op op_mulW (pe_ix ix_tup (pv 0) pe_int (fun _ _ => rfl)) (pe_ix ix_tup (pv 1) pe_int (fun _ _ => rfl))) (pe_op op_mulW (pe_ix ix_tup (pv 1) pe_int (fun _ _ => rfl)) (pe_ix ix_tup (pv 0) pe_int (fun _ _ => rfl)))) (pa_cons (pe_op op_mulW (pe_ix ix_tup (pv 0) pe_int (fun _ _ => rfl)) (pe_ix ix_tup (pv 1) pe_int (fun _ _ => rfl))) pa_nil)))), ?_⟩
    refine ⟨.ref a, rfl, a, rp x, 0, .int x.num, rfl, rfl, hx, at0 x, .ref b, rfl, b, rp y, 1, .int (y.den : Int), rfl, rfl, hy, at1 y, _, _, rfl, rfl, wmul bx.1 by_.dn (by omega), .ref b, rfl, b, rp y, 0, .int y.num, rfl, rfl, hy, at0 y, .ref a, rfl, a, rp x, 1, .int (x.den : Int), rfl, rfl, hx, at1 x, _, _, rfl, rfl, wmul by_.1 bx.dn (by omega), _, _, rfl, rfl, .ref a, rfl, a, rp x, 1, .int (x.den : Int), rfl, rfl, hx, at1 x, .ref b, rfl, b, rp y, 1, .int (y.den : Int), rfl, rfl, hy, at1 y, _, _, rfl, rfl, wmul bx.dn by_.dn (by omega), _, _, n + m + 1, rfl, Fr.add_bd (Fr.mul_bd bx.1 by_.dn) (by rw [Nat.add_comm n m]; exact Fr.mul_bd by_.1 bx.dn), Fr.up (Fr.mul_bd bx.dn by_.dn) (Nat.le_succ _), Fr.dd_ne x y, by omega, fun p hp => ?_⟩
    have z := q p hp
    rw [Fr.add_eq]
    exact z

theorem scTotal : FnScope ["some", "start", "whole", "one"] ["some", "start"] (defScope sTotal) := ⟨rfl, rfl, rfl, by decide +kernel, rfl, by decide +kernel, by decide +kernel⟩
theorem ok_Total {f fP : Addr} {fd fdP : FuncData} {k : Nat} (F : FunD K "total" "total" (defArgs sTotal) (defBody sTotal) (defScope sTotal) [.non] [] f fd) (GP : FnOk P w K mg base CX0 k fP fdP ["one", "other"] (spBin K (· + ·))) (kP : PySem.W.keepIn K (.ref fP) = true) (bP : Binds K fdP ["one", "other"] []) (gP : mg "plus" = some (.ref fP)) :
    FnOk P w K mg base CX0 (k + 1) f fd ["some", "start"] (spTotal K) := by
  refine F.ok scTotal (fun vs H Q E h => ?_) (fun cdv A outer s H vs Q E hr h => ?_)
  · obtain ⟨l, cs, qs, n, rfl, _⟩ := h
    rfl
  · obtain ⟨l, cs, qs, n, rfl, hl, hf, hn, q⟩ := h
    refine ⟨_, PSs.nox (pss_cons (ps_set (i := 2) scTotal.nd rfl (.inl rfl) (pe_ifExp (pt_cmpR op_isN (pv 1) pe_non (nomark _)) (pe_tup (pa_cons pe_int (pa_cons pe_int pa_nil))) (pv 1)))
      (pss_cons (ps_for PassesOwn.never rfl (pi_list (pv 0)) (pg_name (i := 3) scTotal.nd rfl (.inl rfl)) (pss_one (ps_set (i := 2) scTotal.nd rfl (.inl rfl) (pe_call GP hr (by rfl) gP kP bP .nil pass0 (pa_cons (pv 2) (pa_cons (pv 3) pa_nil))))))
      (pss_one (ps_ret (pv 2))))), ?_⟩
    refine ⟨_, rfl, rfl, _, rfl, iteT ⟨(by show 2 ≤ sizeLine; decide), fun p hp => ?_⟩⟩
    have s1 := same_new hp (.tup (rp 0))
    refine ⟨_, rfl, l, rfl, ⟨_, s1.seq hl⟩, for_list (K := K) (a := l) (xs := cs) (fun i σ H' => ∃ (c : Addr) (y : Option V), σ = [some (.ref l), some .non, some (.ref c), y] ∧ Same H H' ∧ SqT K H' c (rp (qs.take i).sum) ∧ Bd ((n + 1) * i + 1) (qs.take i).sum)
      ⟨p, none, rfl, s1, SqT.of upd_same, ⟨by show (0 : Int).natAbs < 2 ^ 1; decide, by show 1 < 2 ^ 1; decide⟩⟩ (fun i σ H' _ ⟨_, _, _, s5, _⟩ => s5.seq hl) ?_ ?_⟩
    · rintro i v σ H' hi ⟨c, y, rfl, s5, hc5, hb5⟩
      obtain ⟨a, z, e1, rfl, e3, e4⟩ := hf.at_ i v hi
      have hil : i < qs.length := by
        rw [← hf.len]
        exact (List.getElem?_eq_some_iff.mp hi).1
      have hm : (n + 1) * i + (n + 1) ≤ (n + 1) * qs.length := by
        have := Nat.mul_le_mul_left (n + 1) (Nat.succ_le_of_lt hil)
        rw [Nat.mul_succ] at this
        exact this
      refine ⟨_, rfl, _, rfl, c, a, _, z, _, n, rfl, hc5, seqT s5 e3, hb5, e4, by omega, fun p hp => ?_⟩
      refine ⟨p, _, rfl, s5.trans (same_new hp _), ?_, ?_⟩
      · rw [Rs.sum_snoc' e1]
        exact SqT.of upd_same
      · rw [Rs.sum_snoc' e1]
        exact (Fr.bd_add hb5 e4).mono (by rw [Nat.mul_succ]; omega)
    · rintro σ H' ⟨c, y, rfl, s5, hc5, _⟩
      rw [hf.len, List.take_length] at hc5
      exact ⟨_, rfl, q c H' s5 hc5⟩
theorem scWhole : FnScope ["thing"] ["thing"] (defScope sWhole) := ⟨rfl, rfl, rfl, by decide +kernel, rfl, by decide +kernel, by decide +kernel⟩
theorem ok_WholeZ {f  : Addr} {fd  : FuncData} {k : Nat} (F : Fun K "is_whole" "is_whole" sWhole f fd)  (B : Blt mg) : FnOk P w K mg base CX0 (k + 1) f fd ["thing"] (spWholeZ K) := by
  refine F.ok scWhole (fun vs H Q E h => ?_) (fun cdv A outer s H vs Q E hr h => ?_)
  · obtain ⟨ex, v, d, rfl, _⟩ := h
    rfl
  · obtain ⟨ex, v, d, rfl, hv, q⟩ := h
    refine ⟨_, (pss_one (ps_ret (pe_and (pe_callB call_isi (by rfl) B.isinstance_ (by decide +kernel) (pa_cons (pv 0) (pa_cons (pe_bltn (v := .ty "int") (by rfl) B.int_ (by decide +kernel) rfl) pa_nil))) (pe_one (pe_not (pe_callB call_isi (by rfl) B.isinstance_ (by decide +kernel) (pa_cons (pv 0) (pa_cons (pe_bltn (v := .ty "bool") (by rfl) B.bool_ (by decide +kernel) rfl) pa_nil)))))))), ?_⟩
    refine ⟨_, rfl, _, _, _, _, isIB d, rfl, .ty "int", hv.ty, kit_ty (kit_isIB d), _, rfl, ?_⟩
    cases d with
    | int i => exact iteT ⟨_, rfl, _, _, _, _, isB (.int i), rfl, .ty "bool", hv.ty, kit_ty (kit_isB _), _, rfl, q⟩
    | bool b => exact iteT ⟨_, rfl, _, _, _, _, isB (.bool b), rfl, .ty "bool", hv.ty, kit_ty (kit_isB _), _, rfl, q⟩
    | none => exact iteF q
    | str x => exact iteF q
    | list x => exact iteF q
    | tuple x => exact iteF q
    | dict x => exact iteF q
theorem scIsR : FnScope ["thing", "top", "bottom"] ["thing"] (defScope sIsR) := ⟨rfl, rfl, rfl, by decide +kernel, rfl, by decide +kernel, by decide +kernel⟩
theorem ok_IsRZ {f fW fD : Addr} {fd fdW fdD : FuncData} {k : Nat} (F : Fun K "is_ratio" "is_ratio" sIsR f fd) (GW : FnOk P w K mg base CX0 k fW fdW ["thing"] (spWholeZ K)) (kW : PySem.W.keepIn K (.ref fW) = true) (bW : Binds K fdW ["thing"] []) (gW : mg "is_whole" = some (.ref fW)) (GD : FnOk P w K mg base CX0 k fD fdD ["one", "other"] spDiv) (kD : PySem.W.keepIn K (.ref fD) = true) (bD : Binds K fdD ["one", "other"] []) (gD : mg "divisor" = some (.ref fD)) (B : Blt mg) : FnOk P w K mg base CX0 (k + 1) f fd ["thing"] (spIsRZ K) := by
  refine F.ok scIsR (fun vs H Q E h => ?_) (fun cdv A outer s H vs Q E hr h => ?_)
  · obtain ⟨ex, v, d, rfl, _⟩ := h
    rfl
  · obtain ⟨ex, v, d, rfl, hv, q⟩ := h
    refine ⟨_, (pss_cons (ps_if (PW.pt (pw_or (pt_not (pt_val (pe_callB call_isi (by rfl) B.isinstance_ (by decide +kernel) (pa_cons (pv 0) (pa_cons (pe_bltn (v := .ty "tuple") (by rfl) B.tuple_ (by decide +kernel) rfl) pa_nil))))) (pw_or1 (pt_cmpR op_ne (pe_callB call_len_seq (by rfl) B.len_ PySem.boot_len (pa_cons (pv 0) pa_nil)) pe_int (nomark _))))) (pss_one (ps_ret pe_bl)) pss_nil)
      (pss_cons (ps_asg (pv 0) (pg_tup (by rfl) (pgs_cons (pg_name (i := 1) scIsR.nd rfl (.inl rfl)) (pgs_cons (pg_name (i := 2) scIsR.nd rfl (.inl rfl)) pgs_nil))))
      (pss_cons (ps_if (PW.pt (pw_or (pt_not (pt_val (pe_call GW hr (by rfl) gW kW bW .nil pass0 (pa_cons (pv 1) pa_nil)))) (pw_or1 (pt_not (pt_val (pe_call GW hr (by rfl) gW kW bW .nil pass0 (pa_cons (pv 2) pa_nil))))))) (pss_one (ps_ret pe_bl)) pss_nil)
      (pss_one (ps_ret (pe_and (pe_cmpR op_ge (pv 2) pe_int (nomark _)) (pe_one (pe_cmpR op_eq (pe_call GD hr (by rfl) gD kD bD .nil pass0 (pa_cons (pv 1) (pa_cons (pv 2) pa_nil))) pe_int (nomark _))))))))), ?_⟩
    cases d with
    | none => exact ⟨_, rfl, _, _, _, _, isT _, rfl, .ty "tuple", hv.ty, kit_ty (kit_isT _), _, rfl, iteT (iteT q)⟩
    | bool b => exact ⟨_, rfl, _, _, _, _, isT _, rfl, .ty "tuple", hv.ty, kit_ty (kit_isT _), _, rfl, iteT (iteT q)⟩
    | int i => exact ⟨_, rfl, _, _, _, _, isT _, rfl, .ty "tuple", hv.ty, kit_ty (kit_isT _), _, rfl, iteT (iteT q)⟩
    | str x => exact ⟨_, rfl, _, _, _, _, isT _, rfl, .ty "tuple", hv.ty, kit_ty (kit_isT _), _, rfl, iteT (iteT q)⟩
    | list x => exact ⟨_, rfl, _, _, _, _, isT _, rfl, .ty "tuple", hv.ty, kit_ty (kit_isT _), _, rfl, iteT (iteT q)⟩
    | dict x => exact ⟨_, rfl, _, _, _, _, isT _, rfl, .ty "tuple", hv.ty, kit_ty (kit_isT _), _, rfl, iteT (iteT q)⟩
    | tuple ds =>
      refine ⟨_, rfl, _, _, _, _, isT (.tuple ds), rfl, .ty "tuple", hv.ty, kit_ty (kit_isT _), _, rfl, iteF ?_⟩
      cases hv with
      | @tup a xs _ ha ts =>
        have hl := ts.len
        refine ⟨_, rfl, a, xs, rfl, .inr ha, rfl, _, rfl, ?_⟩
        by_cases h2 : xs.length = 2
        rotate_left
        · rw [decide_eq_false (fun z => h2 (by have := V.int.inj z; omega))]
          refine iteT ?_
          have e : ratD (.tuple ds) = none := by
            unfold ratD
            split
            · rename_i heq
              injection heq with heq
              rw [heq] at hl
              exact absurd hl h2
            · rfl
          rw [e] at q
          exact q
        have e2 : V.int (xs.length : Int) = V.int 2 := by rw [h2]; rfl
        rw [decide_eq_true e2]
        refine iteF ?_
        obtain ⟨x, y, rfl⟩ : ∃ x y, xs = [x, y] := by
          match xs, h2 with
          | [x, y], _ => exact ⟨x, y, rfl⟩
        cases ts with
        | @cons _ _ dx _ hx ts =>
          cases ts with
          | @cons _ _ dy _ hy ts =>
            cases ts
            refine ⟨_, rfl, a, _, rfl, ha, rfl, _, _, rfl, _, _, rfl, rfl, ?_⟩
            refine ⟨_, rfl, ex, x, dx, rfl, hx, _, rfl, ?_⟩
            have no : ∀ {b : PyData}, isI dx = false → ratD (.tuple [dx, b]) = none := fun {b} h => by cases dx <;> first | rfl | cases h
            cases c1 : isI dx with
            | false =>
              rw [no c1] at q
              exact iteT (iteT q)
            | true =>
              refine iteF ?_
              refine ⟨_, rfl, ex, y, dy, rfl, hy, _, rfl, ?_⟩
              cases dx with
              | int t =>
                cases c2 : isI dy with
                | false =>
                  have e : ratD (.tuple [.int t, dy]) = none := by cases dy <;> first | rfl | cases c2
                  rw [e] at q
                  exact iteT q
                | true =>
                  refine iteF ?_
                  cases dy with
                  | int b =>
                    cases hx
                    cases hy
                    have e : ratD (.tuple [.int t, .int b]) = if 1 ≤ b ∧ Int.gcd t b = 1 then some (Rat.divInt t b) else none := rfl
                    refine ⟨_, rfl, _, _, rfl, rfl, _, rfl, ?_⟩
                    by_cases h1 : 1 ≤ b
                    · rw [if_pos (decide_eq_true h1)]
                      refine ⟨_, rfl, _, rfl, _, _, rfl, rfl, ?_⟩
                      by_cases hg : Int.gcd t b = 1
                      · rw [e, if_pos ⟨h1, hg⟩] at q
                        rw [hg]
                        exact q
                      · rw [e, if_neg (fun z => hg z.2)] at q
                        rw [decide_eq_false (fun z => hg (by have := V.int.inj z; omega))]
                        exact q
                    · rw [e, if_neg (fun z => h1 z.1)] at q
                      rw [if_neg (by rw [decide_eq_false h1]; decide)]
                      exact q
                  | _ => cases c2
              | _ => cases c1
theorem scShare : FnScope ["thing"] ["thing"] (defScope sShare) := ⟨rfl, rfl, rfl, by decide +kernel, rfl, by decide +kernel, by decide +kernel⟩
theorem ok_ShareZ {f fR : Addr} {fd fdR : FuncData} {k : Nat} (F : Fun K "is_share" "is_share" sShare f fd) (GR : FnOk P w K mg base CX0 k fR fdR ["thing"] (spIsRZ K)) (kR : PySem.W.keepIn K (.ref fR) = true) (bR : Binds K fdR ["thing"] []) (gR : mg "is_ratio" = some (.ref fR)) : FnOk P w K mg base CX0 (k + 1) f fd ["thing"] (spShareZ K) := by
  refine F.ok scShare (fun vs H Q E h => ?_) (fun cdv A outer s H vs Q E hr h => ?_)
  · obtain ⟨ex, v, d, rfl, _⟩ := h
    rfl
  · obtain ⟨ex, v, d, rfl, hv, q⟩ := h
    refine ⟨_, (pss_one (ps_ret (pe_and (pe_call GR hr (by rfl) gR kR bR .nil pass0 (pa_cons (pv 0) pa_nil)) (pe_one (pe_cmpR op_ge (pe_ix ix_tup (pv 0) pe_int (fun _ _ => rfl)) pe_int (nomark _)))))), ?_⟩
    refine ⟨_, rfl, ex, v, d, rfl, hv, _, rfl, ?_⟩
    unfold shD at q
    cases e : ratD d with
    | none =>
      rw [e] at q
      exact iteF q
    | some r =>
      rw [e] at q
      obtain ⟨a, rfl, ha, _⟩ := hv.rat e
      exact iteT ⟨_, rfl, a, rp r, 0, .int r.num, rfl, rfl, ha, at0 r, _, _, rfl, rfl, q⟩
theorem scListOf : FnScope ["thing", "least", "most"] ["thing", "least", "most"] (defScope sListOf) := ⟨rfl, rfl, rfl, by decide +kernel, rfl, by decide +kernel, by decide +kernel⟩
theorem ok_ListOfZ {f  : Addr} {fd  : FuncData} {k : Nat} (F : Fun K "is_list_of" "is_list_of" sListOf f fd)  (B : Blt mg) : FnOk P w K mg base CX0 (k + 1) f fd ["thing", "least", "most"] (spListOfZ K) := by
  refine F.ok scListOf (fun vs H Q E h => ?_) (fun cdv A outer s H vs Q E hr h => ?_)
  · obtain ⟨ex, v, d, lo, hi, rfl, _⟩ := h
    rfl
  · obtain ⟨ex, v, d, lo, hi, rfl, hv, q⟩ := h
    refine ⟨_, (pss_one (ps_ret (pe_and (pe_callB call_isi (by rfl) B.isinstance_ (by decide +kernel) (pa_cons (pv 0) (pa_cons (pe_bltn (v := .ty "list") (by rfl) B.list_ (by decide +kernel) rfl) pa_nil))) (pe_one (pe_chain op_le op_le (pv 1) (pe_callB call_len_seq (by rfl) B.len_ PySem.boot_len (pa_cons (pv 0) pa_nil)) (pv 2)))))), ?_⟩
    cases d with
    | none => exact ⟨_, rfl, _, _, _, _, isL _, rfl, .ty "list", hv.ty, kit_ty (kit_isL _), _, rfl, iteF q⟩
    | bool b => exact ⟨_, rfl, _, _, _, _, isL _, rfl, .ty "list", hv.ty, kit_ty (kit_isL _), _, rfl, iteF q⟩
    | int i => exact ⟨_, rfl, _, _, _, _, isL _, rfl, .ty "list", hv.ty, kit_ty (kit_isL _), _, rfl, iteF q⟩
    | str x => exact ⟨_, rfl, _, _, _, _, isL _, rfl, .ty "list", hv.ty, kit_ty (kit_isL _), _, rfl, iteF q⟩
    | tuple x => exact ⟨_, rfl, _, _, _, _, isL _, rfl, .ty "list", hv.ty, kit_ty (kit_isL _), _, rfl, iteF q⟩
    | dict x => exact ⟨_, rfl, _, _, _, _, isL _, rfl, .ty "list", hv.ty, kit_ty (kit_isL _), _, rfl, iteF q⟩
    | list ds =>
      refine ⟨_, rfl, _, _, _, _, isL (.list ds), rfl, .ty "list", hv.ty, kit_ty (kit_isL _), _, rfl, iteT ?_⟩
      cases hv with
      | @lst a xs _ ha hn ts =>
        have q' : Q (.bl (decide (lo ≤ (ds.length : Int)) && decide ((ds.length : Int) ≤ hi))) H := q
        rw [← ts.len] at q'
        refine ⟨_, rfl, _, rfl, a, xs, rfl, .inl (SqL.of ha), lo, _, rfl, rfl, _, rfl, ?_⟩
        by_cases h1 : lo ≤ (xs.length : Int)
        · rw [decide_eq_true h1] at q' ⊢
          refine iteT ⟨_, rfl, _, hi, rfl, rfl, ?_⟩
          rw [Bool.true_and] at q'
          exact q'
        · rw [decide_eq_false h1] at q' ⊢
          exact iteF q'
theorem scRRow : FnScope ["thing", "least", "most", "one"] ["thing", "least", "most"] (defScope sRRow) := ⟨rfl, rfl, rfl, by decide +kernel, rfl, by decide +kernel, by decide +kernel⟩
theorem all_mapZ (p : PyData → Bool) (os : List PyData) : (os.map p).all id = os.all p := by
  induction os with
  | nil => rfl
  | cons o os ih => rw [List.map_cons, List.all_cons, List.all_cons, ih]; rfl
theorem ok_RRowZ {f fL fR : Addr} {fd fdL fdR : FuncData} {k : Nat} (F : Fun K "is_ratio_row" "is_ratio_row" sRRow f fd) (GL : FnOk P w K mg base CX0 k fL fdL ["thing", "least", "most"] (spListOfZ K)) (kL : PySem.W.keepIn K (.ref fL) = true) (bL : Binds K fdL ["thing", "least", "most"] []) (gL : mg "is_list_of" = some (.ref fL)) (GR : FnOk P w K mg base CX0 k fR fdR ["thing"] (spIsRZ K)) (kR : PySem.W.keepIn K (.ref fR) = true) (bR : Binds K fdR ["thing"] []) (gR : mg "is_ratio" = some (.ref fR)) (B : Blt mg) : FnOk P w K mg base CX0 (k + 1) f fd ["thing", "least", "most"] (spRowZ K) := by
  refine F.ok scRRow (fun vs H Q E h => ?_) (fun cdv A outer s H vs Q E hr h => ?_)
  · obtain ⟨ex, v, d, lo, hi, rfl, _⟩ := h
    rfl
  · obtain ⟨ex, v, d, lo, hi, rfl, hv, h6, q⟩ := h
    refine ⟨_, (pss_one (ps_ret (pe_and (pe_call GL hr (by rfl) gL kL bL .nil pass0 (pa_cons (pv 0) (pa_cons (pv 1) (pa_cons (pv 2) pa_nil)))) (pe_one (pe_callB (cr_all rfl) (by rfl) B.all_ (by decide +kernel) (pa_cons (pe_lc (own := [("one", 3)]) (g := gName 3) (tt := tYes) (te := (tCall (spIsRZ K) [] E0 (tCons (tVar 3) tNil))) rfl scRRow.nd (pi_list (pv 0)) (blkOk_by (N := ["thing", "least", "most", "one"]) (sc := defScope sRRow) (by decide +kernel)) (fun _ _ _ _ _ => (pg_name (i := 3) scRRow.nd rfl (Or.inl rfl))) (fun _ _ _ _ _ => pts_nil) (fun _ _ _ _ _ => (pe_call GR hr (by rfl) gR kR bR .nil pass0 (pa_cons (pv 3) pa_nil)))) pa_nil)))))), ?_⟩
    refine ⟨_, rfl, _, rfl, _, rfl, ex, v, d, lo, hi, rfl, hv, _, rfl, ?_⟩
    unfold rowOkZ at q
    cases c0 : lenOk (lenD d) lo hi with
    | false =>
      rw [c0] at q
      exact iteF (q _ (Same.refl _))
    | true =>
      rw [c0, Bool.true_and] at q
      refine iteT ?_
      obtain ⟨ds, rfl, l1, l2⟩ := lenOk_list c0
      cases hv with
      | @lst r cs _ hr0 hn hc =>
        refine ⟨_, rfl, r, rfl, ⟨_, SqL.of hr0⟩, fun D hD => lc_list (K := K) (a := r) (xs := cs) (fun i H' => H' = upd H D (.lst (((ds.take i).map fun e => (ratD e).isSome).map V.bl))) rfl (fun i H' _ e => by rw [e]; exact SqL.of (same_new hD _ _ _ hr0)) ?_ ?_⟩
        · rintro i v H' hi' rfl
          obtain ⟨d, e1, e2⟩ := hc.at_ hi'
          refine ⟨rfl, tYes_of ?_⟩
          refine ⟨_, rfl, ex, v, d, rfl, e2.same (same_new hD _), _, upd_same, ?_, ?_⟩
          · rw [List.length_map, List.length_map, List.length_take]
            exact small1000 (by omega)
          · rw [upd_upd, List.take_add_one, e1, List.map_append, List.map_append]
            rfl
        · rintro H' rfl
          rw [hc.len, List.take_length]
          refine ⟨D, ds.map fun e => (ratD e).isSome, rfl, SqL.of upd_same, ?_⟩
          rw [all_mapZ]
          exact q _ (same_new hD _)
theorem scWrong : FnScope ["rows", "is_row", "least", "most", "number", "row"] ["rows", "is_row", "least", "most"] (defScope sWrong) := ⟨rfl, rfl, rfl, by decide +kernel, rfl, by decide +kernel, by decide +kernel⟩
theorem ok_WrongZ {f fR : Addr} {fd fdR : FuncData} {k : Nat} (F : Fun K "wrong_row" "wrong_row" sWrong f fd) (GR : FnOk P w K mg base CX0 k fR fdR ["thing", "least", "most"] (spRowZ K)) (kR : PySem.W.keepIn K (.ref fR) = true) (bR : Binds K fdR ["thing", "least", "most"] []) (B : Blt mg) : FnOk P w K mg base CX0 (k + 1) f fd ["rows", "is_row", "least", "most"] (spWrongZ K fR) := by
  refine F.ok scWrong (fun vs H Q E h => ?_) (fun cdv A outer s H vs Q E hr h => ?_)
  · obtain ⟨ex, a, rs, ds, lo, hi, rfl, _⟩ := h
    rfl
  · obtain ⟨ex, a, rs, ds, lo, hi, rfl, ha, hw, h6, q⟩ := h
    refine ⟨_, (pss_cons (ps_for PassesOwn.never rfl (pi_enum (by rfl) B.enumerate_ (pa_cons (pv 0) pa_nil)) (pg_tup rfl (pgs_cons (pg_name (i := 4) scWrong.nd rfl (.inl rfl)) (pgs_cons (pg_name (i := 5) scWrong.nd rfl (.inl rfl)) pgs_nil))) (pss_cons (ps_if (pt_not (pt_val (pe_callL (i := 1) GR hr rfl (.inl rfl) kR bR .nil pass0 (pa_cons (pv 5) (pa_cons (pv 2) (pa_cons (pv 3) pa_nil)))))) (pss_one (ps_ret (pv 4))) pss_nil)
      (pss_one (ps_asg2 (pe_callB call_len_seq (by rfl) B.len_ PySem.boot_len (pa_cons (pv 5) pa_nil)) (pg_name (i := 2) scWrong.nd rfl (.inl rfl)) (pg_name (i := 3) scWrong.nd rfl (.inl rfl))))))
      (pss_one (ps_ret pe_non))), ?_⟩
    refine ⟨_, rfl, a, _, rfl, SqL.of ha, for_it (walk_enum (K := K) (a := a) (xs := rs)) (fun i σ H' => ∃ (lo' hi' : Int) (y4 y5 : Option V), σ = [some (.ref a), some (.ref fR), some (.int lo'), some (.int hi'), y4, y5] ∧ Same H H' ∧ hi' ≤ 6 ∧ firstWrongZ ds 0 lo hi = firstWrongZ (ds.drop i) i lo' hi')
      ⟨lo, hi, none, none, rfl, Same.refl _, h6, by rw [List.drop_zero]⟩ (fun i σ H' _ ⟨_, _, _, _, _, s5, _⟩ => SqL.of (s5 _ _ ha)) ?_ ?_⟩
    · rintro i x σ H1 H2 hi1 ⟨lo', hi', y4, y5, rfl, s5, h6', fw⟩ ⟨T, u, v, rfl, nT, rfl, e1, e2⟩
      have eu : u = .int (i : Nat) := (Option.some.inj e1).symm
      subst eu
      obtain ⟨d, f1, f2⟩ := hw.at_ e2
      have s6 := s5.trans (same_new nT (.tup [.int (i : Nat), v]))
      refine ⟨T, _, rfl, SqT.of upd_same, rfl, _, _, rfl, _, _, rfl, rfl, ?_⟩
      refine ⟨rfl, _, rfl, _, rfl, _, rfl, ex, v, d, lo', hi', rfl, f2.same s6, h6', fun H3 s7 => ?_⟩
      rw [firstWrongZ_drop f1] at fw
      cases c : rowOkZ d lo' hi' with
      | false =>
        rw [if_neg (by rw [c]; decide)] at fw
        rw [fw] at q
        exact ⟨_, rfl, iteT ⟨_, rfl, q _ (s6.trans s7)⟩⟩
      | true =>
        rw [if_pos c] at fw
        refine ⟨_, rfl, iteF ?_⟩
        unfold rowOkZ at c
        rw [Bool.and_eq_true] at c
        obtain ⟨es, rfl, l1, l2⟩ := lenOk_list c.1
        cases f2 with
        | @lst r cs _ hr0 hn hc =>
          refine ⟨_, rfl, r, cs, rfl, .inl (SqL.of ((s6.trans s7) _ _ hr0)), ?_⟩
          rw [hc.len]
          exact ⟨_, _, _, _, rfl, s6.trans s7, by omega, fw⟩
    · rintro σ H1 ⟨lo', hi', y4, y5, rfl, s5, _, fw⟩
      rw [hw.len, List.drop_length] at fw
      rw [fw] at q
      exact q H1 s5
theorem scCopied : FnScope ["rows", "row"] ["rows"] (defScope sCopied) := ⟨rfl, rfl, rfl, by decide +kernel, rfl, by decide +kernel, by decide +kernel⟩
theorem ok_Copied {f : Addr} {fd : FuncData} {k : Nat} (F : Fun K "copied_rows" "copied_rows" sCopied f fd) (B : Blt mg) : FnOk P w K mg base CX0 (k + 1) f fd ["rows"] (spCopied K) := by
  refine F.ok scCopied (fun vs H Q E h => ?_) (fun cdv A outer s H vs Q E hr h => ?_)
  · obtain ⟨a, rs, rss, n, rfl, _⟩ := h
    rfl
  · obtain ⟨a, rs, rss, n, rfl, hw, hlen, q⟩ := h
    refine ⟨_, pss_one (ps_ret (pe_lc (own := [("row", 1)]) (g := gName 1) (tt := tYes) (te := tCB (rListOf K) (tCons (tVar 1) tNil)) rfl scCopied.nd (pi_list (pv 0)) (blkOk_by (N := ["rows", "row"]) (sc := defScope sCopied) (by decide +kernel)) (fun _ _ _ _ _ => pg_name (i := 1) scCopied.nd rfl (Or.inl rfl)) (fun _ _ _ _ _ => pts_nil)
      (fun _ _ _ _ _ => pe_callTy (T := "list") call_list_of (by rfl) B.list_ (by decide +kernel) (pa_cons (pv 1) pa_nil)))), ?_⟩
    -- an address that stays out of the way: D itself
    refine ⟨_, rfl, a, rfl, ⟨_, SqL.of hw.1⟩, fun D hD => lc_list (K := K) (a := a) (xs := rs.map V.ref) (fun i H' => ∃ rs', rs'.length = i ∧ H' D = some (.lst (rs'.map V.ref)) ∧ rs'.Nodup ∧ D ∉ rs' ∧ (∀ x ∈ rs', H x = none) ∧ Same H H' ∧ RowsAt K H' n rs' (rss.take i))
      ⟨[], rfl, upd_same, List.nodup_nil, by simp, fun x hx => by simp at hx, same_new hD _, RowsAt.nil⟩ (fun i H' _ ⟨_, _, _, _, _, _, s5, _⟩ => SqL.of (s5 _ _ hw.1)) ?_ ?_⟩
    · rintro i v H' hi ⟨rs', hl', hD', nd', ne', fr', s5, ra⟩
      obtain ⟨r, er, rfl⟩ : ∃ r, rs[i]? = some r ∧ v = .ref r := by
        rw [List.getElem?_map] at hi
        cases e : rs[i]? with
        | none => rw [e] at hi; cases hi
        | some r => rw [e] at hi; exact ⟨r, rfl, (Option.some.inj hi).symm⟩
      obtain ⟨cs, qs, e3, e4, e5⟩ := hw.2.2 i r er
      refine ⟨rfl, ?_⟩
      unfold tYes
      dsimp only
      refine iteT ?_
      refine ⟨_, rfl, r, cs, rfl, .inl (SqL.of (s5 _ _ e4)), fun l hl => ?_⟩
      have s6 := same_new hl (.lst cs)
      have hlD : l ≠ D := fun e => by
        rw [e, hD'] at hl
        cases hl
      have hil : i < rss.length := (List.getElem?_eq_some_iff.mp e3).1
      refine ⟨_, s6 _ _ hD', ?_, rs' ++ [l], ?_, ?_, ?_, ?_, ?_, ?_, ?_⟩
      · rw [List.length_map]
        exact small1000 (by omega)
      · rw [List.length_append, hl']
        rfl
      · rw [upd_same, List.map_append]
        rfl
      · rw [List.nodup_append]
        refine ⟨nd', by simp, fun x hx y hy => ?_⟩
        have ey : y = l := by simpa using hy
        rw [ey]
        intro e
        obtain ⟨j, hj, ej⟩ := List.getElem_of_mem hx
        obtain ⟨c', q', _, z2, _⟩ := ra.2 j x (by rw [List.getElem?_eq_getElem hj, ej])
        rw [e, hl] at z2
        cases z2
      · intro hm
        rcases List.mem_append.mp hm with hm | hm
        · exact ne' hm
        · exact hlD (by simpa using hm : D = l).symm
      · intro x hx
        rcases List.mem_append.mp hx with hx | hx
        · exact fr' x hx
        · have ex : x = l := by simpa using hx
          rw [ex]
          exact s5.free hl
      · intro b u e
        rw [upd_ne (ne_of_none e hD)]
        exact s6 _ _ (s5 _ _ e)
      · have sD : SameB D (upd H' l (.lst cs)) (upd (upd H' l (.lst cs)) D (.lst (rs'.map V.ref ++ [V.ref l]))) := SameB.upd
        have t := ((ra.same s6).keep sD (s6 _ _ hD') ne').snoc (r := l) (cs := cs) (qs := qs) (by rw [upd_ne hlD, upd_same]) ((e5.same (s5.trans s6)).keep (sD.tup (s6 _ _ hD')))
        rw [List.take_add_one, e3]
        exact t
    · rintro H' ⟨rs', hl', hD', nd', ne', fr', s5, ra⟩
      rw [List.length_map, hw.2.1, List.take_length] at ra
      exact q D rs' H' ⟨⟨hD', ra⟩, nd', ne', hD, fr', s5⟩
theorem scNcInit : FnScope ["self", "part", "number"] ["self", "part", "number"] (defScope sNcInit) := ⟨rfl, rfl, rfl, by decide +kernel, rfl, by decide +kernel, by decide +kernel⟩
theorem ok_NcInit {CN fN : Addr} {fd : FuncData} {k : Nat} (F : Fun K "__init__" "NoCase.__init__" sNcInit fN fd) (T : NcT K mg CN fN) (B : Blt mg) : FnOk P w K mg base CX0 (k + 1) fN fd ["self", "part", "number"] (spE2 CN "part" "number") := by
  refine F.ok scNcInit (fun vs H Q E h => ?_) (fun cdv A outer s H vs Q E hr h => ?_)
  · obtain ⟨a, v, u, rfl, _⟩ := h
    rfl
  · obtain ⟨a, v, u, rfl, ha, q⟩ := h
    refine ⟨_, pss_cons (ps_expr (pe_veinit (by rfl) B.ValueError_ T.vV (pa_cons (pv 0) (pa_cons pe_str pa_nil)))) (pss_cons (ps_ost (pv 0) (pv 1)) (pss_one (ps_ost (pv 0) (pv 2)))), ?_⟩
    refine ⟨_, rfl, a, CN, _, rfl, (by show 1 ≤ 1000; decide), T.o, ha, ?_⟩
    refine ⟨_, rfl, _, rfl, a, CN, rfl, T.o, T.n1, .inl ⟨ha, fun dx hdx hne => ?_⟩⟩
    refine ⟨_, rfl, _, rfl, a, CN, rfl, T.o, T.n2, .inr ⟨dx, _, upd_same, by rw [upd_ne hne, upd_same], (by show 1 ≤ 900; decide), ?_⟩⟩
    rw [Rs.upd_swap hne]
    exact q dx hdx hne
theorem scChkS : FnScope ["shares", "number", "share"] ["shares"] (defScope sChkS) := ⟨rfl, rfl, rfl, by decide +kernel, rfl, by decide +kernel, by decide +kernel⟩
theorem ok_ChkS {f fL fS fT CN fN C fI : Addr} {fd fdL fdS fdT fdN : FuncData} {k : Nat} (F : Fun K "check_shares" "check_shares" sChkS f fd) (T : CaT K mg C fI) (N : NcT K mg CN fN) (GN : FnOk P w K mg base CX0 k fN fdN ["self", "part", "number"] (spE2 CN "part" "number")) (bN : Binds K fdN ["self", "part", "number"] [])
    (GL : FnOk P w K mg base CX0 k fL fdL ["thing", "least", "most"] (spListOfZ K)) (kL : PySem.W.keepIn K (.ref fL) = true) (bL : Binds K fdL ["thing", "least", "most"] []) (gL : mg "is_list_of" = some (.ref fL)) (GS : FnOk P w K mg base CX0 k fS fdS ["thing"] (spShareZ K)) (kS : PySem.W.keepIn K (.ref fS) = true) (bS : Binds K fdS ["thing"] []) (gS : mg "is_share" = some (.ref fS))
    (GT : FnOk P w K mg base CX0 k fT fdT ["some", "start"] (spTotal K)) (kT : PySem.W.keepIn K (.ref fT) = true) (bT : ∃ ds, Vals [V.non] ds ∧ Binds K fdT ["some", "start"] ds) (gT : mg "total" = some (.ref fT)) (B : Blt mg) : FnOk P w K mg base (L2.CX P w) (k + 2) f fd ["shares"] (spChkS K CN) := by
  obtain ⟨t5, g5⟩ := T.g5
  obtain ⟨dft, vd, bTd⟩ := bT
  refine F.okX scChkS (fun vs H Q E h => ?_) (fun cdv A outer s H vs Q E hr h => ?_)
  · obtain ⟨ex, v, d, rfl, _⟩ := h
    rfl
  · obtain ⟨ex, v, d, rfl, hv, few, qE, q⟩ := h
    have hk : Room k _ := hr.mono (by omega)
    refine ⟨_, (pss_cons (ps_if (pt_not (pt_val (pe_call GL hk (by rfl) gL kL bL .nil pass0 (pa_cons (pv 0) (pa_cons pe_int (pa_cons (pe_glob (v := .int 5) (by rfl) g5 ⟨_, rfl⟩) pa_nil)))))) (pss_one (ps_raise (W := fun cls d _ H' => E cls d H') rfl (takes_of rfl rfl rfl rfl) (pmk_oex N.o N.i N.t GN hr bN .nil pass0 (by rfl) N.g (pa_cons pe_str (pa_cons pe_non pa_nil))))) pss_nil)
      (pss_cons (ps_for (passes_of rfl) rfl (pi_enum (by rfl) B.enumerate_ (pa_cons (pv 0) pa_nil)) (pg_tup rfl (pgs_cons (pg_name (i := 1) scChkS.nd rfl (.inl rfl)) (pgs_cons (pg_name (i := 2) scChkS.nd rfl (.inl rfl)) pgs_nil))) (pss_one (ps_if (pt_not (pt_val (pe_call GS hk (by rfl) gS kS bS .nil pass0 (pa_cons (pv 2) pa_nil)))) (pss_one (ps_raise (W := fun cls d _ H' => E cls d H') rfl (takes_of rfl rfl rfl rfl) (pmk_oex N.o N.i N.t GN hr bN .nil pass0 (by rfl) N.g (pa_cons pe_str (pa_cons (pv 1) pa_nil))))) pss_nil)))
      (pss_one (ps_if (pt_cmpR (op_neD hk.units) (pe_call GT hk (by rfl) gT kT bTd vd pass0 (pa_cons (pv 0) pa_nil)) (pe_tup (pa_cons pe_int (pa_cons pe_int pa_nil))) (nomark _)) (pss_one (ps_raise (W := fun cls d _ H' => E cls d H') rfl (takes_of rfl rfl rfl rfl) (pmk_oex N.o N.i N.t GN hr bN .nil pass0 (by rfl) N.g (pa_cons pe_str (pa_cons pe_non pa_nil))))) pss_nil)))), ?_⟩
    refine ⟨_, rfl, ex, v, d, 1, 5, rfl, hv, _, rfl, ?_⟩
    unfold badS at qE q
    cases c0 : lenOk (lenD d) 1 5 with
    | false =>
      rw [c0] at qE
      exact iteT (mk2 fun dd hdd => qE .non rfl _ dd (same_new hdd _) upd_same)
    | true =>
      rw [c0, if_pos rfl] at qE q
      refine iteF ?_
      obtain ⟨ds, rfl, l1, l2⟩ := lenOk_list c0
      cases hv with
      | @lst a xs _ ha hn ts =>
        have hxl := ts.len
        refine ⟨_, rfl, a, _, rfl, SqL.of ha, for_it (walk_enum (K := K) (a := a) (xs := xs)) (fun i σ H' => ∃ y1 y2 : Option V, σ = [some (.ref a), y1, y2] ∧ Same H H' ∧ firstNot shD ds 0 = firstNot shD (ds.drop i) i)
          ⟨none, none, rfl, Same.refl _, by rw [List.drop_zero]⟩ (fun i σ H' _ ⟨_, _, _, s5, _⟩ => SqL.of (s5 _ _ ha)) ?_ ?_⟩
        · rintro i x σ H1 H2 hi ⟨y1, y2, rfl, s5, fb⟩ ⟨TT, u, vv, rfl, nT, rfl, e1, e2⟩
          cases (Option.some.inj e1)
          obtain ⟨d, f1, f2⟩ := ts.at_ e2
          have sT := same_new nT (.tup [V.int (i : Nat), vv])
          refine ⟨TT, _, rfl, SqT.of upd_same, rfl, _, _, rfl, _, _, rfl, rfl, ?_⟩
          refine ⟨_, rfl, ex, vv, d, rfl, f2.same (s5.trans sT), _, rfl, ?_⟩
          rw [firstNot_drop f1] at fb
          cases c : shD d with
          | true =>
            rw [if_pos c] at fb
            exact iteF ⟨_, _, rfl, s5.trans sT, fb⟩
          | false =>
            rw [if_neg (by rw [c]; decide)] at fb
            refine iteT ⟨_, rfl, mk2 fun dx hdx => qE (V.int (i : Nat)) ?_ _ dx (s5.trans (sT.trans (same_new hdx _))) upd_same⟩
            show numS (firstNot shD ds 0) (sumD ds) = _
            rw [fb]
            rfl
        · rintro σ H1 ⟨y1, y2, rfl, s5, fb⟩
          rw [ts.len, List.drop_length] at fb
          have hall := firstNot_all (show firstNot shD ds 0 = none from fb)
          have hrat : ds.all (fun e => (ratD e).isSome) = true := by
            rw [List.all_eq_true] at hall ⊢
            intro e he
            have := hall e he
            unfold shD at this
            cases z : ratD e with
            | none => rw [z] at this; cases this
            | some q => rfl
          obtain ⟨qs, g1, g2⟩ := ts.rats (n := 1000) few hrat
          have hql : qs.length ≤ 5 := by
            have : ds.length = qs.length := by rw [g1, List.length_map]
            omega
          have eqE : numS (firstNot shD (itemsD (.list ds)) 0) (sumD (itemsD (.list ds))) = if qs.sum = 1 then none else some .non := by
            show numS (firstNot shD ds 0) (sumD ds) = _
            rw [show firstNot shD ds 0 = none from fb, g1, sumD_dR]
            rfl
          rw [eqE] at qE q
          refine ⟨_, rfl, a, xs, qs, 1000, rfl, SqL.of (s5 _ _ ha), g2.same s5, ?_, fun rt H2 s6 e6 => ?_⟩
          · have : (1000 + 1) * qs.length ≤ 1001 * 5 := Nat.mul_le_mul_left _ hql
            omega
          refine ⟨(by show 2 ≤ sizeLine; decide), fun p hp => ?_⟩
          have s7 := same_new hp (.tup (rp 1))
          refine ⟨dR qs.sum, dR 1, dp_r (seqT s7 e6), dp_r (q := 1) (SqT.of upd_same), dR_shaped _, dR_shaped _, _, rfl, ?_⟩
          rw [eqv_dR]
          by_cases c5 : qs.sum = 1
          · rw [decide_eq_true c5]
            rw [if_pos c5] at q
            exact iteF (q rfl _ ((s5.trans s6).trans s7))
          · rw [decide_eq_false c5]
            rw [if_neg c5] at qE
            exact iteT (mk2 fun dx hdx => qE .non rfl _ dx ((s5.trans s6).trans (s7.trans (same_new hdx _))) upd_same)
theorem scChkG : FnScope ["part", "rows", "worlds", "least", "most", "wrong"] ["part", "rows", "worlds", "least", "most"] (defScope sChkG) := ⟨rfl, rfl, rfl, by decide +kernel, rfl, by decide +kernel, by decide +kernel⟩
theorem ok_ChkG {f fL fW fR CN fN : Addr} {fd fdL fdW fdN : FuncData} {k : Nat} (F : Fun K "check_gains" "check_gains" sChkG f fd) (N : NcT K mg CN fN) (GN : FnOk P w K mg base CX0 k fN fdN ["self", "part", "number"] (spE2 CN "part" "number")) (bN : Binds K fdN ["self", "part", "number"] [])
    (GL : FnOk P w K mg base CX0 k fL fdL ["thing", "least", "most"] (spListOfZ K)) (kL : PySem.W.keepIn K (.ref fL) = true) (bL : Binds K fdL ["thing", "least", "most"] []) (gL : mg "is_list_of" = some (.ref fL)) (GW : FnOk P w K mg base CX0 k fW fdW ["rows", "is_row", "least", "most"] (spWrongZ K fR)) (kW : PySem.W.keepIn K (.ref fW) = true) (bW : Binds K fdW ["rows", "is_row", "least", "most"] []) (gW : mg "wrong_row" = some (.ref fW)) (gR : mg "is_ratio_row" = some (.ref fR)) : FnOk P w K mg base (L2.CX P w) (k + 2) f fd ["part", "rows", "worlds", "least", "most"] (spChkG K CN) := by
  refine F.okX scChkG (fun vs H Q E h => ?_) (fun cdv A outer s H vs Q E hr h => ?_)
  · obtain ⟨ex, pt, v, d, ww, lo, hi, rfl, _⟩ := h
    rfl
  · obtain ⟨ex, pt, v, d, ww, lo, hi, rfl, hv, h6, qE, q⟩ := h
    have hk : Room k _ := hr.mono (by omega)
    refine ⟨_, (pss_cons (ps_if (pt_not (pt_val (pe_call GL hk (by rfl) gL kL bL .nil pass0 (pa_cons (pv 1) (pa_cons (pv 2) (pa_cons (pv 2) pa_nil)))))) (pss_one (ps_raise (W := fun cls d _ H' => E cls d H') rfl (takes_of rfl rfl rfl rfl) (pmk_oex N.o N.i N.t GN hr bN .nil pass0 (by rfl) N.g (pa_cons (pv 0) (pa_cons pe_non pa_nil))))) pss_nil)
      (pss_cons (ps_set (i := 5) scChkG.nd rfl (.inl rfl) (pe_call GW hk (by rfl) gW kW bW .nil pass0 (pa_cons (pv 1) (pa_cons (pe_glob (v := .ref fR) (by rfl) gR rfl) (pa_cons (pv 3) (pa_cons (pv 4) pa_nil))))))
      (pss_one (ps_if (pt_cmpR op_notN (pv 5) pe_non (nomark _)) (pss_one (ps_raise (W := fun cls d _ H' => E cls d H') rfl (takes_of rfl rfl rfl rfl) (pmk_oex N.o N.i N.t GN hr bN .nil pass0 (by rfl) N.g (pa_cons (pv 0) (pa_cons (pv 5) pa_nil))))) pss_nil)))), ?_⟩
    refine ⟨_, rfl, _, rfl, _, rfl, ex, v, d, ww, ww, rfl, hv, _, rfl, ?_⟩
    unfold badG at qE q
    cases c0 : lenOk (lenD d) ww ww with
    | false =>
      rw [c0] at qE
      exact iteT ⟨_, rfl, mk2 fun dd hdd => qE .non rfl _ dd (same_new hdd _) upd_same⟩
    | true =>
      rw [c0, if_pos rfl] at qE q
      refine iteF ?_
      obtain ⟨ds, rfl, l1, l2⟩ := lenOk_list c0
      cases hv with
      | @lst a xs _ ha hn ts =>
        refine ⟨_, rfl, _, rfl, _, rfl, ex, a, xs, ds, lo, hi, rfl, ha, ts, h6, fun H1 s1 => ?_⟩
        have qE' : ∀ r, (firstWrongZ ds 0 lo hi).map (fun j => V.int (j : Nat)) = some r → _ := qE
        have q' : (firstWrongZ ds 0 lo hi).map (fun j => V.int (j : Nat)) = none → _ := q
        cases fw : firstWrongZ ds 0 lo hi with
        | none =>
          rw [fw] at q'
          exact ⟨_, rfl, rfl, _, rfl, iteF (q' rfl _ s1)⟩
        | some j =>
          rw [fw] at qE'
          refine ⟨_, rfl, rfl, _, rfl, iteT ?_⟩
          exact ⟨_, rfl, _, rfl, mk2 fun dd hdd => qE' _ rfl _ dd (s1.trans (same_new hdd _)) upd_same⟩
theorem scCInit : FnScope ["self", "shares", "hearer", "teller", "deeds"] ["self", "shares", "hearer", "teller"] (defScope sCInit) := ⟨rfl, rfl, rfl, by decide +kernel, rfl, by decide +kernel, by decide +kernel⟩
theorem ok_CInit {fS fG fC CN C fI : Addr} {fd fdS fdG fdC : FuncData} {k : Nat} (F : Fun K "__init__" "Case.__init__" sCInit fI fd) (T : CaT K mg C fI)
    (GS : FnOk P w K mg base (L2.CX P w) k fS fdS ["shares"] (spChkS K CN)) (kS : PySem.W.keepIn K (.ref fS) = true) (bS : Binds K fdS ["shares"] []) (gS : mg "check_shares" = some (.ref fS)) (GG : FnOk P w K mg base (L2.CX P w) k fG fdG ["part", "rows", "worlds", "least", "most"] (spChkG K CN)) (kG : PySem.W.keepIn K (.ref fG) = true) (bG : Binds K fdG ["part", "rows", "worlds", "least", "most"] []) (gG : mg "check_gains" = some (.ref fG)) (GC : FnOk P w K mg base CX0 k fC fdC ["rows"] (spCopied K)) (kC : PySem.W.keepIn K (.ref fC) = true) (bC : Binds K fdC ["rows"] []) (gC : mg "copied_rows" = some (.ref fC)) (B : Blt mg) : FnOk P w K mg base (L2.CX P w) (k + 1) fI fd ["self", "shares", "hearer", "teller"] (spCInit K C CN) := by
  obtain ⟨t6, g6⟩ := T.g6
  refine F.okX scCInit (fun vs H Q E h => ?_) (fun cdv A outer s H vs Q E hr h => ?_)
  · obtain ⟨ex, n, x, dx, vs0, vh, vt, ds, dh, dt, rfl, _⟩ := h
    rfl
  · obtain ⟨ex, n, x, dx, vs0, vh, vt, ds, dh, dt, rfl, hx, hs, hh, ht, hn, fs, fh, ft, qE, q⟩ := h
    have hk := hr
    refine ⟨_, (pss_cons (ps_expr (pe_call GS hk (by rfl) gS kS bS .nil (passes_call (W := fun cls d _ H' => E cls d H') (takes_of rfl rfl rfl rfl) (fun _ _ _ _ h => h)) (pa_cons (pv 1) pa_nil)))
      (pss_cons (ps_expr (pe_call GG hk (by rfl) gG kG bG .nil (passes_call (W := fun cls d _ H' => E cls d H') (takes_of rfl rfl rfl rfl) (fun _ _ _ _ h => h)) (pa_cons pe_str (pa_cons (pv 2) (pa_cons (pe_callB call_len_seq (by rfl) B.len_ PySem.boot_len (pa_cons (pv 1) pa_nil)) (pa_cons pe_int (pa_cons (pe_glob (v := .int 6) (by rfl) g6 ⟨_, rfl⟩) pa_nil)))))))
      (pss_cons (ps_set (i := 4) scCInit.nd rfl (.inl rfl) (pe_callB call_len_seq (by rfl) B.len_ PySem.boot_len (pa_cons (pe_ix ix_list (pv 2) pe_int (fun _ _ => rfl)) pa_nil)))
      (pss_cons (ps_expr (pe_call GG hk (by rfl) gG kG bG .nil (passes_call (W := fun cls d _ H' => E cls d H') (takes_of rfl rfl rfl rfl) (fun _ _ _ _ h => h)) (pa_cons pe_str (pa_cons (pv 3) (pa_cons (pe_callB call_len_seq (by rfl) B.len_ PySem.boot_len (pa_cons (pv 1) pa_nil)) (pa_cons (pv 4) (pa_cons (pv 4) pa_nil)))))))
      (pss_cons (ps_fld (pv 0) (pe_callTy (T := "list") call_list_of (by rfl) B.list_ (by decide +kernel) (pa_cons (pv 1) pa_nil)) rfl)
      (pss_cons (ps_fld (pv 0) (pe_call GC hk (by rfl) gC kC bC .nil pass0 (pa_cons (pv 2) pa_nil)) rfl)
      (pss_one (ps_fld (pv 0) (pe_call GC hk (by rfl) gC kC bC .nil pass0 (pa_cons (pv 3) pa_nil)) rfl)))))))), ?_⟩
    refine ⟨_, rfl, ex, vs0, ds, rfl, hs, fun d hd r e => (fs d hd r e).mono hn, fun r er => ?_, fun eS H1 s1 => ?_⟩
    · have e : badC ds dh dt = some (("shares" : Str), r) := by unfold badC; rw [er]; rfl
      exact qE _ _ e
    have c0 : lenOk (lenD ds) 1 5 = true := by
      unfold badS at eS
      split at eS
      · assumption
      · cases eS
    obtain ⟨es, rfl, l1, l5⟩ := lenOk_list c0
    have hs1 := hs.same s1
    cases hs with
    | @lst a0 xs0 _ ha0 _ ts0 =>
      have hl0 : xs0.length = es.length := ts0.len
      refine ⟨_, rfl, _, rfl, a0, xs0, rfl, .inl (SqL.of (s1 _ _ ha0)), ex, "hearer", vh, dh, _, 1, 6, rfl, hh.same s1, by decide, fun r er H' dd s' hdd => ?_, fun eH H2 s2 => ?_⟩
      · refine qE "hearer" r ?_ H' dd (s1.trans s') hdd
        unfold badC
        rw [eS]
        show orP "hearer" (badG dh (es.length : Int) 1 6) _ = _
        rw [← hl0, er]
        rfl
      have eH' : badG dh (es.length : Int) 1 6 = none := by rw [← hl0]; exact eH
      have ch : lenOk (lenD dh) (es.length : Int) (es.length : Int) = true := by
        unfold badG at eH'
        split at eH'
        · assumption
        · cases eH'
      obtain ⟨hs', rfl, m1, m2⟩ := lenOk_list ch
      have fwH : firstWrongZ hs' 0 1 6 = none := by
        unfold badG at eH'
        rw [if_pos ch] at eH'
        cases z : firstWrongZ hs' 0 1 6 with
        | none => rfl
        | some j =>
          have : (firstWrongZ hs' 0 1 6).map (fun j => V.int (j : Nat)) = none := eH'
          rw [z] at this
          cases this
      cases hh with
      | @lst a1 xs1 _ ha1 _ ts1 =>
        obtain ⟨rh, hss, w1, w2, w3⟩ := rows_of ts1 fh fwH
        have hl1 : rh.length = es.length := by
          have := ts1.len
          rw [w1, List.length_map] at this
          omega
        have h0 : 0 < rh.length := by omega
        have er0 : rh[0]? = some rh[0] := List.getElem?_eq_getElem h0
        obtain ⟨cs0, q0, z1, z2, z3⟩ := w3.2 0 _ er0
        have s12 := s1.trans s2
        have hd : (cs0.length : Int) = (deedsD (.list hs') : Int) := by
          have : deedsD (.list hs') = cs0.length := by
            unfold deedsD
            show (itemsD (hs'.headD .none)).length = _
            rw [w2]
            cases hss with
            | nil => simp at z1
            | cons r hss =>
              have er : r = q0 := Option.some.inj z1
              show (r.map dR).length = _
              rw [List.length_map, z3.len, er]
          rw [this]
        have hd6 : (cs0.length : Int) ≤ 6 := by
          cases hs' with
          | nil =>
            have : es.length ≤ 0 := by simpa using m1
            omega
          | cons r hs' =>
            rw [firstWrongZ] at fwH
            split at fwH
            · rename_i c
              unfold rowOkZ at c
              rw [Bool.and_eq_true] at c
              obtain ⟨es', e, _, l6⟩ := lenOk_list c.1
              rw [hd]
              subst e
              exact l6
            · cases fwH
        refine ⟨_, rfl, a1, _, 0, .ref rh[0], rfl, rfl, SqL.of (s12 _ _ ha1), atI_nat (j := 0) (by rw [w1, List.getElem?_map, er0]; rfl), rh[0], cs0, rfl, .inl (SqL.of (s12 _ _ z2)), ?_⟩
        refine ⟨_, rfl, _, rfl, a0, xs0, rfl, .inl (SqL.of (s12 _ _ ha0)), _, rfl, _, rfl, ex, "teller", vt, dt, _, _, _, rfl, ht.same s12, hd6, fun r er H' dd s' hdd => ?_, fun eT H3 s3 => ?_⟩
        · refine qE "teller" r ?_ H' dd (s12.trans s') hdd
          unfold badC
          rw [eS]
          show orP "hearer" (badG (.list hs') (es.length : Int) 1 6) (orP "teller" (badG dt (es.length : Int) (deedsD (.list hs') : Int) (deedsD (.list hs') : Int)) none) = _
          rw [eH', ← hd, ← hl0, er]
          rfl
        have eT' : badG dt (es.length : Int) (deedsD (.list hs') : Int) (deedsD (.list hs') : Int) = none := by rw [← hd, ← hl0]; exact eT
        have ct : lenOk (lenD dt) (es.length : Int) (es.length : Int) = true := by
          unfold badG at eT'
          split at eT'
          · assumption
          · cases eT'
        obtain ⟨ts', rfl, n1, n2⟩ := lenOk_list ct
        have fwT : firstWrongZ ts' 0 (deedsD (.list hs') : Int) (deedsD (.list hs') : Int) = none := by
          unfold badG at eT'
          rw [if_pos ct] at eT'
          cases z : firstWrongZ ts' 0 (deedsD (.list hs') : Int) (deedsD (.list hs') : Int) with
          | none => rfl
          | some j =>
            have : (firstWrongZ ts' 0 (deedsD (.list hs') : Int) (deedsD (.list hs') : Int)).map (fun j => V.int (j : Nat)) = none := eT'
            rw [z] at this
            cases this
        have good : badC (.list es) (.list hs') (.list ts') = none := by
          unfold badC
          rw [eS]
          show orP "hearer" (badG (.list hs') (es.length : Int) 1 6) (orP "teller" (badG (.list ts') (es.length : Int) (deedsD (.list hs') : Int) (deedsD (.list hs') : Int)) none) = _
          rw [eH', eT']
          rfl
        cases ht with
        | @lst a2 xs2 _ ha2 _ ts2 =>
          obtain ⟨rt, tss, v1, v2, v3⟩ := rows_of ts2 ft fwT
          have hrat : es.all (fun e => (ratD e).isSome) = true := by
            have z : firstNot shD es 0 = none := by
              unfold badS at eS
              rw [if_pos c0] at eS
              have eS' : numS (firstNot shD es 0) (sumD es) = none := eS
              cases z : firstNot shD es 0 with
              | none => rfl
              | some j => rw [z] at eS'; cases eS'
            have hall := firstNot_all z
            rw [List.all_eq_true] at hall ⊢
            intro e he
            have := hall e he
            unfold shD at this
            cases z : ratD e with
            | none => rw [z] at this; cases this
            | some q => rfl
          obtain ⟨qs, g1, g2⟩ := ts0.rats (n := n) fs hrat
          have s123 := s12.trans s3
          have hhl : hss.length ≤ 100 := by have := w3.1; omega
          have htl : tss.length ≤ 100 := by
            have := v3.1
            have z := ts2.len
            rw [v1, List.length_map] at z
            omega
          -- the fields
          refine ⟨_, rfl, a0, xs0, rfl, .inl (SqL.of (s123 _ _ ha0)), fun sa nsa => ?_⟩
          have t1 := same_new nsa (.lst xs0)
          have esa : (upd H3 sa (.lst xs0)) sa = some (.lst xs0) := upd_same
          generalize upd H3 sa (.lst xs0) = H4 at t1 esa ⊢
          have s4 := s123.trans t1
          refine ⟨_, rfl, x, C, dx, [], rfl, s4 _ _ hx, T.cl, T.n1, by decide, ?_⟩
          have kx : ∀ {H1 : Hp} {fs gs : List (Str × V)}, H1 x = some (.ins C dx fs) → ∀ b xs, SqT K H1 b xs → SqT K (upd H1 x (.ins C dx gs)) b xs := fun {H1 fs gs} hx b xs z => by
            rcases z with (z | ⟨o, z⟩) | z
            · exact .inl (.inl (by rw [upd_ne (ne_of z hx (by intro w; cases w))]; exact z))
            · exact .inl (.inr ⟨o, by rw [upd_ne (ne_of z hx (by intro w; cases w))]; exact z⟩)
            · exact .inr z
          have wh : RwL K H4 a1 rh hss n := RwL.same ⟨by rw [← w1]; exact ha1, w3⟩ s4
          have wt : RwL K H4 a2 rt tss n := RwL.same ⟨by rw [← v1]; exact ha2, v3⟩ s4
          have hx4 := s4 _ _ hx
          have hx5 : (upd H4 x (.ins C dx (putF "own_shares" (.ref sa) []))) x = some (.ins C dx [("own_shares", .ref sa)]) := upd_same
          have wh5 := Rs.RwL.ins (gs := putF "own_shares" (.ref sa) []) wh hx4
          have wt5 := Rs.RwL.ins (gs := putF "own_shares" (.ref sa) []) wt hx4
          have sa5 : (upd H4 x (.ins C dx (putF "own_shares" (.ref sa) []))) sa = some (.lst xs0) := by rw [upd_ne (ne_of esa hx4 (by intro w; cases w))]; exact esa
          have fr5 : FrN K (upd H4 x (.ins C dx (putF "own_shares" (.ref sa) []))) n xs0 qs := (g2.same s4).keep (kx hx4)
          have k5 : ∀ b ob, b ≠ x → H b = some ob → (upd H4 x (.ins C dx (putF "own_shares" (.ref sa) []))) b = some ob := fun b ob hb e => by rw [upd_ne hb]; exact s4 _ _ e
          generalize upd H4 x (.ins C dx (putF "own_shares" (.ref sa) [])) = H5 at hx5 wh5 wt5 sa5 fr5 k5 ⊢
          refine ⟨_, rfl, a1, rh, hss, n, rfl, wh5, hhl, fun hA rh' H6 fr6 => ?_⟩
          have s6 := fr6.2.2.2.2.2
          have hx6 := s6 _ _ hx5
          refine ⟨_, rfl, x, C, dx, _, rfl, hx6, T.cl, T.n2, (by show 1 < 1000; decide), ?_⟩
          have hx7 : (upd H6 x (.ins C dx (putF "own_hearer" (.ref hA) [("own_shares", .ref sa)]))) x = some (.ins C dx [("own_shares", .ref sa), ("own_hearer", .ref hA)]) := upd_same
          have wA7 := Rs.RwL.ins (gs := putF "own_hearer" (.ref hA) [("own_shares", .ref sa)]) fr6.1 hx6
          have wt7 := Rs.RwL.ins (gs := putF "own_hearer" (.ref hA) [("own_shares", .ref sa)]) (wt5.same s6) hx6
          have sa7 : (upd H6 x (.ins C dx (putF "own_hearer" (.ref hA) [("own_shares", .ref sa)]))) sa = some (.lst xs0) := by rw [upd_ne (ne_of (s6 _ _ sa5) hx6 (by intro w; cases w))]; exact s6 _ _ sa5
          have fr7 : FrN K (upd H6 x (.ins C dx (putF "own_hearer" (.ref hA) [("own_shares", .ref sa)]))) n xs0 qs := (fr5.same s6).keep (kx hx6)
          have k7 : ∀ b ob, b ≠ x → H b = some ob → (upd H6 x (.ins C dx (putF "own_hearer" (.ref hA) [("own_shares", .ref sa)]))) b = some ob := fun b ob hb e => by rw [upd_ne hb]; exact s6 _ _ (k5 b ob hb e)
          generalize upd H6 x (.ins C dx (putF "own_hearer" (.ref hA) [("own_shares", .ref sa)])) = H7 at hx7 wA7 wt7 sa7 fr7 k7 ⊢
          refine ⟨_, rfl, a2, rt, tss, n, rfl, wt7, htl, fun tA rt' H8 fr8 => ?_⟩
          have s8 := fr8.2.2.2.2.2
          have hx8 := s8 _ _ hx7
          refine ⟨_, rfl, x, C, dx, _, rfl, hx8, T.cl, T.n3, (by show 2 < 1000; decide), ?_⟩
          refine q good sa hA tA xs0 rh' rt' qs hss tss _ (fun b ob hb e => ?_) upd_same ?_ ((fr7.same s8).keep (kx hx8)) (Rs.RwL.ins (wA7.same s8) hx8) (Rs.RwL.ins fr8.1 hx8) (by rw [g1]) (by rw [w2]; rfl) (by rw [v2]; rfl)
          · rw [upd_ne hb]
            exact s8 _ _ (k7 b ob hb e)
          · rw [upd_ne (ne_of (s8 _ _ sa7) hx8 (by intro w; cases w))]
            exact s8 _ _ sa7
end
end K06

set_option Elab.async false
set_option linter.all false
set_option maxRecDepth 100000
set_option maxHeartbeats 16000000
namespace K06
open PySem PySem.Spec PyProof.Rows L2 BX EXB Co Ru
open Dz Cs Hr Gs
open Rs (Rsp Rv Ret tYes_of dV datR Flat Okr spShares spRowsL spTotal spCopied eqv_dR)
open Fr (Bd)
def spCInitF (K : PySem.W.Frag) (C CN : Addr) : Sp := fun vs H Q E => ∃ (ex : Addr → Prop) (n : Nat) (x dx : Addr) (vs0 vh vt : V) (ds dh dt : PyData), vs = [.ref x, vs0, vh, vt] ∧ H x = some (.ins C dx []) ∧ Dz.Dz K H ex vs0 ds ∧ Dz.Dz K H ex vh dh ∧ Dz.Dz K H ex vt dt ∧
  n ≤ 1000 ∧ Few n (itemsD ds) ∧ (∀ d ∈ itemsD dh, Few n (itemsD d)) ∧ (∀ d ∈ itemsD dt, Few n (itemsD d)) ∧
  (∀ p r, badC ds dh dt = some (p, r) → ∀ H' dd, Same H H' → H' dd = some (.xd [("number", r), ("part", .str p)]) → E (.ref CN) (some dd) H') ∧
  (badC ds dh dt = none → ∀ sa ha ta cs rh rt qs hss tss H', (∀ b ob, b ≠ x → H b = some ob → H' b = some ob) → H' x = some (.ins C dx [("own_shares", .ref sa), ("own_hearer", .ref ha), ("own_teller", .ref ta)]) → H' sa = some (.lst cs) → FrN K H' n cs qs → RwL K H' ha rh hss n → RwL K H' ta rt tss n →
    ds = dS qs → dh = dRows hss → dt = dRows tss → H sa = none → H ha = none → (∀ r ∈ rh, H r = none) → H ta = none → (∀ r ∈ rt, H r = none) → Q .non H')
theorem mk_caseF {K : PySem.W.Frag} {n : Nat} (hn : n ≤ 1000) {C CN A B' C' : Addr} {H : Hp} {cs : List V} {rh rt : List Addr} {qs : List Rat} {hss tss : List (List Rat)} {ww dd : Nat} {Q : Addr → Hp → Prop} (e2 : H A = some (.lst cs)) (e3 : FrN K H n cs qs) (e4 : RwL K H B' rh hss n) (e5 : RwL K H C' rt tss n) (g : GoodC qs hss tss ww dd) (q : ∀ x dx sa ha ta cs rh rt H', Same H H' → H x = none → H' x = some (.ins C dx [("own_shares", .ref sa), ("own_hearer", .ref ha), ("own_teller", .ref ta)]) → H' sa = some (.lst cs) → FrN K H' n cs qs → RwL K H' ha rh hss n → RwL K H' ta rt tss n → H sa = none → H ha = none → (∀ r ∈ rh, H r = none) → H ta = none → (∀ r ∈ rt, H r = none) → Q x H') :
    ∀ x dx, H x = none → H dx = none → dx ≠ x → spCInitF K C CN [.ref x, .ref A, .ref B', .ref C'] (upd (upd H dx (.own x)) x (.ins C dx [])) (fun v H2 => v = .non ∧ Q x H2) E0 := by
  intro x dx hx hdx hne
  have s1 := same_new hdx (.own x)
  have hx1 : (upd H dx (.own x)) x = none := by rw [upd_ne (Ne.symm hne)]; exact hx
  have s2 := s1.trans (same_new hx1 (.ins C dx []))
  refine ⟨fun _ => False, n, x, dx, .ref A, .ref B', .ref C', dS qs, dRows hss, dRows tss, rfl, upd_same, .lst (s2 _ _ e2) (fun z => z) ((frn_dz e3).same s2), .lst (s2 _ _ e4.1) (fun z => z) ((rows_dz e4.2 fun _ _ z => z).same s2), .lst (s2 _ _ e5.1) (fun z => z) ((rows_dz e5.2 fun _ _ z => z).same s2), hn, few_dR e3, few_rows e4.2, few_rows e5.2, fun p r er => ?_, fun _ sa ha ta cs' rh' rt' qs' hss' tss' H' kp hx' g1 g2 g3 g4 i1 i2 i3 f1 f2 f3 f4 f5 => ⟨rfl, ?_⟩⟩
  · rw [badC_good g] at er
    cases er
  · have j1 := dS_inj i1
    have j2 := dRows_inj i2
    have j3 := dRows_inj i3
    subst j1 j2 j3
    exact q x dx sa ha ta cs' rh' rt' H' (fun b ob e => kp b ob (ne_of_none e hx) (s2 _ _ e)) hx hx' g1 g2 g3 g4 (s2.free f1) (s2.free f2) (fun r hr => s2.free (f3 r hr)) (s2.free f4) (fun r hr => s2.free (f5 r hr))

/-- a case made of lists, apart from all that was there -/
theorem mk_caseG {K : PySem.W.Frag} {G : Hp} {C CN S hA tA : Addr} {cs : List V} {qs : List Rat} {hss tss : List (List Rat)} {rh rt : List Addr} {n ww dd : Nat} {H : Hp} {Q : Addr → Hp → Prop} (hn : n ≤ 1000) (fr : Frz K G H) (hS : H S = some (.lst cs)) (hf : FrN K H n cs qs) (hh : RwL K H hA rh hss n) (ht : RwL K H tA rt tss n) (g : GoodC qs hss tss ww dd)
    (q : ∀ z H', Same H H' → H z = none → IsCase K (ext G H H') C z qs hss tss n → Q z H') :
    ∀ x dx, H x = none → H dx = none → dx ≠ x → spCInitF K C CN [.ref x, .ref S, .ref hA, .ref tA] (upd (upd H dx (.own x)) x (.ins C dx [])) (fun v H2 => v = .non ∧ Q x H2) E0 :=
  mk_caseF (n := n) hn (CN := CN) hS hf hh ht g fun z dz sz hz tz cz rhz rtz H9 s9 nz hz1 hz2 hz3 hz4 hz5 f1 f2 f3 f4 f5 => by
    have f9 := fr.more s9
    exact q z H9 s9 nz ⟨dz, sz, hz, tz, cz, rhz, rtz, by rw [ext_new nz]; exact hz1, by rw [ext_new f1]; exact hz2, frn_ext f9 hz3, rwl_ext f9 hz4 f2 f3, rwl_ext f9 hz5 f4 f5⟩
def spCWithF (K : PySem.W.Frag) (C : Addr) : Sp := fun vs H Q _ => ∃ (G : Hp) (x S : Addr) (qs : List Rat) (hss tss : List (List Rat)) (ws : List Rat) (cs : List V) (n m ww dd : Nat), vs = [.ref x, .ref S] ∧ IsCase K H C x qs hss tss n ∧ GoodC qs hss tss ww dd ∧ H S = some (.lst cs) ∧ FrN K H m cs ws ∧ RowOk ww ws ∧ m ≤ n ∧ n ≤ 1000 ∧ Frz K G H ∧
  ∀ z H', Same H H' → H z = none → IsCase K (ext G H H') C z ws hss tss n → Q (.ref z) H'
def caseS (ww dd : Nat) : Str := (((Str.empty ++ Str.ofString (toString (ww : Int))) ++ " worlds, ") ++ Str.ofString (toString (dd : Int))) ++ " deeds"
def caseR (qs : List Rat) (hss tss : List (List Rat)) : Str := ((((((Str.empty ++ "Case(") ++ (PyData.list (qs.map dR)).shown) ++ ", ") ++ (dRows hss).shown) ++ ", ") ++ (dRows tss).shown) ++ ")"
def spCStr (K : PySem.W.Frag) (C : Addr) : Sp := fun vs H Q _ => ∃ (x : Addr) (qs : List Rat) (hss tss : List (List Rat)) (n ww dd : Nat), vs = [.ref x] ∧ IsCase K H C x qs hss tss n ∧ GoodC qs hss tss ww dd ∧ Q (.str (caseS ww dd)) H
def spCRepr (K : PySem.W.Frag) (C : Addr) : Sp := fun vs H Q _ => ∃ (x : Addr) (qs : List Rat) (hss tss : List (List Rat)) (n ww dd : Nat), vs = [.ref x] ∧ IsCase K H C x qs hss tss n ∧ GoodC qs hss tss ww dd ∧ n ≤ 20 ∧ Q (.str (caseR qs hss tss)) H
/-- of another kind than cases -/
def Odd (K : PySem.W.Frag) (H : Hp) (C : Addr) (y : V) : Prop := ∃ t, TyX K H y t ∧ PySem.W.kitOne K t (.ref C) = some false
def spCEq (K : PySem.W.Frag) (C : Addr) : Sp := fun vs H Q _ => ∃ (x : Addr) (y : V) (qs : List Rat) (hss tss : List (List Rat)) (n : Nat), vs = [.ref x, y] ∧ IsCase K H C x qs hss tss n ∧
  ((Odd K H C y ∧ Q (.bl false) H) ∨ ∃ (y' : Addr) (us : List Rat) (iss kss : List (List Rat)) (m : Nat), y = .ref y' ∧ IsCase K H C y' us iss kss m ∧ Q (.bl (decide (qs = us ∧ hss = iss ∧ tss = kss))) H)
section
variable {P : Program} {w : World} {K : PySem.W.Frag} {mg : Str → Option Value} {base : Heap}
theorem ok_CInitF {fS fG fC CN C fI : Addr} {fd fdS fdG fdC : FuncData} {k : Nat} (F : Fun K "__init__" "Case.__init__" sCInit fI fd) (T : CaT K mg C fI)
    (GS : FnOk P w K mg base (L2.CX P w) k fS fdS ["shares"] (spChkS K CN)) (kS : PySem.W.keepIn K (.ref fS) = true) (bS : Binds K fdS ["shares"] []) (gS : mg "check_shares" = some (.ref fS)) (GG : FnOk P w K mg base (L2.CX P w) k fG fdG ["part", "rows", "worlds", "least", "most"] (spChkG K CN)) (kG : PySem.W.keepIn K (.ref fG) = true) (bG : Binds K fdG ["part", "rows", "worlds", "least", "most"] []) (gG : mg "check_gains" = some (.ref fG)) (GC : FnOk P w K mg base CX0 k fC fdC ["rows"] (spCopied K)) (kC : PySem.W.keepIn K (.ref fC) = true) (bC : Binds K fdC ["rows"] []) (gC : mg "copied_rows" = some (.ref fC)) (B : Blt mg) : FnOk P w K mg base (L2.CX P w) (k + 1) fI fd ["self", "shares", "hearer", "teller"] (spCInitF K C CN) := by
  obtain ⟨t6, g6⟩ := T.g6
  refine F.okX scCInit (fun vs H Q E h => ?_) (fun cdv A outer s H vs Q E hr h => ?_)
  · obtain ⟨ex, n, x, dx, vs0, vh, vt, ds, dh, dt, rfl, _⟩ := h
    rfl
  · obtain ⟨ex, n, x, dx, vs0, vh, vt, ds, dh, dt, rfl, hx, hs, hh, ht, hn, fs, fh, ft, qE, q⟩ := h
    have hk := hr
    refine ⟨_, (pss_cons (ps_expr (pe_call GS hk (by rfl) gS kS bS .nil (passes_call (W := fun cls d _ H' => E cls d H') (takes_of rfl rfl rfl rfl) (fun _ _ _ _ h => h)) (pa_cons (pv 1) pa_nil)))
      (pss_cons (ps_expr (pe_call GG hk (by rfl) gG kG bG .nil (passes_call (W := fun cls d _ H' => E cls d H') (takes_of rfl rfl rfl rfl) (fun _ _ _ _ h => h)) (pa_cons pe_str (pa_cons (pv 2) (pa_cons (pe_callB call_len_seq (by rfl) B.len_ PySem.boot_len (pa_cons (pv 1) pa_nil)) (pa_cons pe_int (pa_cons (pe_glob (v := .int 6) (by rfl) g6 ⟨_, rfl⟩) pa_nil)))))))
      (pss_cons (ps_set (i := 4) scCInit.nd rfl (.inl rfl) (pe_callB call_len_seq (by rfl) B.len_ PySem.boot_len (pa_cons (pe_ix ix_list (pv 2) pe_int (fun _ _ => rfl)) pa_nil)))
      (pss_cons (ps_expr (pe_call GG hk (by rfl) gG kG bG .nil (passes_call (W := fun cls d _ H' => E cls d H') (takes_of rfl rfl rfl rfl) (fun _ _ _ _ h => h)) (pa_cons pe_str (pa_cons (pv 3) (pa_cons (pe_callB call_len_seq (by rfl) B.len_ PySem.boot_len (pa_cons (pv 1) pa_nil)) (pa_cons (pv 4) (pa_cons (pv 4) pa_nil)))))))
      (pss_cons (ps_fld (pv 0) (pe_callTy (T := "list") call_list_of (by rfl) B.list_ (by decide +kernel) (pa_cons (pv 1) pa_nil)) rfl)
      (pss_cons (ps_fld (pv 0) (pe_call GC hk (by rfl) gC kC bC .nil pass0 (pa_cons (pv 2) pa_nil)) rfl)
      (pss_one (ps_fld (pv 0) (pe_call GC hk (by rfl) gC kC bC .nil pass0 (pa_cons (pv 3) pa_nil)) rfl)))))))), ?_⟩
    refine ⟨_, rfl, ex, vs0, ds, rfl, hs, fun d hd r e => (fs d hd r e).mono hn, fun r er => ?_, fun eS H1 s1 => ?_⟩
    · have e : badC ds dh dt = some (("shares" : Str), r) := by unfold badC; rw [er]; rfl
      exact qE _ _ e
    have c0 : lenOk (lenD ds) 1 5 = true := by
      unfold badS at eS
      split at eS
      · assumption
      · cases eS
    obtain ⟨es, rfl, l1, l5⟩ := lenOk_list c0
    have hs1 := hs.same s1
    cases hs with
    | @lst a0 xs0 _ ha0 _ ts0 =>
      have hl0 : xs0.length = es.length := ts0.len
      refine ⟨_, rfl, _, rfl, a0, xs0, rfl, .inl (SqL.of (s1 _ _ ha0)), ex, "hearer", vh, dh, _, 1, 6, rfl, hh.same s1, by decide, fun r er H' dd s' hdd => ?_, fun eH H2 s2 => ?_⟩
      · refine qE "hearer" r ?_ H' dd (s1.trans s') hdd
        unfold badC
        rw [eS]
        show orP "hearer" (badG dh (es.length : Int) 1 6) _ = _
        rw [← hl0, er]
        rfl
      have eH' : badG dh (es.length : Int) 1 6 = none := by rw [← hl0]; exact eH
      have ch : lenOk (lenD dh) (es.length : Int) (es.length : Int) = true := by
        unfold badG at eH'
        split at eH'
        · assumption
        · cases eH'
      obtain ⟨hs', rfl, m1, m2⟩ := lenOk_list ch
      have fwH : firstWrongZ hs' 0 1 6 = none := by
        unfold badG at eH'
        rw [if_pos ch] at eH'
        cases z : firstWrongZ hs' 0 1 6 with
        | none => rfl
        | some j =>
          have : (firstWrongZ hs' 0 1 6).map (fun j => V.int (j : Nat)) = none := eH'
          rw [z] at this
          cases this
      cases hh with
      | @lst a1 xs1 _ ha1 _ ts1 =>
        obtain ⟨rh, hss, w1, w2, w3⟩ := rows_of ts1 fh fwH
        have hl1 : rh.length = es.length := by
          have := ts1.len
          rw [w1, List.length_map] at this
          omega
        have h0 : 0 < rh.length := by omega
        have er0 : rh[0]? = some rh[0] := List.getElem?_eq_getElem h0
        obtain ⟨cs0, q0, z1, z2, z3⟩ := w3.2 0 _ er0
        have s12 := s1.trans s2
        have hd : (cs0.length : Int) = (deedsD (.list hs') : Int) := by
          have : deedsD (.list hs') = cs0.length := by
            unfold deedsD
            show (itemsD (hs'.headD .none)).length = _
            rw [w2]
            cases hss with
            | nil => simp at z1
            | cons r hss =>
              have er : r = q0 := Option.some.inj z1
              show (r.map dR).length = _
              rw [List.length_map, z3.len, er]
          rw [this]
        have hd6 : (cs0.length : Int) ≤ 6 := by
          cases hs' with
          | nil =>
            have : es.length ≤ 0 := by simpa using m1
            omega
          | cons r hs' =>
            rw [firstWrongZ] at fwH
            split at fwH
            · rename_i c
              unfold rowOkZ at c
              rw [Bool.and_eq_true] at c
              obtain ⟨es', e, _, l6⟩ := lenOk_list c.1
              rw [hd]
              subst e
              exact l6
            · cases fwH
        refine ⟨_, rfl, a1, _, 0, .ref rh[0], rfl, rfl, SqL.of (s12 _ _ ha1), atI_nat (j := 0) (by rw [w1, List.getElem?_map, er0]; rfl), rh[0], cs0, rfl, .inl (SqL.of (s12 _ _ z2)), ?_⟩
        refine ⟨_, rfl, _, rfl, a0, xs0, rfl, .inl (SqL.of (s12 _ _ ha0)), _, rfl, _, rfl, ex, "teller", vt, dt, _, _, _, rfl, ht.same s12, hd6, fun r er H' dd s' hdd => ?_, fun eT H3 s3 => ?_⟩
        · refine qE "teller" r ?_ H' dd (s12.trans s') hdd
          unfold badC
          rw [eS]
          show orP "hearer" (badG (.list hs') (es.length : Int) 1 6) (orP "teller" (badG dt (es.length : Int) (deedsD (.list hs') : Int) (deedsD (.list hs') : Int)) none) = _
          rw [eH', ← hd, ← hl0, er]
          rfl
        have eT' : badG dt (es.length : Int) (deedsD (.list hs') : Int) (deedsD (.list hs') : Int) = none := by rw [← hd, ← hl0]; exact eT
        have ct : lenOk (lenD dt) (es.length : Int) (es.length : Int) = true := by
          unfold badG at eT'
          split at eT'
          · assumption
          · cases eT'
        obtain ⟨ts', rfl, n1, n2⟩ := lenOk_list ct
        have fwT : firstWrongZ ts' 0 (deedsD (.list hs') : Int) (deedsD (.list hs') : Int) = none := by
          unfold badG at eT'
          rw [if_pos ct] at eT'
          cases z : firstWrongZ ts' 0 (deedsD (.list hs') : Int) (deedsD (.list hs') : Int) with
          | none => rfl
          | some j =>
            have : (firstWrongZ ts' 0 (deedsD (.list hs') : Int) (deedsD (.list hs') : Int)).map (fun j => V.int (j : Nat)) = none := eT'
            rw [z] at this
            cases this
        have good : badC (.list es) (.list hs') (.list ts') = none := by
          unfold badC
          rw [eS]
          show orP "hearer" (badG (.list hs') (es.length : Int) 1 6) (orP "teller" (badG (.list ts') (es.length : Int) (deedsD (.list hs') : Int) (deedsD (.list hs') : Int)) none) = _
          rw [eH', eT']
          rfl
        cases ht with
        | @lst a2 xs2 _ ha2 _ ts2 =>
          obtain ⟨rt, tss, v1, v2, v3⟩ := rows_of ts2 ft fwT
          have hrat : es.all (fun e => (ratD e).isSome) = true := by
            have z : firstNot shD es 0 = none := by
              unfold badS at eS
              rw [if_pos c0] at eS
              have eS' : numS (firstNot shD es 0) (sumD es) = none := eS
              cases z : firstNot shD es 0 with
              | none => rfl
              | some j => rw [z] at eS'; cases eS'
            have hall := firstNot_all z
            rw [List.all_eq_true] at hall ⊢
            intro e he
            have := hall e he
            unfold shD at this
            cases z : ratD e with
            | none => rw [z] at this; cases this
            | some q => rfl
          obtain ⟨qs, g1, g2⟩ := ts0.rats (n := n) fs hrat
          have s123 := s12.trans s3
          have hhl : hss.length ≤ 100 := by have := w3.1; omega
          have htl : tss.length ≤ 100 := by
            have := v3.1
            have z := ts2.len
            rw [v1, List.length_map] at z
            omega
          -- the fields
          refine ⟨_, rfl, a0, xs0, rfl, .inl (SqL.of (s123 _ _ ha0)), fun sa nsa => ?_⟩
          have t1 := same_new nsa (.lst xs0)
          have esa : (upd H3 sa (.lst xs0)) sa = some (.lst xs0) := upd_same
          generalize upd H3 sa (.lst xs0) = H4 at t1 esa ⊢
          have s4 := s123.trans t1
          refine ⟨_, rfl, x, C, dx, [], rfl, s4 _ _ hx, T.cl, T.n1, by decide, ?_⟩
          have kx : ∀ {H1 : Hp} {fs gs : List (Str × V)}, H1 x = some (.ins C dx fs) → ∀ b xs, SqT K H1 b xs → SqT K (upd H1 x (.ins C dx gs)) b xs := fun {H1 fs gs} hx b xs z => by
            rcases z with (z | ⟨o, z⟩) | z
            · exact .inl (.inl (by rw [upd_ne (ne_of z hx (by intro w; cases w))]; exact z))
            · exact .inl (.inr ⟨o, by rw [upd_ne (ne_of z hx (by intro w; cases w))]; exact z⟩)
            · exact .inr z
          have wh : RwL K H4 a1 rh hss n := RwL.same ⟨by rw [← w1]; exact ha1, w3⟩ s4
          have wt : RwL K H4 a2 rt tss n := RwL.same ⟨by rw [← v1]; exact ha2, v3⟩ s4
          have hx4 := s4 _ _ hx
          have hx5 : (upd H4 x (.ins C dx (putF "own_shares" (.ref sa) []))) x = some (.ins C dx [("own_shares", .ref sa)]) := upd_same
          have wh5 := Rs.RwL.ins (gs := putF "own_shares" (.ref sa) []) wh hx4
          have wt5 := Rs.RwL.ins (gs := putF "own_shares" (.ref sa) []) wt hx4
          have sa5 : (upd H4 x (.ins C dx (putF "own_shares" (.ref sa) []))) sa = some (.lst xs0) := by rw [upd_ne (ne_of esa hx4 (by intro w; cases w))]; exact esa
          have fr5 : FrN K (upd H4 x (.ins C dx (putF "own_shares" (.ref sa) []))) n xs0 qs := (g2.same s4).keep (kx hx4)
          have k5 : ∀ b ob, b ≠ x → H b = some ob → (upd H4 x (.ins C dx (putF "own_shares" (.ref sa) []))) b = some ob := fun b ob hb e => by rw [upd_ne hb]; exact s4 _ _ e
          generalize upd H4 x (.ins C dx (putF "own_shares" (.ref sa) [])) = H5 at hx5 wh5 wt5 sa5 fr5 k5 ⊢
          have frA : ∀ b, H5 b = none → H b = none := fun b z => by
            cases e : H b with
            | none => rfl
            | some ob =>
              have hbx : b ≠ x := fun w => by
                rw [w, hx5] at z
                cases z
              have := k5 b ob hbx e
              rw [z] at this
              cases this
          refine ⟨_, rfl, a1, rh, hss, n, rfl, wh5, hhl, fun hA rh' H6 fr6 => ?_⟩
          have s6 := fr6.2.2.2.2.2
          have hx6 := s6 _ _ hx5
          refine ⟨_, rfl, x, C, dx, _, rfl, hx6, T.cl, T.n2, (by show 1 < 1000; decide), ?_⟩
          have hx7 : (upd H6 x (.ins C dx (putF "own_hearer" (.ref hA) [("own_shares", .ref sa)]))) x = some (.ins C dx [("own_shares", .ref sa), ("own_hearer", .ref hA)]) := upd_same
          have wA7 := Rs.RwL.ins (gs := putF "own_hearer" (.ref hA) [("own_shares", .ref sa)]) fr6.1 hx6
          have wt7 := Rs.RwL.ins (gs := putF "own_hearer" (.ref hA) [("own_shares", .ref sa)]) (wt5.same s6) hx6
          have sa7 : (upd H6 x (.ins C dx (putF "own_hearer" (.ref hA) [("own_shares", .ref sa)]))) sa = some (.lst xs0) := by rw [upd_ne (ne_of (s6 _ _ sa5) hx6 (by intro w; cases w))]; exact s6 _ _ sa5
          have fr7 : FrN K (upd H6 x (.ins C dx (putF "own_hearer" (.ref hA) [("own_shares", .ref sa)]))) n xs0 qs := (fr5.same s6).keep (kx hx6)
          have k7 : ∀ b ob, b ≠ x → H b = some ob → (upd H6 x (.ins C dx (putF "own_hearer" (.ref hA) [("own_shares", .ref sa)]))) b = some ob := fun b ob hb e => by rw [upd_ne hb]; exact s6 _ _ (k5 b ob hb e)
          generalize upd H6 x (.ins C dx (putF "own_hearer" (.ref hA) [("own_shares", .ref sa)])) = H7 at hx7 wA7 wt7 sa7 fr7 k7 ⊢
          have frB : ∀ b, H7 b = none → H b = none := fun b z => by
            cases e : H b with
            | none => rfl
            | some ob =>
              have hbx : b ≠ x := fun w => by
                rw [w, hx7] at z
                cases z
              have := k7 b ob hbx e
              rw [z] at this
              cases this
          refine ⟨_, rfl, a2, rt, tss, n, rfl, wt7, htl, fun tA rt' H8 fr8 => ?_⟩
          have s8 := fr8.2.2.2.2.2
          have hx8 := s8 _ _ hx7
          refine ⟨_, rfl, x, C, dx, _, rfl, hx8, T.cl, T.n3, (by show 2 < 1000; decide), ?_⟩
          refine q good sa hA tA xs0 rh' rt' qs hss tss _ (fun b ob hb e => ?_) upd_same ?_ ((fr7.same s8).keep (kx hx8)) (Rs.RwL.ins (wA7.same s8) hx8) (Rs.RwL.ins fr8.1 hx8) (by rw [g1]) (by rw [w2]; rfl) (by rw [v2]; rfl) (s123.free nsa) (frA hA fr6.2.2.2.1) (fun r hr => frA r (fr6.2.2.2.2.1 r hr)) (frB tA fr8.2.2.2.1) (fun r hr => frB r (fr8.2.2.2.2.1 r hr))
          · rw [upd_ne hb]
            exact s8 _ _ (k7 b ob hb e)
          · rw [upd_ne (ne_of (s8 _ _ sa7) hx8 (by intro w; cases w))]
            exact s8 _ _ sa7
theorem ok_ListOf {f : Addr} {fd : FuncData} {k : Nat} (F : Fun K "is_list_of" "is_list_of" sListOf f fd) (B : Blt mg) : FnOk P w K mg base CX0 (k + 1) f fd ["thing", "least", "most"] (spListOf K) := by
  refine F.ok scListOf (fun vs H Q E h => ?_) (fun cdv A outer s H vs Q E hr h => ?_)
  · obtain ⟨a, xs, lo, hi, rfl, _⟩ := h
    rfl
  · obtain ⟨a, xs, lo, hi, rfl, ha, q⟩ := h
    refine ⟨_, pss_one (ps_ret (pe_and (pe_callB call_isi (by rfl) B.isinstance_ (by decide +kernel) (pa_cons (pv 0) (pa_cons (pe_bltn (v := .ty "list") (by rfl) B.list_ (by decide +kernel) rfl) pa_nil)))
      (pe_one (pe_chain op_le op_le (pv 1) (pe_callB call_len_seq (by rfl) B.len_ PySem.boot_len (pa_cons (pv 0) pa_nil)) (pv 2))))), ?_⟩
    refine ⟨_, rfl, _, _, _, _, true, rfl, .ty "list", .base (.lst ha), kit_ty (by decide +kernel), _, rfl, iteT ?_⟩
    refine ⟨_, rfl, _, rfl, a, xs, rfl, .inl (SqL.of ha), lo, _, rfl, rfl, _, rfl, ?_⟩
    by_cases h1 : lo ≤ (xs.length : Int)
    · rw [decide_eq_true h1] at q ⊢
      refine iteT ⟨_, rfl, _, hi, rfl, rfl, ?_⟩
      rw [Bool.true_and] at q
      exact q
    · rw [decide_eq_false h1] at q ⊢
      exact iteF q
theorem scCWorlds : FnScope ["self"] ["self"] (defScope sCWorlds) := ⟨rfl, rfl, rfl, by decide +kernel, rfl, by decide +kernel, by decide +kernel⟩
theorem ok_CWorlds {f  : Addr} {fd  : FuncData} {k : Nat} {C fI : Addr} (F : Fun K "worlds" "Case.worlds" sCWorlds f fd) (T : CaT K mg C fI)  (B : Blt mg) : FnOk P w K mg base CX0 (k + 1) f fd ["self"] (spCWorlds K C) := by
  refine F.ok scCWorlds (fun vs H Q E h => ?_) (fun cdv A outer s H vs Q E hr h => ?_)
  · obtain ⟨x, qs, hss, tss, n, rfl, _⟩ := h
    rfl
  · obtain ⟨x, qs, hss, tss, n, rfl, hc, q⟩ := h
    refine ⟨_, (pss_one (ps_ret (pe_callB call_len_seq (by rfl) B.len_ PySem.boot_len (pa_cons (pe_fld (pv 0) rfl) pa_nil)))), ?_⟩
    obtain ⟨dx, sa, ha, ta, cs0, rh, rt, e1, e2, e3, e4, e5⟩ := id hc
    refine ⟨_, rfl, x, C, dx, _, .ref sa, rfl, e1, T.cl, T.n1, rfl, sa, cs0, rfl, .inl (SqL.of e2), ?_⟩
    rw [e3.len]
    exact q
theorem scCDeeds : FnScope ["self"] ["self"] (defScope sCDeeds) := ⟨rfl, rfl, rfl, by decide +kernel, rfl, by decide +kernel, by decide +kernel⟩
theorem ok_CDeeds {f  : Addr} {fd  : FuncData} {k : Nat} {C fI : Addr} (F : Fun K "deeds" "Case.deeds" sCDeeds f fd) (T : CaT K mg C fI)  (B : Blt mg) : FnOk P w K mg base CX0 (k + 1) f fd ["self"] (spCDeeds K C) := by
  refine F.ok scCDeeds (fun vs H Q E h => ?_) (fun cdv A outer s H vs Q E hr h => ?_)
  · obtain ⟨x, qs, hss, tss, n, ww, dd, rfl, _⟩ := h
    rfl
  · obtain ⟨x, qs, hss, tss, n, ww, dd, rfl, hc, g, q⟩ := h
    refine ⟨_, (pss_one (ps_ret (pe_callB call_len_seq (by rfl) B.len_ PySem.boot_len (pa_cons (pe_ix ix_list (pe_fld (pv 0) rfl) pe_int (fun _ _ => rfl)) pa_nil)))), ?_⟩
    obtain ⟨dx, sa, ha, ta, cs0, rh, rt, e1, e2, e3, e4, e5⟩ := id hc
    have w1 := g.w1
    have hl : 0 < rh.length := by rw [e4.2.1, g.hl]; omega
    obtain ⟨c0, q0, f1, f2, f3⟩ := e4.2.2 0 rh[0] (List.getElem?_eq_getElem hl)
    refine ⟨_, rfl, x, C, dx, _, .ref ha, rfl, e1, T.cl, T.n2, rfl, ha, _, 0, .ref rh[0], rfl, rfl, SqL.of e4.1, atI_nat (j := 0) (by rw [List.getElem?_map, List.getElem?_eq_getElem hl]; rfl), rh[0], c0, rfl, .inl (SqL.of f2), ?_⟩
    rw [f3.len, g.hr q0 (List.mem_of_getElem? f1)]
    exact q
theorem scCShares : FnScope ["self"] ["self"] (defScope sCShares) := ⟨rfl, rfl, rfl, by decide +kernel, rfl, by decide +kernel, by decide +kernel⟩
theorem ok_CShares {f  : Addr} {fd  : FuncData} {k : Nat} {C fI : Addr} (F : Fun K "shares" "Case.shares" sCShares f fd) (T : CaT K mg C fI)  (B : Blt mg) : FnOk P w K mg base CX0 (k + 1) f fd ["self"] (spCShares K C) := by
  refine F.ok scCShares (fun vs H Q E h => ?_) (fun cdv A outer s H vs Q E hr h => ?_)
  · obtain ⟨x, qs, hss, tss, n, rfl, _⟩ := h
    rfl
  · obtain ⟨x, qs, hss, tss, n, rfl, hc, q⟩ := h
    refine ⟨_, (pss_one (ps_ret (pe_callTy (T := "list") call_list_of (by rfl) B.list_ (by decide +kernel) (pa_cons (pe_fld (pv 0) rfl) pa_nil)))), ?_⟩
    obtain ⟨dx, sa, ha, ta, cs0, rh, rt, e1, e2, e3, e4, e5⟩ := id hc
    exact ⟨_, rfl, x, C, dx, _, .ref sa, rfl, e1, T.cl, T.n1, rfl, sa, cs0, rfl, .inl (SqL.of e2), fun p hp => q p cs0 hp e3⟩
theorem scCHearer : FnScope ["self"] ["self"] (defScope sCHearer) := ⟨rfl, rfl, rfl, by decide +kernel, rfl, by decide +kernel, by decide +kernel⟩
theorem ok_CHearer {f fP : Addr} {fd fdP : FuncData} {k : Nat} {C fI : Addr} (F : Fun K "hearer" "Case.hearer" sCHearer f fd) (T : CaT K mg C fI) (GP : FnOk P w K mg base CX0 k fP fdP ["rows"] (spCopied K)) (kP : PySem.W.keepIn K (.ref fP) = true) (bP : Binds K fdP ["rows"] []) (gP : mg "copied_rows" = some (.ref fP)) : FnOk P w K mg base CX0 (k + 1) f fd ["self"] (spCHearer K C) := by
  refine F.ok scCHearer (fun vs H Q E h => ?_) (fun cdv A outer s H vs Q E hr h => ?_)
  · obtain ⟨x, qs, hss, tss, n, rfl, _⟩ := h
    rfl
  · obtain ⟨x, qs, hss, tss, n, rfl, hc, h1, q⟩ := h
    refine ⟨_, (pss_one (ps_ret (pe_call GP hr (by rfl) gP kP bP .nil pass0 (pa_cons (pe_fld (pv 0) rfl) pa_nil)))), ?_⟩
    obtain ⟨dx, sa, ha, ta, cs0, rh, rt, e1, e2, e3, e4, e5⟩ := id hc
    exact ⟨_, rfl, x, C, dx, _, .ref ha, rfl, e1, T.cl, T.n2, rfl, ha, rh, hss, n, rfl, e4, h1, q⟩
theorem scCTeller : FnScope ["self"] ["self"] (defScope sCTeller) := ⟨rfl, rfl, rfl, by decide +kernel, rfl, by decide +kernel, by decide +kernel⟩
theorem ok_CTeller {f fP : Addr} {fd fdP : FuncData} {k : Nat} {C fI : Addr} (F : Fun K "teller" "Case.teller" sCTeller f fd) (T : CaT K mg C fI) (GP : FnOk P w K mg base CX0 k fP fdP ["rows"] (spCopied K)) (kP : PySem.W.keepIn K (.ref fP) = true) (bP : Binds K fdP ["rows"] []) (gP : mg "copied_rows" = some (.ref fP)) : FnOk P w K mg base CX0 (k + 1) f fd ["self"] (spCTeller K C) := by
  refine F.ok scCTeller (fun vs H Q E h => ?_) (fun cdv A outer s H vs Q E hr h => ?_)
  · obtain ⟨x, qs, hss, tss, n, rfl, _⟩ := h
    rfl
  · obtain ⟨x, qs, hss, tss, n, rfl, hc, h1, q⟩ := h
    refine ⟨_, (pss_one (ps_ret (pe_call GP hr (by rfl) gP kP bP .nil pass0 (pa_cons (pe_fld (pv 0) rfl) pa_nil)))), ?_⟩
    obtain ⟨dx, sa, ha, ta, cs0, rh, rt, e1, e2, e3, e4, e5⟩ := id hc
    exact ⟨_, rfl, x, C, dx, _, .ref ta, rfl, e1, T.cl, T.n3, rfl, ta, rt, tss, n, rfl, e5, h1, q⟩
theorem scCWith : FnScope ["self", "shares"] ["self", "shares"] (defScope sCWith) := ⟨rfl, rfl, rfl, by decide +kernel, rfl, by decide +kernel, by decide +kernel⟩
theorem ok_CWith {f fCW fL : Addr} {fd fdCW fdL : FuncData} {k : Nat} {C fI : Addr} {CN : Addr} {fdI : FuncData} (F : Fun K "with_shares" "Case.with_shares" sCWith f fd) (T : CaT K mg C fI) (mCW : Meth K C "worlds" fCW) (GI : FnOk P w K mg base (L2.CX P w) k fI fdI ["self", "shares", "hearer", "teller"] (spCInitF K C CN)) (bI : Binds K fdI ["self", "shares", "hearer", "teller"] []) (GCW : FnOk P w K mg base CX0 k fCW fdCW ["self"] (spCWorlds K C)) (bCW : Binds K fdCW ["self"] []) (GL : FnOk P w K mg base CX0 k fL fdL ["thing", "least", "most"] (spListOf K)) (kL : PySem.W.keepIn K (.ref fL) = true) (bL : Binds K fdL ["thing", "least", "most"] []) (gL : mg "is_list_of" = some (.ref fL)) : FnOk P w K mg base CX0 (k + 2) f fd ["self", "shares"] (spCWithF K C) := by
  refine F.ok scCWith (fun vs H Q E h => ?_) (fun cdv A outer s H vs Q E hr h => ?_)
  · obtain ⟨G, x, S, qs, hss, tss, ws, cs, n, m, ww, dd, rfl, _⟩ := h
    rfl
  · obtain ⟨G, x, S, qs, hss, tss, ws, cs, n, m, ww, dd, rfl, hc, g, hS, hf, hro, hmn, hn, fr, q⟩ := h
    have hk : Room k _ := hr.mono (by omega)
    refine ⟨_, (pss_cons (ps_if (pt_not (pt_val (pe_call GL hk (by rfl) gL kL bL .nil pass0 (pa_cons (pv 1) (pa_cons (pe_meth0 (pv 0) T.cl mCW GCW hk bCW .nil pass0) (pa_cons (pe_meth0 (pv 0) T.cl mCW GCW hk bCW .nil pass0) pa_nil)))))) (pss_one ps_never) pss_nil)
      (pss_one (ps_ret (pe_make T.mkC (Rs.quiet GI) hr (by rfl) T.gC bI .nil pass0 (pa_cons (pv 1) (pa_cons (pe_fld (pv 0) rfl) (pa_cons (pe_fld (pv 0) rfl) pa_nil))))))), ?_⟩
    obtain ⟨dx, sa, ha, ta, cs0, rh, rt, e1, e2, e3, e4, e5⟩ := id hc
    have w5 := g.w5
    refine ⟨_, rfl, _, rfl, x, dx, _, rfl, e1, rfl, x, qs, hss, tss, n, rfl, hc, _, rfl, x, dx, _, rfl, e1, rfl, x, qs, hss, tss, n, rfl, hc, S, cs, _, _, rfl, hS, _, rfl, ?_⟩
    rw [hf.len, hro.1, g.sh.1, decide_eq_true (Int.le_refl _)]
    refine iteF ?_
    refine ⟨_, rfl, _, rfl, x, C, dx, _, .ref ha, rfl, e1, T.cl, T.n2, rfl, _, rfl, x, C, dx, _, .ref ta, rfl, e1, T.cl, T.n3, rfl, ?_⟩
    exact mk_caseG (CN := CN) hn fr hS (hf.mono hmn) e4 e5 ⟨g.w1, g.w5, g.d1, g.d6, hro, g.hl, g.tl, g.hr, g.tr⟩ q
theorem scCLen : FnScope ["self"] ["self"] (defScope sCLen) := ⟨rfl, rfl, rfl, by decide +kernel, rfl, by decide +kernel, by decide +kernel⟩
theorem ok_CLen {f  : Addr} {fd  : FuncData} {k : Nat} {C fI : Addr} (F : Fun K "__len__" "Case.__len__" sCLen f fd) (T : CaT K mg C fI)  (B : Blt mg) : FnOk P w K mg base CX0 (k + 1) f fd ["self"] (spCWorlds K C) := by
  refine F.ok scCLen (fun vs H Q E h => ?_) (fun cdv A outer s H vs Q E hr h => ?_)
  · obtain ⟨x, qs, hss, tss, n, rfl, _⟩ := h
    rfl
  · obtain ⟨x, qs, hss, tss, n, rfl, hc, q⟩ := h
    refine ⟨_, (pss_one (ps_ret (pe_callB call_len_seq (by rfl) B.len_ PySem.boot_len (pa_cons (pe_fld (pv 0) rfl) pa_nil)))), ?_⟩
    obtain ⟨dx, sa, ha, ta, cs0, rh, rt, e1, e2, e3, e4, e5⟩ := id hc
    refine ⟨_, rfl, x, C, dx, _, .ref sa, rfl, e1, T.cl, T.n1, rfl, sa, cs0, rfl, .inl (SqL.of e2), ?_⟩
    rw [e3.len]
    exact q
end
end K06

set_option Elab.async false
set_option linter.all false
set_option maxRecDepth 100000
set_option maxHeartbeats 16000000
namespace K06
open PySem PySem.Spec PyProof.Rows L2 BX EXB Co Ru
open Dz Cs Hr Gs
open Rs (Rsp Rv Ret tYes_of dV datR Flat Okr spShares spRowsL spTotal spCopied eqv_dR)
open Fr (Bd)
theorem eqv_ratsA : ∀ t u : List Rat, PyData.eqvAll (t.map dR) (u.map dR) = decide (t = u)
  | [], [] => rfl
  | [], _ :: _ => rfl
  | _ :: _, [] => rfl
  | a :: t, b :: u => by
    rw [List.map_cons, List.map_cons, PyData.eqvAll, eqv_ratsA t u, Rs.eqv_dR, ← Bool.decide_and]
    exact decide_eq_decide.mpr ⟨fun ⟨x, y⟩ => by rw [x, y], fun z => by cases z; exact ⟨rfl, rfl⟩⟩
theorem eqv_rats (t u : List Rat) : PyData.eqv (.list (t.map dR)) (.list (u.map dR)) = decide (t = u) := by
  rw [PyData.eqv]
  exact eqv_ratsA t u
theorem eqv_rowsA : ∀ t u : List (List Rat), PyData.eqvAll (t.map fun qs => PyData.list (qs.map dR)) (u.map fun qs => PyData.list (qs.map dR)) = decide (t = u)
  | [], [] => rfl
  | [], _ :: _ => rfl
  | _ :: _, [] => rfl
  | a :: t, b :: u => by
    rw [List.map_cons, List.map_cons, PyData.eqvAll, eqv_rowsA t u, eqv_rats, ← Bool.decide_and]
    exact decide_eq_decide.mpr ⟨fun ⟨x, y⟩ => by rw [x, y], fun z => by cases z; exact ⟨rfl, rfl⟩⟩
theorem eqv_rows (t u : List (List Rat)) : PyData.eqv (dRows t) (dRows u) = decide (t = u) := by
  unfold dRows
  rw [PyData.eqv]
  exact eqv_rowsA t u
theorem sm_intB {i : Int} {n : Nat} (h : i.natAbs < 2 ^ n) (h0 : 0 < n) (hn : n ≤ 1900) : Sm (.int i) 0 (n + 1) := by
  have hl : i.natAbs.log2 < n := PySem.Flt.log2_lt_of h0 h
  refine ⟨decide_eq_true (Nat.lt_of_lt_of_le hl (by omega)), Nat.le_refl _, ?_, rfl⟩
  show (Str.ofString (toString i)).length ≤ n + 1
  rw [PySem.ofString_length]
  exact PySem.int_text_length_le h0 hl
theorem sm_dRB {q : Rat} {n : Nat} (h : Bd n q) (h0 : 0 < n) (hn : n ≤ 20) : Sm (dR q) 1 60 := by
  refine sm_tup (k := 0) (b := n + 1) (n := 2) (fun d hd => ?_) (Nat.le_refl 2) (by omega)
  rcases List.mem_cons.mp hd with rfl | hd
  · exact sm_intB h.1 h0 (by omega)
  · rw [List.mem_singleton.mp hd]
    exact sm_intB h.dn h0 (by omega)
theorem ofS_len (s : String) : (Str.ofString s).length = s.toList.length := by
  have := congrArg List.length (TL.tl_ofString s)
  rw [List.length_map] at this
  rw [TL.len_tl]
  exact this
theorem app_len (x y : Str) : (x ++ y).length = x.length + y.length := by
  rw [TL.len_tl, TL.len_tl, TL.len_tl, TL.tl_append, List.length_append]
theorem emp_app (x : Str) : Str.empty ++ x = x := TL.ext_tl (by rw [TL.tl_append]; rfl)
theorem app_assoc (x y z : Str) : (x ++ y) ++ z = x ++ (y ++ z) := TL.ext_tl (by rw [TL.tl_append, TL.tl_append, TL.tl_append, TL.tl_append, List.append_assoc])
theorem num_len {n : Nat} (h : n < 2 ^ 10) : (Str.ofString (toString (n : Int))).length ≤ 11 := by
  have := (sm_intB (n := 10) (i := (n : Int)) h (by decide) (by decide)).sz
  exact this
theorem log_small {n : Nat} (h : n < 2 ^ 10) : ((n : Int)).natAbs.log2 < 1920 := by
  have h0 : 0 < 10 := by decide
  have := PySem.Flt.log2_lt_of h0 h
  exact Nat.lt_of_lt_of_le this (by decide)
theorem szl : 16777216 ≤ sizeLine := by rw [sizeLine_eq]; decide
theorem sm_qs {qs : List Rat} {n m : Nat} (b : ∀ q ∈ qs, Bd n q) (hn : n ≤ 20) (hm : qs.length ≤ m) (m6 : m ≤ 6) : Sm (.list (qs.map dR)) 2 375 := by
  refine sm_list (k := 1) (b := 60) (n := m) (fun d hd => ?_) (by rw [List.length_map]; exact hm) (by omega)
  obtain ⟨q, hq, rfl⟩ := List.mem_map.mp hd
  exact sm_dRB ((b q hq).mono hn) (by decide) (by decide)
theorem sm_rows {rss : List (List Rat)} {n : Nat} (b : ∀ r ∈ rss, ∀ q ∈ r, Bd n q) (hn : n ≤ 20) (h5 : rss.length ≤ 5) (h6 : ∀ r ∈ rss, r.length ≤ 6) : Sm (dRows rss) 3 1888 := by
  refine sm_list (k := 2) (b := 375) (n := 5) (fun d hd => ?_) (by rw [List.length_map]; exact h5) (by omega)
  obtain ⟨r, hr, rfl⟩ := List.mem_map.mp hd
  exact sm_qs (b r hr) hn (h6 r hr) (Nat.le_refl _)
theorem rw_bd {K : PySem.W.Frag} {H : Hp} {a : Addr} {rs : List Addr} {rss : List (List Rat)} {n : Nat} (h : RwL K H a rs rss n) : ∀ r ∈ rss, ∀ q ∈ r, Bd n q := fun r hr => by
  obtain ⟨j, hj, ej⟩ := List.getElem_of_mem hr
  have hj' : j < rs.length := by rw [h.2.1]; exact hj
  obtain ⟨c, q, a1, a2, a3⟩ := h.2.2 j _ (List.getElem?_eq_getElem hj')
  rw [List.getElem?_eq_getElem hj, ej] at a1
  cases a1
  exact frn_bd a3
section
variable {P : Program} {w : World} {K : PySem.W.Frag} {mg : Str → Option Value} {base : Heap}
theorem scCEq : FnScope ["self", "other"] ["self", "other"] (defScope sCEq) := ⟨rfl, rfl, rfl, by decide +kernel, rfl, by decide +kernel, by decide +kernel⟩
theorem ok_CEq {f  : Addr} {fd  : FuncData} {k : Nat} {C fI : Addr} (F : Fun K "__eq__" "Case.__eq__" sCEq f fd) (T : CaT K mg C fI) (I : IsT K C)  (B : Blt mg) : FnOk P w K mg base CX0 (k + 1) f fd ["self", "other"] (spCEq K C) := by
  refine F.ok scCEq (fun vs H Q E h => ?_) (fun cdv A outer s H vs Q E hr h => ?_)
  · obtain ⟨x, y, qs, hss, tss, n, rfl, _⟩ := h
    rfl
  · obtain ⟨x, y, qs, hss, tss, n, rfl, hc, q⟩ := h
    refine ⟨_, (pss_one (ps_ret (pe_and (pe_callB call_isi (by rfl) B.isinstance_ (by decide +kernel) (pa_cons (pv 1) (pa_cons (pe_glob (v := .ref C) (by rfl) T.gC rfl) pa_nil))) (pe_and (pe_cmpR (op_eqD hr.units) (pe_fld (pv 0) rfl) (pe_fld (pv 1) rfl) (nomark _)) (pe_and (pe_cmpR (op_eqD hr.units) (pe_fld (pv 0) rfl) (pe_fld (pv 1) rfl) (nomark _)) (pe_one (pe_cmpR (op_eqD hr.units) (pe_fld (pv 0) rfl) (pe_fld (pv 1) rfl) (nomark _)))))))), ?_⟩
    rcases q with ⟨⟨tv, ty, kt⟩, q⟩ | ⟨y', us, iss, kss, m, rfl, hd, q⟩
    · exact ⟨_, rfl, _, _, _, _, false, rfl, .own C, ty, kt, _, rfl, iteF q⟩
    obtain ⟨dx, sa, ha, ta, cs, rh, rt, e1, e2, e3, e4, e5⟩ := hc
    obtain ⟨dy, sb, hb, tb, cs', rh', rt', i1, i2, i3, i4, i5⟩ := hd
    refine ⟨_, rfl, _, _, _, _, true, rfl, .own C, .base (.ins i1 T.cl I.ha I.hn I.ht I.hm), I.kt, _, rfl, iteT ?_⟩
    refine ⟨_, rfl, x, C, dx, _, .ref sa, rfl, e1, T.cl, T.n1, rfl, _, rfl, y', C, dy, _, .ref sb, rfl, i1, T.cl, T.n1, rfl, .list (qs.map dR), .list (us.map dR), .lst (SqL.of e2) e3.dp, .lst (SqL.of i2) i3.dp, list_shaped _, list_shaped _, _, rfl, ?_⟩
    rw [eqv_rats]
    by_cases c1 : qs = us
    · rw [decide_eq_true c1]
      refine iteT ?_
      refine ⟨_, rfl, x, C, dx, _, .ref ha, rfl, e1, T.cl, T.n2, rfl, _, rfl, y', C, dy, _, .ref hb, rfl, i1, T.cl, T.n2, rfl, dRows hss, dRows iss, e4.dp, i4.dp, dRows_shaped _, dRows_shaped _, _, rfl, ?_⟩
      rw [eqv_rows]
      by_cases c2 : hss = iss
      · rw [decide_eq_true c2]
        refine iteT ?_
        refine ⟨_, rfl, x, C, dx, _, .ref ta, rfl, e1, T.cl, T.n3, rfl, _, rfl, y', C, dy, _, .ref tb, rfl, i1, T.cl, T.n3, rfl, dRows tss, dRows kss, e5.dp, i5.dp, dRows_shaped _, dRows_shaped _, ?_⟩
        rw [eqv_rows]
        rw [show decide (qs = us ∧ hss = iss ∧ tss = kss) = decide (tss = kss) from decide_eq_decide.mpr ⟨fun z => z.2.2, fun z => ⟨c1, c2, z⟩⟩] at q
        exact q
      · rw [decide_eq_false c2]
        rw [decide_eq_false (fun z => c2 z.2.1)] at q
        exact iteF q
    · rw [decide_eq_false c1]
      rw [decide_eq_false (fun z => c1 z.1)] at q
      exact iteF q
theorem scCStr : FnScope ["self"] ["self"] (defScope sCStr) := ⟨rfl, rfl, rfl, by decide +kernel, rfl, by decide +kernel, by decide +kernel⟩
theorem ok_CStr {f fCW fCD : Addr} {fd fdCW fdCD : FuncData} {k : Nat} {C fI : Addr} (F : Fun K "__str__" "Case.__str__" sCStr f fd) (T : CaT K mg C fI) (mCW : Meth K C "worlds" fCW) (mCD : Meth K C "deeds" fCD) (GCW : FnOk P w K mg base CX0 k fCW fdCW ["self"] (spCWorlds K C)) (bCW : Binds K fdCW ["self"] []) (GCD : FnOk P w K mg base CX0 k fCD fdCD ["self"] (spCDeeds K C)) (bCD : Binds K fdCD ["self"] []) : FnOk P w K mg base CX0 (k + 1) f fd ["self"] (spCStr K C) := by
  refine F.ok scCStr (fun vs H Q E h => ?_) (fun cdv A outer s H vs Q E hr h => ?_)
  · obtain ⟨x, qs, hss, tss, n, ww, dd, rfl, _⟩ := h
    rfl
  · obtain ⟨x, qs, hss, tss, n, ww, dd, rfl, hc, g, q⟩ := h
    refine ⟨_, (pss_one (ps_ret (pe_joined (.cons (pe_fmt (pe_meth0 (pv 0) T.cl mCW GCW hr bCW .nil pass0)) (.cons pe_str (.cons (pe_fmt (pe_meth0 (pv 0) T.cl mCD GCD hr bCD .nil pass0)) (.cons pe_str .nil))))))), ?_⟩
    obtain ⟨dx, sa, ha, ta, cs0, rh, rt, e1, e2, e3, e4, e5⟩ := id hc
    have w5 := g.w5
    have d6 := g.d6
    have hq := g.sh.1
    subst hq
    have l1 := num_len (n := qs.length) (Nat.lt_of_le_of_lt w5 (by decide))
    have l2 := num_len (n := dd) (Nat.lt_of_le_of_lt d6 (by decide))
    have z1 : (Str.ofString " worlds, ").length = 9 := by decide +kernel
    have z2 : (Str.ofString " deeds").length = 6 := by decide +kernel
    have z0 : Str.empty.length = 0 := rfl
    have zz := szl
    refine ⟨_, rfl, x, dx, _, rfl, e1, rfl, x, qs, hss, tss, n, rfl, hc, .inr ⟨_, rfl, ?_, _, rfl, ?_, _, rfl, ?_, _, rfl, x, dx, _, rfl, e1, rfl, x, qs, hss, tss, n, _, dd, rfl, hc, g, .inr ⟨_, rfl, ?_, _, rfl, ?_, _, rfl, ?_, ?_⟩⟩⟩
    · exact log_small (Nat.lt_of_le_of_lt w5 (by decide))
    · simp only [app_len]; omega
    · simp only [app_len]; omega
    · exact log_small (Nat.lt_of_le_of_lt d6 (by decide))
    · simp only [app_len]; omega
    · simp only [app_len]; omega
    · exact q
theorem scCRepr : FnScope ["self"] ["self"] (defScope sCRepr) := ⟨rfl, rfl, rfl, by decide +kernel, rfl, by decide +kernel, by decide +kernel⟩
theorem ok_CRepr {f  : Addr} {fd  : FuncData} {k : Nat} {C fI : Addr} (F : Fun K "__repr__" "Case.__repr__" sCRepr f fd) (T : CaT K mg C fI)  : FnOkG P w K mg base CX0 (k + 1) f fd ["self"] (spCRepr K C) := by
  refine okG F scCRepr (fun vs H Q E h => ?_) (fun cdv A outer s H vs Q E hr hgd h => ?_)
  · obtain ⟨x, qs, hss, tss, n, ww, dd, rfl, _⟩ := h
    rfl
  · obtain ⟨x, qs, hss, tss, n, ww, dd, rfl, hc, g, hn, q⟩ := h
    have hu : (A.deeper (envOfC "Case.__repr__" (defScope sCRepr) s.heap.objs.size f cdv)).units + 80 < cLine := by have := hr.un; omega
    refine ⟨_, (pss_one (ps_ret (pe_joined (.cons pe_str (.cons (pe_fmtD hgd hu (pe_fld (pv 0) rfl)) (.cons pe_str (.cons (pe_fmtD hgd hu (pe_fld (pv 0) rfl)) (.cons pe_str (.cons (pe_fmtD hgd hu (pe_fld (pv 0) rfl)) (.cons pe_str .nil)))))))))), ?_⟩
    obtain ⟨dx, sa, ha, ta, cs0, rh, rt, e1, e2, e3, e4, e5⟩ := id hc
    have w5 := g.w5
    have d6 := g.d6
    have S1 := sm_qs (m := 5) (frn_bd e3) hn (by rw [g.sh.1]; exact w5) (by decide)
    have S2 := sm_rows (rw_bd e4) hn (by rw [g.hl]; exact w5) (fun r hr => by rw [g.hr r hr]; exact d6)
    have S3 := sm_rows (rw_bd e5) hn (by rw [g.tl]; exact w5) (fun r hr => by rw [g.tr r hr]; exact d6)
    have zz := szl
    have y1 : (Str.ofString "Case(").length = 5 := by decide +kernel
    have y2 : (Str.ofString ", ").length = 2 := by decide +kernel
    have y3 : (Str.ofString ")").length = 1 := by decide +kernel
    have y0 : Str.empty.length = 0 := rfl
    have x1 := S1.sz
    have x2 := S2.sz
    have x3 := S3.sz
    refine ⟨_, rfl, ?_, _, rfl, x, C, dx, _, .ref sa, rfl, e1, T.cl, T.n1, rfl, sa, _, rfl, .lst (SqL.of e2) e3.dp, S1.sh, ?_, ?_, _, rfl, ?_, _, rfl, ?_, _, rfl, x, C, dx, _, .ref ha, rfl, e1, T.cl, T.n2, rfl, ha, _, rfl, e4.dp, S2.sh, ?_, ?_, _, rfl, ?_, _, rfl, ?_, _, rfl, x, C, dx, _, .ref ta, rfl, e1, T.cl, T.n3, rfl, ta, _, rfl, e5.dp, S3.sh, ?_, ?_, _, rfl, ?_, _, rfl, ?_, ?_⟩
    · simp only [app_len]; omega
    · exact Nat.le_trans S1.dp (by decide)
    · omega
    · simp only [app_len]; omega
    · simp only [app_len]; omega
    · exact Nat.le_trans S2.dp (by decide)
    · omega
    · simp only [app_len]; omega
    · simp only [app_len]; omega
    · exact Nat.le_trans S3.dp (by decide)
    · omega
    · simp only [app_len]; omega
    · simp only [app_len]; omega
    · exact q
end
end K06

set_option Elab.async false
set_option linter.all false
set_option maxRecDepth 100000
set_option maxHeartbeats 4000000
/-! [list(row) for row in rows] in a law's own text; the parts of a case in a list -/
namespace Gs
open PySem PySem.Spec PyProof.Rows L2 BX EXB Co Ru
open Dz Cs Hr
open Rs (tYes_of)
open Fr (Bd)
theorem lc_copy {K : PySem.W.Frag} {a D : Addr} {rs : List Addr} {rss : List (List Rat)} {n sl : Nat} {σ : L2.St} {H1 : Hp} {Qd : Hp → Prop} (hw : RwL K H1 a rs rss n) (h9 : rss.length ≤ 900) (hD : H1 D = none) (hd : ∀ rs' H', Fresh K H1 H' D rs' rss n → Qd H')
    (e1 : ∀ v : V, wipe ((wipe σ [sl]).set sl (some v)) [sl] = wipe σ [sl] := by intro _; rfl) (e2 : ∀ v : V, ((wipe σ [sl]).set sl (some v))[sl]? = some (some v) := by intro _; rfl) :
    ∃ W : Nat → Nat → Hp → Prop, (∃ m, W 0 m (upd H1 D (.lst []))) ∧ ∀ i m H, W i m H →
      ((Itl K a).stop i H ∧ Qd H) ∨ ((Itl K a).go i H ∧ ∃ Nx : Hp → Prop, (∀ H', Nx H' → ∃ m', m' < m ∧ W (i + 1) m' H') ∧ ∀ x H', (Itl K a).yld i H x H' → (gName sl) x (wipe σ [sl]) H' fun σ2 H2 => wipe σ2 [sl] = wipe σ [sl] ∧ tYes σ2 H2 fun b H3 =>
        if b = true then (tCB (rListOf K) (tCons (tVar sl) tNil)) σ2 H3 fun y H4 => ∃ acc, H4 D = some (.lst acc) ∧ acc.length < sizeLine ∧ Nx (upd H4 D (.lst (acc ++ [y]))) else Nx H3) := by
  refine lc_list (K := K) (a := a) (xs := rs.map V.ref) (fun i H' => ∃ rs', New K H1 H' D D rs' (rss.take i) n ∧ rs'.length = i ∧ Same H1 H') ⟨[], New.start hD, rfl, same_new hD _⟩ (fun i H' _ ⟨_, _, _, s⟩ => SqL.of (s _ _ hw.1)) ?_ ?_
  · rintro i v H' hi ⟨rs', N, hl, s5⟩
    obtain ⟨r, er, rfl⟩ : ∃ r, rs[i]? = some r ∧ v = .ref r := by
      rw [List.getElem?_map] at hi
      cases e : rs[i]? with
      | none => rw [e] at hi; cases hi
      | some r => rw [e] at hi; exact ⟨r, rfl, (Option.some.inj hi).symm⟩
    obtain ⟨cs, qs, e3, e4, e5⟩ := hw.2.2 i r er
    refine ⟨e1 _, tYes_of ?_⟩
    refine ⟨_, e2 _, r, cs, rfl, .inl (SqL.of (s5 _ _ e4)), fun l hl0 => ?_⟩
    have s6 := same_new hl0 (.lst cs)
    have N2 := N.stepS s6
    have hlD : l ≠ D := fun e => by rw [e, N.at_] at hl0; cases hl0
    have hil : i < rss.length := (List.getElem?_eq_some_iff.mp e3).1
    refine ⟨_, N2.at_, ?_, rs' ++ [l], ?_, by rw [List.length_append, hl]; rfl, fun b u e => ?_⟩
    · rw [List.length_map, hl]
      exact small1000 (by omega)
    · rw [take_succ_at e3]
      exact New.push N N2 hl0 upd_same (e5.same (s5.trans s6)) hlD
    · rw [upd_ne (ne_of_none e hD)]
      exact s6 _ _ (s5 _ _ e)
  · rintro H' ⟨rs', N, hl, s5⟩
    rw [List.length_map, hw.2.1, List.take_length] at N
    exact hd rs' H' N.toFresh
theorem ixN_at {n j : Nat} (hj : j < n) : ixN n (j : Int) = some j := by
  unfold ixN
  rw [if_pos (by omega), if_pos (by omega), Int.toNat_natCast]
theorem less_same2 {T : Addr} {G : Hp} : Same (less T G) G := less_same
theorem Frz.drop {K : PySem.W.Frag} {G H : Hp} {T : Addr} {ys : List V} (f : Frz K G H) (h : H T = some (.lst ys)) : Frz K (less T G) H := ⟨less_same.trans f.s, fun a xs z => by
  by_cases c : a = T
  · rcases z with (z | ⟨o, z⟩) | z
    · rw [c, h] at z; cases z
    · rw [c, h] at z; cases z
    · exact .inr z
  · rcases f.t a xs z with (z | ⟨o, z⟩) | z
    · exact .inl (.inl (by rw [less_ne c]; exact z))
    · exact .inl (.inr ⟨o, by rw [less_ne c]; exact z⟩)
    · exact .inr z⟩
/-- the parts of a case, in a list -/
def PartsL (K : PySem.W.Frag) (H : Hp) (P : Addr) (qs : List Rat) (hss tss : List (List Rat)) (n : Nat) : Prop := ∃ (A B C : Addr) (cs : List V) (rh rt : List Addr), H P = some (.lst [.ref A, .ref B, .ref C]) ∧ H A = some (.lst cs) ∧ FrN K H n cs qs ∧ RwL K H B rh hss n ∧ RwL K H C rt tss n
section
variable {K : PySem.W.Frag} {H H' : Hp} {P : Addr} {qs : List Rat} {hss tss : List (List Rat)} {n m : Nat}
theorem PartsL.same (h : PartsL K H P qs hss tss n) (s : Same H H') : PartsL K H' P qs hss tss n :=
  let ⟨A, B, C, cs, rh, rt, e1, e2, e3, e4, e5⟩ := h; ⟨A, B, C, cs, rh, rt, s _ _ e1, s _ _ e2, e3.same s, e4.same s, e5.same s⟩
theorem PartsL.but {l : Addr} {z : Int} (h : PartsL K H P qs hss tss n) (hl : H l = some (.lst [.int z])) (s : SameB l H H') : PartsL K H' P qs hss tss n := by
  obtain ⟨A, B, C, cs, rh, rt, e1, e2, e3, e4, e5⟩ := h
  refine ⟨A, B, C, cs, rh, rt, s _ _ (fun e => ?_) e1, s _ _ (fun e => ?_) e2, e3.keep (s.tup hl), Rs.RwL.keepB e4 hl s, Rs.RwL.keepB e5 hl s⟩
  · rw [e, hl] at e1
    cases e1
  · rw [e, hl] at e2
    cases e2
    exact Lw.frn_num e3
theorem rwl_mono {a : Addr} {rs : List Addr} {rss : List (List Rat)} (h : RwL K H a rs rss n) (l : n ≤ m) : RwL K H a rs rss m := ⟨h.1, h.2.1, fun j r e => let ⟨c, q, a, b, d⟩ := h.2.2 j r e; ⟨c, q, a, b, d.mono l⟩⟩
theorem PartsL.mono (h : PartsL K H P qs hss tss n) (l : n ≤ m) : PartsL K H P qs hss tss m :=
  let ⟨A, B, C, cs, rh, rt, e1, e2, e3, e4, e5⟩ := h; ⟨A, B, C, cs, rh, rt, e1, e2, e3.mono l, rwl_mono e4 l, rwl_mono e5 l⟩
theorem PartsL.of (h : Lw.PartsAt K H P qs hss tss) : PartsL K H P qs hss tss 8 := h
/-- another list changes -/
theorem rwl_off {B T : Addr} {rs : List Addr} {rss : List (List Rat)} {ys zs : List V} (h : RwL K H B rs rss n) (tb : T ≠ B) (tr : T ∉ rs) (hT : H T = some (.lst ys)) : RwL K (upd H T (.lst zs)) B rs rss n :=
  ⟨by rw [upd_ne (Ne.symm tb)]; exact h.1, h.2.keep SameB.upd hT tr⟩
theorem same_off {T l : Addr} {H0 : Hp} {zs : List V} (s : SameB l H0 H) (n : H0 T = none) : SameB l H0 (upd H T (.lst zs)) := fun b u hb e => by
  rw [upd_ne (ne_of_none e n)]
  exact s b u hb e
theorem same_offS {T : Addr} {H0 : Hp} {zs : List V} (s : Same H0 H) (n : H0 T = none) : Same H0 (upd H T (.lst zs)) := fun b u e => by
  rw [upd_ne (ne_of_none e n)]
  exact s b u e
/-- a row is put otherwise -/
theorem rwl_set {B r p : Addr} {rs : List Addr} {rss : List (List Rat)} {i k : Nat} {cs : List V} {qs : List Rat} {q : Rat} (h : RwL K H B rs rss n) (nd : rs.Nodup) (nb : B ∉ rs) (er : rs[i]? = some r) (hr : H r = some (.lst cs)) (f : FrN K H n cs qs) (eq : rss[i]? = some qs) (hp : SqT K H p (rp q)) (bd : Bd n q) :
    RwL K (upd H r (.lst (cs.set k (.ref p)))) B rs (rss.set i (qs.set k q)) n := by
  have rB : B ≠ r := fun e => nb (by rw [e]; exact List.mem_of_getElem? er)
  refine ⟨by rw [upd_ne rB]; exact h.1, by rw [List.length_set]; exact h.2.1, fun j x ex => ?_⟩
  by_cases c : j = i
  · subst c
    rw [er] at ex
    cases ex
    refine ⟨_, qs.set k q, ?_, upd_same, ?_⟩
    · rw [List.getElem?_set_self (List.getElem?_eq_some_iff.mp eq).1]
    · exact (FrN.set f hp bd).keep (keep_lst hr)
  · obtain ⟨c', q', a1, a2, a3⟩ := h.2.2 j x ex
    have xr : x ≠ r := fun e => by
      have hi := (List.getElem?_eq_some_iff.mp er)
      have hj := (List.getElem?_eq_some_iff.mp ex)
      exact c ((List.getElem_inj nd).mp (hj.2.trans (e.trans hi.2.symm)))
    exact ⟨c', q', by rw [List.getElem?_set_ne (Ne.symm c)]; exact a1, by rw [upd_ne xr]; exact a2, a3.keep (keep_lst hr)⟩
end
end Gs

set_option Elab.async false
set_option linter.all false
set_option maxRecDepth 100000
set_option maxHeartbeats 16000000
namespace K06
open PySem PySem.Spec PyProof.Rows L2 BX EXB Co Ru
open Dz Cs Hr Gs
open Rs (Rsp Rv Ret tYes_of dV datR Flat Okr spShares spRowsL spTotal spCopied eqv_dR)
open Fr (Bd)

/-- copies of a case's parts, new behind H0 -/
structure CpAt (K : PySem.W.Frag) (H0 H : Hp) (P A B C : Addr) (ca : List V) (rh rt : List Addr) (qs : List Rat) (hss tss : List (List Rat)) (n : Nat) : Prop where
  p : H P = some (.lst [.ref A, .ref B, .ref C])
  a : H A = some (.lst ca)
  f : FrN K H n ca qs
  b : RwL K H B rh hss n
  c : RwL K H C rt tss n
  n0 : H0 P = none ∧ H0 A = none ∧ H0 B = none ∧ H0 C = none ∧ (∀ r ∈ rh, H0 r = none) ∧ ∀ r ∈ rt, H0 r = none
  kd : ∃ kd : Addr → Nat, kd P = 0 ∧ kd A = 1 ∧ kd B = 2 ∧ kd C = 3 ∧ (∀ r ∈ rh, kd r = 4) ∧ ∀ r ∈ rt, kd r = 5
  nd : rh.Nodup ∧ rt.Nodup
section
variable {K : PySem.W.Frag} {H0 H H' H1 H2 H3 : Hp} {P A B C l : Addr} {ca : List V} {rh rt : List Addr} {qs : List Rat} {hss tss : List (List Rat)} {n : Nat}
theorem CpAt.parts (h : CpAt K H0 H P A B C ca rh rt qs hss tss n) : PartsL K H P qs hss tss n := ⟨A, B, C, ca, rh, rt, h.p, h.a, h.f, h.b, h.c⟩
theorem CpAt.same (h : CpAt K H0 H P A B C ca rh rt qs hss tss n) (s : Same H H') : CpAt K H0 H' P A B C ca rh rt qs hss tss n := ⟨s _ _ h.p, s _ _ h.a, h.f.same s, h.b.same s, h.c.same s, h.n0, h.kd, h.nd⟩
theorem CpAt.but {z : Int} {o : HO} (h : CpAt K H0 H P A B C ca rh rt qs hss tss n) (hl0 : H0 l = some o) (hl : H l = some (.lst [.int z])) (s : SameB l H H') : CpAt K H0 H' P A B C ca rh rt qs hss tss n := by
  obtain ⟨n1, n2, n3, n4, n5, n6⟩ := h.n0
  have ne : ∀ {a : Addr}, H0 a = none → a ≠ l := fun e z => by rw [z, hl0] at e; cases e
  exact ⟨s _ _ (ne n1) h.p, s _ _ (ne n2) h.a, h.f.keep (s.tup hl), Rs.RwL.keepB h.b hl s, Rs.RwL.keepB h.c hl s, h.n0, h.kd, h.nd⟩
theorem CpAt.mono {m : Nat} (h : CpAt K H0 H P A B C ca rh rt qs hss tss n) (l : n ≤ m) : CpAt K H0 H P A B C ca rh rt qs hss tss m := ⟨h.p, h.a, h.f.mono l, rwl_mono h.b l, rwl_mono h.c l, h.n0, h.kd, h.nd⟩
open Classical in
theorem cp_of (nA : H A = none) (f : FrN K H n ca qs) (b : Fresh K (upd H A (.lst ca)) H2 B rh hss n) (c : Fresh K H2 H3 C rt tss n) (nP : H3 P = none) :
    CpAt K H (upd H3 P (.lst [.ref A, .ref B, .ref C])) P A B C ca rh rt qs hss tss n ∧ Same H (upd H3 P (.lst [.ref A, .ref B, .ref C])) := by
  obtain ⟨b1, b2, b3, b4, b5, b6⟩ := b
  obtain ⟨c1, c2, c3, c4, c5, c6⟩ := c
  have s1 := same_new nA (.lst ca)
  have sP := same_new nP (.lst [V.ref A, V.ref B, V.ref C])
  have s03 := (s1.trans b6).trans c6
  have eA1 : (upd H A (.lst ca)) A = some (.lst ca) := upd_same
  have eA2 := b6 _ _ eA1
  have eA3 := c6 _ _ eA2
  have eB2 := b1.1
  have eB3 := c6 _ _ eB2
  have eC3 := c1.1
  have rowB : ∀ r ∈ rh, ∃ o, H2 r = some o := fun r hr => by
    obtain ⟨j, hj, ej⟩ := List.getElem_of_mem hr
    obtain ⟨c', q', _, e, _⟩ := b1.2.2 j r (by rw [List.getElem?_eq_getElem hj, ej])
    exact ⟨_, e⟩
  have rowC : ∀ r ∈ rt, ∃ o, H3 r = some o := fun r hr => by
    obtain ⟨j, hj, ej⟩ := List.getElem_of_mem hr
    obtain ⟨c', q', _, e, _⟩ := c1.2.2 j r (by rw [List.getElem?_eq_getElem hj, ej])
    exact ⟨_, e⟩
  have ne : ∀ {Hx : Hp} {a b : Addr} {o : HO}, Hx a = none → Hx b = some o → a ≠ b := fun e1 e2 z => by rw [z, e2] at e1; cases e1
  have BA : B ≠ A := ne b4 eA1
  have CA : C ≠ A := ne c4 eA2
  have CB : C ≠ B := ne c4 eB2
  have PA : P ≠ A := ne nP eA3
  have PB : P ≠ B := ne nP eB3
  have PC : P ≠ C := ne nP eC3
  refine ⟨⟨upd_same, sP _ _ eA3, f.same (s03.trans sP), (b1.same (c6.trans sP)), c1.same sP, ⟨s03.free nP, nA, s1.free b4, (s1.trans b6).free c4, fun r hr => s1.free (b5 r hr), fun r hr => (s1.trans b6).free (c5 r hr)⟩, ?_, b2, c2⟩, s03.trans sP⟩
  refine ⟨fun a => if a = P then 0 else if a = A then 1 else if a = B then 2 else if a = C then 3 else if a ∈ rh then 4 else 5, if_pos rfl, ?_, ?_, ?_, fun r hr => ?_, fun r hr => ?_⟩
  · simp [Ne.symm PA]
  · simp [Ne.symm PB, BA]
  · simp [Ne.symm PC, CA, CB]
  · obtain ⟨o, eo⟩ := rowB r hr
    have rP : r ≠ P := Ne.symm (ne nP (c6 _ _ eo))
    have rA : r ≠ A := ne (b5 r hr) eA1
    have rB : r ≠ B := fun z => b3 (z ▸ hr)
    have rC : r ≠ C := Ne.symm (ne c4 eo)
    simp [rP, rA, rB, rC, hr]
  · obtain ⟨o, eo⟩ := rowC r hr
    have rP : r ≠ P := Ne.symm (ne nP eo)
    have rA : r ≠ A := ne (c5 r hr) eA2
    have rB : r ≠ B := ne (c5 r hr) eB2
    have rC : r ≠ C := fun z => c3 (z ▸ hr)
    have rh' : r ∉ rh := fun hm => by
      obtain ⟨o', eo'⟩ := rowB r hm
      rw [c5 r hr] at eo'
      cases eo'
    simp [rP, rA, rB, rC, rh']
end
def spCopy06 (K : PySem.W.Frag) : Sp := fun vs H Q _ => ∃ (P : Addr) (qs : List Rat) (hss tss : List (List Rat)) (n ww dd : Nat), vs = [.ref P] ∧ PartsL K H P qs hss tss n ∧ GoodC qs hss tss ww dd ∧
  ∀ P' A B C ca rh rt H', Same H H' → CpAt K H H' P' A B C ca rh rt qs hss tss n → Q (.ref P') H'
def spTxt06 (K : PySem.W.Frag) : Sp := fun vs H Q _ => ∃ (P : Addr) (qs : List Rat) (hss tss : List (List Rat)) (n ww dd : Nat), vs = [.ref P] ∧ PartsL K H P qs hss tss n ∧ GoodC qs hss tss ww dd ∧ Q (.str (caseS ww dd)) H
def spChg06 (K : PySem.W.Frag) : Sp := fun vs H Q _ => ∃ (l P : Addr) (z : Int) (qs : List Rat) (hss tss : List (List Rat)) (ww dd : Nat), vs = [.ref l, .ref P] ∧ H l = some (.lst [.int z]) ∧ PartsL K H P qs hss tss 8 ∧ GoodC qs hss tss ww dd ∧
  ∀ F us iss kss w' d' z' H', SameB l H H' → H' l = some (.lst [.int z']) → PartsL K H' F us iss kss 17 → GoodC us iss kss w' d' → Q (.ref F) H'
/-- a sum whose second is a pair of whole numbers -/
def spPlusR (K : PySem.W.Frag) : Sp := fun vs H Q _ => ∃ (a b : Addr) (x : Rat) (u v : Int) (n : Nat), vs = [.ref a, .ref b] ∧ SqT K H a (rp x) ∧ SqT K H b [.int u, .int v] ∧ Bd n x ∧ u.natAbs < 2 ^ n ∧ v.natAbs < 2 ^ n ∧ v ≠ 0 ∧ n ≤ 100 ∧ ∀ p, H p = none → Q (.ref p) (upd H p (.tup (rp (x + Rat.divInt u v))))
theorem bd_plusR {x : Rat} {u v : Int} {n : Nat} (bx : Bd n x) (hu : u.natAbs < 2 ^ n) (hv : v.natAbs < 2 ^ n) (v0 : v ≠ 0) : Bd (n + n + 1) (x + Rat.divInt u v) := Fr.bd_add bx (Fr.bd_low hu hv v0)
theorem parts_get {K : PySem.W.Frag} {H : Hp} {P : Addr} {qs : List Rat} {hss tss : List (List Rat)} {n : Nat} (h : PartsL K H P qs hss tss n) : PartsL K H P qs hss tss n := h
section
variable {P : Program} {w : World} {K : PySem.W.Frag} {mg : Str → Option Value} {base : Heap}
theorem plusR_eq (x : Rat) {u v : Int} (v0 : v ≠ 0) : x + Rat.divInt u v = Rat.divInt (x.num * v + u * x.den) (x.den * v) := by
  rw [← Rat.divInt_add_divInt _ _ (Fr.den_ne x) v0, Rat.num_divInt_den]
theorem scLeft : FnScope ["_law_cell", "_law_left_here", "_law_number", "_law_turn"] ["_law_cell"] (defScope sLeft) := ⟨rfl, rfl, rfl, by decide +kernel, rfl, by decide +kernel, by decide +kernel⟩
theorem ok_left {f : Addr} {fd : FuncData} {k : Nat} (F : Fun K "_law_left" "_law_left" sLeft f fd) (B : Blt mg) : FnOk P w K mg base CX0 (k + 1) f fd ["_law_cell"] spLeft := by
  refine F.ok scLeft (fun vs H Q E h => ?_) (fun cdv A outer s H vs Q E hr h => ?_)
  · obtain ⟨c, rfl, _⟩ := h
    rfl
  · obtain ⟨c, rfl, q⟩ := h
    refine ⟨_, pss_cons (ps_set (i := 1) scLeft.nd rfl (.inl rfl) (pe_callB call_abs (by rfl) B.abs_ (by decide +kernel) (pa_cons (pv 0) pa_nil)))
      (pss_cons (ps_if (pt_cmpR op_lt (pv 1) (pe_op op_pow pe_int pe_int) (nomark _))
        (pss_cons (ps_set (i := 2) scLeft.nd rfl (.inl rfl) (pv 0))
        (pss_one (ps_for PassesOwn.never rfl (pi_range1 (by rfl) B.range_ (pa_cons pe_int pa_nil)) (pg_name (i := 3) scLeft.nd rfl (.inl rfl))
          (pss_cons (ps_set (i := 2) scLeft.nd rfl (.inl rfl) (pe_op op_mod (pe_op op_mul (pe_op op_add (pe_op op_mod (pv 2) pe_int) pe_int) pe_int) pe_int))
          (pss_cons (ps_set (i := 2) scLeft.nd rfl (.inl rfl) (pe_op op_add (pe_op op_mod (pe_op op_mul (pv 2) pe_int) pe_int) (pv 3)))
          (pss_one (ps_set (i := 1) scLeft.nd rfl (.inl rfl) (pe_op op_add (pe_op op_mul (pv 1) pe_int) (pv 2)))))))))
        pss_nil)
      (pss_one (ps_ret (pe_lst (pa_cons (pv 1) pa_nil))))), ?_⟩
    refine ⟨_, rfl, c, rfl, ?_⟩
    refine ⟨_, rfl, 10, 18, rfl, rfl, ⟨by decide, by decide, by decide⟩, _, _, rfl, rfl, _, rfl, ite2 (fun z => ?_) (fun z => ?_)⟩
    · refine ⟨_, rfl, 40, rfl, by decide, by decide, for_range (lo := 0) (n := 40) (fun i σ H' => ∃ (n m : Int) (y : Option V), σ = [some (.int c), some (.int n), some (.int m), y] ∧ H' = H) ⟨_, _, none, rfl, rfl⟩ ?_ ?_⟩
      · rintro i σ H' hi ⟨n, m, y, rfl, rfl⟩
        refine ⟨_, rfl, _, _, rfl, rfl, (by show (0 : Int) < 2147483629; decide), _, _, rfl, rfl, _, _, rfl, rfl, .inr ⟨by decide, by decide⟩, _, _, rfl, rfl, (by show (0 : Int) < 2147483629; decide), ?_⟩
        refine ⟨_, rfl, _, _, rfl, rfl, .inr ⟨by decide, by decide⟩, _, _, rfl, rfl, (by show (0 : Int) < 2147483647; decide), _, rfl, _, _, rfl, rfl, ?_⟩
        refine ⟨_, rfl, _, _, rfl, rfl, .inr ⟨by decide, by decide⟩, _, rfl, _, _, rfl, rfl, ?_⟩
        exact ⟨_, _, _, rfl, rfl⟩
      · rintro σ H' ⟨n, m, y, rfl, rfl⟩
        exact ⟨_, rfl, (by show 1 ≤ sizeLine; decide), fun p hp => q p n hp⟩
    · exact ⟨_, rfl, (by show 1 ≤ sizeLine; decide), fun p hp => q p _ hp⟩
theorem scDigit : FnScope ["_law_left_here", "_law_many", "_law_found"] ["_law_left_here", "_law_many"] (defScope sDigit) := ⟨rfl, rfl, rfl, by decide +kernel, rfl, by decide +kernel, by decide +kernel⟩
theorem ok_digit {f : Addr} {fd : FuncData} {k : Nat} (F : Fun K "_law_digit" "_law_digit" sDigit f fd) : FnOk P w K mg base CX0 (k + 1) f fd ["_law_left_here", "_law_many"] spDigit := by
  refine F.ok scDigit (fun vs H Q E h => ?_) (fun cdv A outer s H vs Q E hr h => ?_)
  · obtain ⟨l, n, m, rfl, _⟩ := h
    rfl
  · obtain ⟨l, n, m, rfl, hl, hm, hmb, q⟩ := h
    refine ⟨_, pss_cons (ps_set (i := 2) scDigit.nd rfl (.inl rfl) (pe_op op_mod (pe_ix ix_list (pv 0) pe_int (fun _ _ => rfl)) (pv 1)))
      (pss_cons (ps_asg (pe_op op_fdivW (pe_ix ix_list (pv 0) pe_int (fun _ _ => rfl)) (pv 1)) (pg_sub (pv 0) pe_int set_list))
      (pss_one (ps_ret (pv 2)))), ?_⟩
    refine ⟨_, rfl, l, _, 0, .int n, rfl, rfl, SqL.of hl, atI_nat (j := 0) rfl, _, rfl, _, _, rfl, rfl, hm, ?_⟩
    refine ⟨_, rfl, l, _, 0, .int n, rfl, rfl, SqL.of hl, atI_nat (j := 0) rfl, _, rfl, _, _, rfl, rfl, wide_div hm hmb (by decide) (by decide), ?_⟩
    refine ⟨_, rfl, l, _, 0, 0, rfl, rfl, hl, rfl, ?_⟩
    exact ⟨_, rfl, q _ _ (Int.emod_nonneg _ (by omega)) (Int.emod_lt_of_pos _ hm)⟩
theorem scLow : FnScope ["_law_top", "_law_bottom", "_law_one", "_law_other"] ["_law_top", "_law_bottom"] (defScope sLow) := ⟨rfl, rfl, rfl, by decide +kernel, rfl, by decide +kernel, by decide +kernel⟩
theorem ok_low {f : Addr} {fd : FuncData} {k : Nat} (F : Fun K "_law_low" "_law_low" sLow f fd) (B : Blt mg) : FnOk P w K mg base CX0 (k + 1) f fd ["_law_top", "_law_bottom"] spLow := by
  refine F.ok scLow (fun vs H Q E h => ?_) (fun cdv A outer s H vs Q E hr h => ?_)
  · obtain ⟨a, b, n, rfl, _⟩ := h
    rfl
  · obtain ⟨t, b, n, rfl, ht, hb, h0, hn, q⟩ := h
    refine ⟨_, pss_cons (ps_set (i := 2) scLow.nd rfl (.inl rfl) (pe_callB call_abs (by rfl) B.abs_ (by decide +kernel) (pa_cons (pv 0) pa_nil)))
      (pss_cons (ps_set (i := 3) scLow.nd rfl (.inl rfl) (pe_callB call_abs (by rfl) B.abs_ (by decide +kernel) (pa_cons (pv 1) pa_nil)))
      (pss_cons (ps_while PassesOwn.never (pt_cmpR op_gt (pv 3) pe_int (nomark _))
        (pss_one (ps_par (i := 2) (j := 3) (by rfl) scLow.nd rfl rfl (by decide) rfl rfl (pa_cons (pv 3) (pa_cons (pe_op op_modN (pv 2) (pv 3)) pa_nil)) (by rfl))))
      (pss_cons (ps_if (pt_cmpR op_lt (pv 1) pe_int (nomark _)) (pss_one (ps_set (i := 2) scLow.nd rfl (.inl rfl) (pe_op op_sub pe_int (pv 2)))) pss_nil)
      (pss_one (ps_ret (pe_tup (pa_cons (pe_op op_fdivZ (pv 0) (pv 2)) (pa_cons (pe_op op_fdivZ (pv 1) (pv 2)) pa_nil)))))))), ?_⟩
    have hg := Fr.gcd_pos (t := t) h0
    have hgb := gcd_bd (t := t) h0 hb
    have hn0 : 0 < n := by
      cases n with
      | zero => simp at hb; omega
      | succ n => omega
    refine ⟨_, rfl, t, rfl, ?_⟩
    refine ⟨_, rfl, b, rfl, ?_⟩
    rw [abs_eq, abs_eq]
    refine ⟨fun m σ H' => ∃ x y : Int, σ = [some (.int t), some (.int b), some (.int x), some (.int y)] ∧ 0 ≤ x ∧ 0 ≤ y ∧ m = y.natAbs ∧ Int.gcd x y = Int.gcd t b ∧ H' = H,
      ⟨_, (t.natAbs : Int), (b.natAbs : Int), rfl, by omega, by omega, rfl, ?_, rfl⟩, ?_⟩
    · rw [Int.gcd, Int.gcd, Int.natAbs_natCast, Int.natAbs_natCast]
    rintro m σ H' ⟨x, y, rfl, hx, hy, rfl, hgg, rfl⟩
    refine ⟨_, rfl, y, 0, rfl, rfl, _, rfl, ite2 (fun c => ?_) (fun c => ?_)⟩
    · have hy0 : 0 < y := of_decide_eq_true c
      refine ⟨fun σ' H'' => ∃ x' y' : Int, σ' = [some (.int t), some (.int b), some (.int x'), some (.int y')] ∧ 0 ≤ x' ∧ 0 ≤ y' ∧ y'.natAbs < y.natAbs ∧ Int.gcd x' y' = Int.gcd t b ∧ H'' = H', ?_, ?_⟩
      · rintro σ' H'' ⟨x', y', e1, e2, e3, e4, e5, e6⟩
        exact ⟨y'.natAbs, e4, x', y', e1, e2, e3, rfl, e5, e6⟩
      · refine ⟨.int y, rfl, .int x, rfl, .int y, rfl, x, y, rfl, rfl, (by omega : y ≠ 0), _, _, rfl, y, _, rfl, hy, Int.fmod_nonneg_of_pos x hy0, Fr.fmod_abs x (by omega), ?_, rfl⟩
        rw [Fr.gcd_step]
        exact hgg
    · have hy0 : y = 0 := by
        have : ¬ 0 < y := of_decide_eq_false (Bool.eq_false_iff.mpr c)
        omega
      subst hy0
      rw [Int.gcd_zero_right] at hgg
      have ex : x = (Int.gcd t b : Int) := by omega
      subst ex
      refine ⟨_, rfl, b, 0, rfl, rfl, _, rfl, ite2 (fun c2 => ?_) (fun c2 => ?_)⟩
      · have hb0 : b < 0 := of_decide_eq_true c2
        refine ⟨_, rfl, 0, _, rfl, rfl, ?_⟩
        have d : ∀ i : Int, CDivZ i (0 - (Int.gcd t b : Int)) := fun i => divZ (n := n) (by omega) (by rw [Int.zero_sub, Int.natAbs_neg]; exact hgb) hn0 (by omega)
        refine ⟨_, rfl, _, rfl, t, _, rfl, rfl, d _, _, rfl, _, rfl, b, _, rfl, rfl, d _, (by show 2 ≤ sizeLine; decide), fun p hp => ?_⟩
        have z := q p hp
        rw [rp, ← Fr.lowN_num hb0, ← Fr.lowN_den hb0] at z
        rw [Int.zero_sub]
        exact z
      · have hb0 : 0 < b := by
          have : ¬ b < 0 := of_decide_eq_false (Bool.eq_false_iff.mpr c2)
          omega
        have d : ∀ i : Int, CDivZ i (Int.gcd t b : Int) := fun i => divZ (n := n) (by omega) hgb hn0 (by omega)
        refine ⟨_, rfl, _, rfl, t, _, rfl, rfl, d _, _, rfl, _, rfl, b, _, rfl, rfl, d _, (by show 2 ≤ sizeLine; decide), fun p hp => ?_⟩
        have z := q p hp
        rw [rp, ← Fr.low_num hb0, ← Fr.low_den hb0] at z
        exact z

theorem scLPlus : FnScope ["_law_one", "_law_other"] ["_law_one", "_law_other"] (defScope sLPlus) := ⟨rfl, rfl, rfl, by decide +kernel, rfl, by decide +kernel, by decide +kernel⟩
theorem ok_LPlus {f fC : Addr} {fd fdC : FuncData} {k : Nat} (F : Fun K "_law_plus" "_law_plus" sLPlus f fd) (GC : FnOk P w K mg base CX0 k fC fdC ["_law_top", "_law_bottom"] spLow) (kC : PySem.W.keepIn K (.ref fC) = true) (bC : Binds K fdC ["_law_top", "_law_bottom"] []) (gC : mg "_law_low" = some (.ref fC)) :
    FnOk P w K mg base CX0 (k + 1) f fd ["_law_one", "_law_other"] (spBin K (· + ·)) := by
  refine F.ok scLPlus (fun vs H Q E h => ?_) (fun cdv A outer s H vs Q E hr h => ?_)
  · obtain ⟨a, b, x, y, n, m, rfl, _⟩ := h
    rfl
  · obtain ⟨a, b, x, y, n, m, rfl, hx, hy, bx, by_, hn, q⟩ := h
    refine ⟨_, pss_one (ps_ret (pe_call GC hr (by rfl) gC kC bC .nil pass0 (pa_cons (pe_op op_add (pe_op op_mulW (pe_ix ix_tup (pv 0) pe_int (fun _ _ => rfl)) (pe_ix ix_tup (pv 1) pe_int (fun _ _ => rfl))) (pe_op op_mulW (pe_ix ix_tup (pv 1) pe_int (fun _ _ => rfl)) (pe_ix ix_tup (pv 0) pe_int (fun _ _ => rfl)))) (pa_cons (pe_op op_mulW (pe_ix ix_tup (pv 0) pe_int (fun _ _ => rfl)) (pe_ix ix_tup (pv 1) pe_int (fun _ _ => rfl))) pa_nil)))), ?_⟩
    refine ⟨.ref a, rfl, a, rp x, 0, .int x.num, rfl, rfl, hx, at0 x, .ref b, rfl, b, rp y, 1, .int (y.den : Int), rfl, rfl, hy, at1 y, _, _, rfl, rfl, wmul bx.1 by_.dn (by omega), .ref b, rfl, b, rp y, 0, .int y.num, rfl, rfl, hy, at0 y, .ref a, rfl, a, rp x, 1, .int (x.den : Int), rfl, rfl, hx, at1 x, _, _, rfl, rfl, wmul by_.1 bx.dn (by omega), _, _, rfl, rfl, .ref a, rfl, a, rp x, 1, .int (x.den : Int), rfl, rfl, hx, at1 x, .ref b, rfl, b, rp y, 1, .int (y.den : Int), rfl, rfl, hy, at1 y, _, _, rfl, rfl, wmul bx.dn by_.dn (by omega), _, _, n + m + 1, rfl, Fr.add_bd (Fr.mul_bd bx.1 by_.dn) (by rw [Nat.add_comm n m]; exact Fr.mul_bd by_.1 bx.dn), Fr.up (Fr.mul_bd bx.dn by_.dn) (Nat.le_succ _), Fr.dd_ne x y, by omega, fun p hp => ?_⟩
    have z := q p hp
    rw [Fr.add_eq]
    exact z
theorem ok_LPlusR {f fC : Addr} {fd fdC : FuncData} {k : Nat} (F : Fun K "_law_plus" "_law_plus" sLPlus f fd) (GC : FnOk P w K mg base CX0 k fC fdC ["_law_top", "_law_bottom"] spLow) (kC : PySem.W.keepIn K (.ref fC) = true) (bC : Binds K fdC ["_law_top", "_law_bottom"] []) (gC : mg "_law_low" = some (.ref fC)) :
    FnOk P w K mg base CX0 (k + 1) f fd ["_law_one", "_law_other"] (spPlusR K) := by
  refine F.ok scLPlus (fun vs H Q E h => ?_) (fun cdv A outer s H vs Q E hr h => ?_)
  · obtain ⟨a, b, x, u, v, n, rfl, _⟩ := h
    rfl
  · obtain ⟨a, b, x, u, v, n, rfl, hx, hy, bx, hu, hv, v0, hn, q⟩ := h
    refine ⟨_, pss_one (ps_ret (pe_call GC hr (by rfl) gC kC bC .nil pass0 (pa_cons (pe_op op_add (pe_op op_mulW (pe_ix ix_tup (pv 0) pe_int (fun _ _ => rfl)) (pe_ix ix_tup (pv 1) pe_int (fun _ _ => rfl))) (pe_op op_mulW (pe_ix ix_tup (pv 1) pe_int (fun _ _ => rfl)) (pe_ix ix_tup (pv 0) pe_int (fun _ _ => rfl)))) (pa_cons (pe_op op_mulW (pe_ix ix_tup (pv 0) pe_int (fun _ _ => rfl)) (pe_ix ix_tup (pv 1) pe_int (fun _ _ => rfl))) pa_nil)))), ?_⟩
    refine ⟨.ref a, rfl, a, rp x, 0, .int x.num, rfl, rfl, hx, at0 x, .ref b, rfl, b, [.int u, .int v], 1, .int v, rfl, rfl, hy, atI_nat (j := 1) rfl, _, _, rfl, rfl, wmul bx.1 hv (by omega), .ref b, rfl, b, [.int u, .int v], 0, .int u, rfl, rfl, hy, atI_nat (j := 0) rfl, .ref a, rfl, a, rp x, 1, .int (x.den : Int), rfl, rfl, hx, at1 x, _, _, rfl, rfl, wmul hu bx.dn (by omega), _, _, rfl, rfl, .ref a, rfl, a, rp x, 1, .int (x.den : Int), rfl, rfl, hx, at1 x, .ref b, rfl, b, [.int u, .int v], 1, .int v, rfl, rfl, hy, atI_nat (j := 1) rfl, _, _, rfl, rfl, wmul bx.dn hv (by omega), _, _, n + n + 1, rfl, Fr.add_bd (Fr.mul_bd bx.1 hv) (by rw [Nat.add_comm n n]; exact Fr.mul_bd hu bx.dn), Fr.up (Fr.mul_bd bx.dn hv) (Nat.le_succ _), Int.mul_ne_zero (Fr.den_ne x) v0, by omega, fun p hp => ?_⟩
    have z := q p hp
    rw [← plusR_eq _ v0]
    exact z
theorem scShares : FnScope ["_law_left_here", "_law_many", "_law_some", "_law_k", "_law_one"] ["_law_left_here", "_law_many"] (defScope sShares) := ⟨rfl, rfl, rfl, by decide +kernel, rfl, by decide +kernel, by decide +kernel⟩
theorem ok_Shares {f fD fL : Addr} {fd fdD fdL : FuncData} {k : Nat} (F : Fun K "_law_shares" "_law_shares" sShares f fd) (GD : FnOk P w K mg base CX0 k fD fdD ["_law_left_here", "_law_many"] spDigit) (kD : PySem.W.keepIn K (.ref fD) = true) (bD : Binds K fdD ["_law_left_here", "_law_many"] []) (gD : mg "_law_digit" = some (.ref fD))
    (GL : FnOk P w K mg base CX0 k fL fdL ["_law_top", "_law_bottom"] spLow) (kL : PySem.W.keepIn K (.ref fL) = true) (bL : Binds K fdL ["_law_top", "_law_bottom"] []) (gL : mg "_law_low" = some (.ref fL)) (B : Blt mg) : FnOk P w K mg base CX0 (k + 1) f fd ["_law_left_here", "_law_many"] (spShares K) := by
  refine F.ok scShares (fun vs H Q E h => ?_) (fun cdv A outer s H vs Q E hr h => ?_)
  · obtain ⟨l, z, m, rfl, _⟩ := h
    rfl
  · obtain ⟨l, z, m, rfl, hl, h1, h30, q⟩ := h
    refine ⟨_, pss_cons (ps_set (i := 2) scShares.nd rfl (.inr rfl) (pe_lc (own := [("_law_k", 3)]) (g := gName 3) (tt := tYes) (te := tOp (rIxL K) (tLst (tCons (tC (.int 0)) (tCons (tC (.int 1)) (tCons (tC (.int 1)) (tCons (tC (.int 2)) (tCons (tC (.int 3)) (tCons (tC (.int 5)) tNil))))))) (tCall spDigit [] E0 (tCons (tVar 0) (tCons (tC (.int 6)) tNil)))) rfl scShares.nd (pi_range1 (by rfl) B.range_ (pa_cons (pv 1) pa_nil))
        (blkOk_by (N := ["_law_left_here", "_law_many", "_law_some", "_law_k", "_law_one"]) (sc := defScope sShares) (by decide +kernel)) (fun _ _ _ _ _ => pg_name (i := 3) scShares.nd rfl (Or.inl rfl)) (fun _ _ _ _ _ => pts_nil)
        (fun _ _ _ _ _ => pe_ix ix_list (pe_lst (pa_cons pe_int (pa_cons pe_int (pa_cons pe_int (pa_cons pe_int (pa_cons pe_int (pa_cons pe_int pa_nil))))))) (pe_call GD hr (by rfl) gD kD bD .nil pass0 (pa_cons (pv 0) (pa_cons pe_int pa_nil))) (fun _ _ => rfl))))
      (pss_cons (ps_augS (pv 2) (pe_call GD hr (by rfl) gD kD bD .nil pass0 (pa_cons (pv 0) (pa_cons (pv 1) pa_nil))) Rs.pget_list pe_int ip_add set_list)
      (pss_one (ps_ret (pe_lc (own := [("_law_one", 4)]) (g := gName 4) (tt := tYes) (te := tCall spLow [] E0 (tCons (tVar 4) (tCons (tCB (rSum K) (tCons (tVar 2) tNil)) tNil))) rfl scShares.nd (pi_list (pv 2))
        (blkOk_by (N := ["_law_left_here", "_law_many", "_law_some", "_law_k", "_law_one"]) (sc := defScope sShares) (by decide +kernel)) (fun _ _ _ _ _ => pg_name (i := 4) scShares.nd rfl (Or.inl rfl)) (fun _ _ _ _ _ => pts_nil)
        (fun _ _ _ _ _ => pe_call GL hr (by rfl) gL kL bL .nil pass0 (pa_cons (pv 4) (pa_cons (pe_callB (id := "sum") (cr_sum rfl) (by rfl) B.sum_ (by decide +kernel) (pa_cons (pv 2) pa_nil)) pa_nil))))))), ?_⟩
    -- the numbers
    refine ⟨_, rfl, (m : Int), rfl, by omega, by omega, fun S hS => lc_range (lo := 0) (n := (m : Int).toNat) (fun j H' => ∃ (ns : List Int) (z' : Int), H' S = some (.lst (ns.map V.int)) ∧ ns.length = j ∧ (∀ x ∈ ns, 0 ≤ x ∧ x ≤ 5) ∧ SameB l H H' ∧ H' l = some (.lst [.int z']))
      ⟨[], z, upd_same, rfl, fun x hx => by simp at hx, SameB.of (same_new hS _), same_new hS _ _ _ hl⟩ ?_ ?_⟩
    · rintro j H1 hj ⟨ns, z1, hS1, hlen, hns, sb, hl1⟩
      refine ⟨rfl, ?_⟩
      unfold tYes
      dsimp only
      refine iteT ?_
      refine ⟨(by show 6 ≤ sizeLine; decide), fun p hp => ?_⟩
      have s1 := same_new hp (.lst [V.int 0, V.int 1, V.int 1, V.int 2, V.int 3, V.int 5])
      have hpl : p ≠ l := fun e => by
        rw [e, hl1] at hp
        cases hp
      have hSl : S ≠ l := fun e => by
        rw [e, hl] at hS
        cases hS
      refine ⟨_, rfl, l, z1, 6, rfl, s1 _ _ hl1, by decide, by decide, fun d z2 d0 d6 => ?_⟩
      obtain ⟨v, ev, v0, v5⟩ := Rs.tab_at d0 d6
      refine ⟨p, _, d, .int v, rfl, rfl, SqL.of (by rw [upd_ne hpl, upd_same]), ev, ?_⟩
      refine ⟨_, by rw [upd_ne hSl]; exact s1 _ _ hS1, ?_, ns ++ [v], z2, ?_, ?_, ?_, ?_, ?_⟩
      · rw [List.length_map, hlen]
        exact small1000 (by omega)
      · rw [upd_same, List.map_append]
        rfl
      · rw [List.length_append, hlen]
        rfl
      · intro x hx
        rcases List.mem_append.mp hx with hx | hx
        · exact hns x hx
        · rw [List.mem_singleton.mp hx]
          exact ⟨v0, v5⟩
      · intro b u hb e
        have hbS : b ≠ S := ne_of_none e hS
        rw [upd_ne hbS, upd_ne hb]
        exact s1 _ _ (sb b u hb e)
      · rw [upd_ne (Ne.symm hSl), upd_same]
    · rintro H1 ⟨ns, z1, hS1, hlen, hns, sb, hl1⟩
      rw [Int.toNat_natCast] at hlen
      have hSl : S ≠ l := fun e => by
        rw [e, hl] at hS
        cases hS
      -- += 1
      refine ⟨_, rfl, _, rfl, _, rfl, l, z1, (m : Int), rfl, hl1, by omega, Nat.lt_of_le_of_lt (by omega : ((m : Int)).natAbs ≤ 30) (by decide), fun d z2 d0 dm => ?_⟩
      have hd : d.toNat < ns.length := by omega
      obtain ⟨x, ex⟩ : ∃ x, ns[d.toNat]? = some x := ⟨_, List.getElem?_eq_getElem hd⟩
      have ed : d = ((d.toNat : Nat) : Int) := by omega
      have hS2 : (upd H1 l (.lst [.int z2])) S = some (.lst (ns.map V.int)) := by rw [upd_ne hSl]; exact hS1
      refine ⟨S, _, d.toNat, .int x, rfl, by rw [← ed], SqL.of hS2, by rw [List.getElem?_map, ex]; rfl, x, 1, rfl, rfl, S, _, d, d.toNat, rfl, rfl, hS2, ?_, ?_⟩
      · unfold ixN
        rw [if_pos d0, if_pos (by rw [List.length_map]; omega)]
      have es : (ns.map V.int).set d.toNat (.int (x + 1)) = (ns.set d.toNat (x + 1)).map V.int := (List.map_set ..).symm
      rw [es]
      have hx0 := hns x (List.mem_of_getElem? ex)
      have hn2 : ∀ y ∈ ns.set d.toNat (x + 1), 0 ≤ y ∧ y ≤ 6 := fun y hy => by
        rcases List.mem_or_eq_of_mem_set hy with hy | rfl
        · have := hns y hy
          omega
        · omega
      have hlen2 : (ns.set d.toNat (x + 1)).length = m := by rw [List.length_set, hlen]
      have hsum : (ns.set d.toNat (x + 1)).sum = ns.sum + 1 := Rs.set_sumI ns _ x ex
      have hpos : 0 < (ns.set d.toNat (x + 1)).sum := by
        have := Rs.sum_nn ns fun y hy => (hns y hy).1
        omega
      have hle : (ns.set d.toNat (x + 1)).sum ≤ 6 * 30 := by
        have := Rs.sum_le (ns.set d.toNat (x + 1)) 6 fun y hy => (hn2 y hy).2
        rw [hlen2] at this
        omega
      generalize ns.set d.toNat (x + 1) = ms at hn2 hlen2 hsum hpos hle
      have bS : ms.sum.natAbs < 2 ^ 8 := Nat.lt_of_le_of_lt (by omega : ms.sum.natAbs ≤ 180) (by decide)
      -- the fractions
      refine ⟨_, rfl, S, rfl, ⟨_, SqL.of upd_same⟩, fun L hL => lc_list (K := K) (a := S) (xs := ms.map V.int) (fun i H' => ∃ cs, H' L = some (.lst cs) ∧ Same (upd (upd H1 l (.lst [.int z2])) S (.lst (ms.map V.int))) H' ∧ FrN K H' 8 cs ((ms.take i).map fun x => Rat.divInt x ms.sum))
        ⟨[], upd_same, same_new hL _, FrN.nil⟩ (fun i H' _ ⟨_, _, s5, _⟩ => SqL.of (s5 _ _ upd_same)) ?_ ?_⟩
      · rintro i v H' hi ⟨cs, hcs, s5, hf⟩
        rw [List.getElem?_map] at hi
        obtain ⟨y, ey, rfl⟩ : ∃ y, ms[i]? = some y ∧ v = .int y := by
          cases e : ms[i]? with
          | none => rw [e] at hi; cases hi
          | some r => rw [e] at hi; exact ⟨r, rfl, (Option.some.inj hi).symm⟩
        have hy := hn2 y (List.mem_of_getElem? ey)
        have by8 : y.natAbs < 2 ^ 8 := Nat.lt_of_le_of_lt (by omega : y.natAbs ≤ 6) (by decide)
        refine ⟨rfl, ?_⟩
        unfold tYes; dsimp only
        refine iteT ?_
        refine ⟨_, rfl, _, rfl, S, ms, rfl, SqL.of (s5 _ _ upd_same), y, ms.sum, 8, rfl, by8, bS, by omega, by decide, fun t ht => ?_⟩
        have s6 := same_new ht (.tup (rp (Rat.divInt y ms.sum)))
        refine ⟨cs, s6 _ _ hcs, ?_, _, upd_same, fun b u e => ?_, ?_⟩
        · rw [hf.len, List.length_map, List.length_take]
          exact small1000 (by omega)
        · rw [upd_ne (ne_of_none e hL)]
          exact s6 _ _ (s5 _ _ e)
        · rw [List.take_add_one, ey, List.map_append]
          exact ((hf.same s6).snoc (q := Rat.divInt y ms.sum) (SqT.of upd_same) (Fr.bd_low by8 bS (by omega))).keep (keep_lst (s6 _ _ hcs))
      · rintro H' ⟨cs, hcs, s5, hf⟩
        rw [List.length_map, List.take_length] at hf
        have sb2 : SameB l H (upd (upd H1 l (.lst [.int z2])) S (.lst (ms.map V.int))) := fun b u hb e => by
          rw [upd_ne (ne_of_none e hS), upd_ne hb]
          exact sb b u hb e
        have hLl : L ≠ l := fun e => by
          rw [e, upd_ne (Ne.symm hSl), upd_same] at hL
          cases hL
        have hL0 : H L = none := by
          cases e : H L with
          | none => rfl
          | some u =>
            rw [sb2 L u hLl e] at hL
            cases hL
        exact q L cs (Rs.shq ms) z2 H' (sb2.trans (SameB.of s5)) (s5 _ _ (by rw [upd_ne (Ne.symm hSl), upd_same])) hL0 hLl hcs hf (Rs.shq_ok hlen2 (fun y hy => (hn2 y hy).1) hpos)
theorem scGain : FnScope ["_law_left_here"] ["_law_left_here"] (defScope sGain) := ⟨rfl, rfl, rfl, by decide +kernel, rfl, by decide +kernel, by decide +kernel⟩
theorem ok_Gain {f fD fL : Addr} {fd fdD fdL : FuncData} {k : Nat} (F : Fun K "_law_gain" "_law_gain" sGain f fd) (GD : FnOk P w K mg base CX0 k fD fdD ["_law_left_here", "_law_many"] spDigit) (kD : PySem.W.keepIn K (.ref fD) = true) (bD : Binds K fdD ["_law_left_here", "_law_many"] []) (gD : mg "_law_digit" = some (.ref fD)) (GL : FnOk P w K mg base CX0 k fL fdL ["_law_top", "_law_bottom"] spLow) (kL : PySem.W.keepIn K (.ref fL) = true) (bL : Binds K fdL ["_law_top", "_law_bottom"] []) (gL : mg "_law_low" = some (.ref fL)) : FnOk P w K mg base CX0 (k + 1) f fd ["_law_left_here"] (Lw.spGain K) := by
  refine F.ok scGain (fun vs H Q E h => ?_) (fun cdv A outer s H vs Q E hr h => ?_)
  · obtain ⟨l, z, rfl, _⟩ := h
    rfl
  · obtain ⟨l, z, rfl, hl, q⟩ := h
    refine ⟨_, (pss_one (ps_ret (pe_call GL hr (by rfl) gL kL bL .nil pass0 (pa_cons (pe_op op_sub (pe_call GD hr (by rfl) gD kD bD .nil pass0 (pa_cons (pv 0) (pa_cons pe_int pa_nil))) pe_int) (pa_cons (pe_ix ix_list (pe_lst (pa_cons pe_int (pa_cons pe_int (pa_cons pe_int (pa_cons pe_int (pa_cons pe_int pa_nil)))))) (pe_call GD hr (by rfl) gD kD bD .nil pass0 (pa_cons (pv 0) (pa_cons pe_int pa_nil))) (fun _ _ => rfl)) pa_nil))))), ?_⟩
    refine ⟨_, rfl, l, z, 9, rfl, hl, by decide, by decide, fun d z1 d0 d9 => ?_⟩
    refine ⟨d, 4, rfl, rfl, ?_⟩
    refine ⟨(by show 5 ≤ sizeLine; decide), fun p np => ?_⟩
    have hpl : p ≠ l := fun e => by
      rw [e, upd_same] at np
      cases np
    have s1 := same_new np (.lst [V.int 1, V.int 1, V.int 1, V.int 2, V.int 3])
    refine ⟨_, rfl, l, z1, 5, rfl, s1 _ _ upd_same, by decide, by decide, fun e z2 e0 e5 => ?_⟩
    obtain ⟨v, ev, v1, v3⟩ := Lw.tab5 e0 e5
    refine ⟨p, _, e, .int v, rfl, rfl, SqL.of (by rw [upd_ne hpl, upd_same]), ev, ?_⟩
    have sb : SameB l H (upd (upd (upd H l (.lst [.int z1])) p (.lst [V.int 1, V.int 1, V.int 1, V.int 2, V.int 3])) l (.lst [.int z2])) := (SameB.upd.trans (SameB.of s1)).trans SameB.upd
    have hl2 : (upd (upd (upd H l (.lst [.int z1])) p (.lst [V.int 1, V.int 1, V.int 1, V.int 2, V.int 3])) l (.lst [.int z2])) l = some (.lst [.int z2]) := upd_same
    generalize upd (upd (upd H l (.lst [.int z1])) p (.lst [V.int 1, V.int 1, V.int 1, V.int 2, V.int 3])) l (.lst [.int z2]) = H2 at sb hl2 ⊢
    have hd : (d - 4).natAbs < 2 ^ 8 := Nat.lt_of_le_of_lt (show (d - 4).natAbs ≤ 5 by omega) (by decide)
    have hv : v.natAbs < 2 ^ 8 := Nat.lt_of_le_of_lt (show v.natAbs ≤ 3 by omega) (by decide)
    refine ⟨d - 4, v, 8, rfl, hd, hv, by omega, by decide, fun p2 np2 => ?_⟩
    exact q p2 _ z2 _ (sb.trans (SameB.of (same_new np2 _))) (same_new np2 _ _ _ hl2) (SqT.of upd_same) (Fr.bd_low hd hv (by omega))
theorem scGains : FnScope ["_law_left_here", "_law_worlds", "_law_deeds", "_law_deed", "_law_world"] ["_law_left_here", "_law_worlds", "_law_deeds"] (defScope sGains) := ⟨rfl, rfl, rfl, by decide +kernel, rfl, by decide +kernel, by decide +kernel⟩
theorem ok_Gains {f fG : Addr} {fd fdG : FuncData} {k : Nat} (F : Fun K "_law_gains" "_law_gains" sGains f fd) (GG : FnOk P w K mg base CX0 k fG fdG ["_law_left_here"] (Lw.spGain K)) (kG : PySem.W.keepIn K (.ref fG) = true) (bG : Binds K fdG ["_law_left_here"] []) (gG : mg "_law_gain" = some (.ref fG)) (B : Blt mg) : FnOk P w K mg base CX0 (k + 1) f fd ["_law_left_here", "_law_worlds", "_law_deeds"] (Lw.spGains K) := by
  refine F.ok scGains (fun vs H Q E h => ?_) (fun cdv A outer s H vs Q E hr h => ?_)
  · obtain ⟨l, z, ww, dd, rfl, _⟩ := h
    rfl
  · obtain ⟨l, z, ww, dd, rfl, hl, h5, h6, q⟩ := h
    refine ⟨_, (pss_one (ps_ret (pe_lc (own := [("_law_world", 4)]) (g := gName 4) (tt := tYes) (te := (tLc (iRng1 (tCons (tVar 2) tNil)) (gName 3) tYes (tCall (Lw.spGain K) [] E0 (tCons (tVar 0) tNil)) [3])) rfl scGains.nd (pi_range1 (by rfl) B.range_ (pa_cons (pv 1) pa_nil)) (blkOk_by (N := ["_law_left_here", "_law_worlds", "_law_deeds", "_law_deed", "_law_world"]) (sc := defScope sGains) (by decide +kernel)) (fun _ _ _ _ _ => (pg_name (i := 4) scGains.nd rfl (Or.inl rfl))) (fun _ _ _ _ _ => pts_nil) (fun _ _ _ _ _ => (pe_lc (own := [("_law_deed", 3)]) (g := gName 3) (tt := tYes) (te := (tCall (Lw.spGain K) [] E0 (tCons (tVar 0) tNil))) rfl scGains.nd (pi_range1 (by rfl) B.range_ (pa_cons (pv 2) pa_nil)) (blkOk_by (N := ["_law_left_here", "_law_worlds", "_law_deeds", "_law_deed", "_law_world"]) (sc := ({ kind := .function, names := [(".0", .local), ("_law_world", .local), ("range", .globalImplicit), ("_law_deeds", .cell), ("_law_left_here", .cell)], isGenerator := false, isCoroutine := false } : Scope)) (by decide +kernel)) (fun _ _ _ _ _ => (pg_name (i := 3) scGains.nd rfl (Or.inl rfl))) (fun _ _ _ _ _ => pts_nil) (fun _ _ _ _ _ => (pe_call GG hr (by rfl) gG kG bG .nil pass0 (pa_cons (pv 0) pa_nil)))))))), ?_⟩
    refine ⟨_, rfl, (ww : Int), rfl, by omega, by omega, fun D hD => ?_⟩
    have hDl : D ≠ l := fun e => by
      rw [e, hl] at hD
      cases hD
    refine lc_range (lo := 0) (n := (ww : Int).toNat) (fun j H' => ∃ rs rss z', New K H H' l D rs rss 8 ∧ H' l = some (.lst [.int z']) ∧ rss.length = j ∧ (∀ r ∈ rss, r.length = dd))
      ⟨[], [], z, New.start hD, by rw [upd_ne (Ne.symm hDl)]; exact hl, rfl, fun qs hq => by simp at hq⟩ ?_ ?_
    · rintro j H' hj ⟨rs, rss, z', N, hl', hlen, hrow⟩
      refine ⟨rfl, tYes_of ?_⟩
      refine ⟨_, rfl, (dd : Int), rfl, by omega, by omega, fun R hR => ?_⟩
      have hRl : R ≠ l := fun e => by
        rw [e, hl'] at hR
        cases hR
      refine lc_range (lo := 0) (n := (dd : Int).toNat) (fun jj H'' => ∃ cs qs z'', H'' R = some (.lst cs) ∧ SameB l H' H'' ∧ H'' l = some (.lst [.int z'']) ∧ FrN K H'' 8 cs qs ∧ qs.length = jj)
        ⟨[], [], z', upd_same, SameB.of (same_new hR _), by rw [upd_ne (Ne.symm hRl)]; exact hl', FrN.nil, rfl⟩ ?_ ?_
      · rintro jj H'' hjj ⟨cs, qs, z'', hcs, sb, hl'', hf, hq⟩
        refine ⟨rfl, tYes_of ?_⟩
        refine ⟨_, rfl, l, z'', rfl, hl'', fun p q z3 H3 sb3 hl3 hp hb => ?_⟩
        have hcs3 := sb3 _ _ hRl hcs
        refine ⟨cs, hcs3, ?_, cs ++ [.ref p], qs ++ [q], z3, upd_same, fun b u hb' e => ?_, by rw [upd_ne (Ne.symm hRl)]; exact hl3, ?_, by rw [List.length_append, hq]; rfl⟩
        · rw [hf.len, hq]
          exact small1000 (by omega)
        · rw [upd_ne (ne_of_none e hR)]
          exact sb3 _ _ hb' (sb _ _ hb' e)
        · exact ((hf.keep (sb3.tup hl'')).snoc hp hb).keep (keep_lst hcs3)
      · rintro H'' ⟨cs, qs, z'', hcs, sb, hl'', hf, hq⟩
        rw [Int.toNat_natCast] at hq
        have N2 := N.step sb hl' hDl
        refine ⟨_, N2.at_, ?_, rs ++ [R], rss ++ [qs], z'', New.push N N2 hR hcs hf hRl, by rw [upd_ne (Ne.symm hDl)]; exact hl'', ?_, ?_⟩
        · rw [List.length_map, N.rows.1, hlen]
          exact small1000 (by omega)
        · rw [List.length_append, hlen]
          rfl
        · intro x hx
          rcases List.mem_append.mp hx with hx | hx
          · exact hrow x hx
          · rw [List.mem_singleton.mp hx]
            exact hq
    · rintro H' ⟨rs, rss, z', N, hl', hlen, hrow⟩
      rw [Int.toNat_natCast] at hlen
      exact q D rs rss z' H' N hDl hl' hlen hrow
theorem scParts : FnScope ["_law_left_here", "_law_most_worlds", "_law_most_deeds", "_law_worlds", "_law_deeds", "_law_own", "_law_deed", "_law_world"] ["_law_left_here", "_law_most_worlds", "_law_most_deeds"] (defScope sParts) := ⟨rfl, rfl, rfl, by decide +kernel, rfl, by decide +kernel, by decide +kernel⟩
theorem ok_Parts {f fD fG fS : Addr} {fd fdD fdG fdS : FuncData} {k : Nat} (F : Fun K "_law_parts" "_law_parts" sParts f fd) (GD : FnOk P w K mg base CX0 k fD fdD ["_law_left_here", "_law_many"] spDigit) (kD : PySem.W.keepIn K (.ref fD) = true) (bD : Binds K fdD ["_law_left_here", "_law_many"] []) (gD : mg "_law_digit" = some (.ref fD)) (GG : FnOk P w K mg base CX0 k fG fdG ["_law_left_here", "_law_worlds", "_law_deeds"] (Lw.spGains K)) (kG : PySem.W.keepIn K (.ref fG) = true) (bG : Binds K fdG ["_law_left_here", "_law_worlds", "_law_deeds"] []) (gG : mg "_law_gains" = some (.ref fG)) (GS : FnOk P w K mg base CX0 k fS fdS ["_law_left_here", "_law_many"] (spShares K)) (kS : PySem.W.keepIn K (.ref fS) = true) (bS : Binds K fdS ["_law_left_here", "_law_many"] []) (gS : mg "_law_shares" = some (.ref fS)) (B : Blt mg) : FnOk P w K mg base CX0 (k + 1) f fd ["_law_left_here", "_law_most_worlds", "_law_most_deeds"] (Lw.spParts K) := by
  refine F.ok scParts (fun vs H Q E h => ?_) (fun cdv A outer s H vs Q E hr h => ?_)
  · obtain ⟨l, z, mw, md, rfl, _⟩ := h
    rfl
  · obtain ⟨l, z, mw, md, rfl, hl, m1, m5, n1, n6, q⟩ := h
    refine ⟨_, (pss_cons (ps_set (i := 3) scParts.nd rfl (.inl rfl) (pe_op op_add pe_int (pe_call GD hr (by rfl) gD kD bD .nil pass0 (pa_cons (pv 0) (pa_cons (pv 1) pa_nil)))))
      (pss_cons (ps_set (i := 4) scParts.nd rfl (.inr rfl) (pe_op op_add pe_int (pe_call GD hr (by rfl) gD kD bD .nil pass0 (pa_cons (pv 0) (pa_cons (pv 2) pa_nil)))))
      (pss_cons (ps_set (i := 5) scParts.nd rfl (.inl rfl) (pe_call GG hr (by rfl) gG kG bG .nil pass0 (pa_cons (pv 0) (pa_cons (pv 3) (pa_cons (pv 4) pa_nil)))))
      (pss_cons (ps_if (pt_cmpR op_eq (pe_call GD hr (by rfl) gD kD bD .nil pass0 (pa_cons (pv 0) (pa_cons pe_int pa_nil))) pe_int (nomark _)) (pss_one (ps_setLc (i := 5) (own := [("_law_world", 7)]) (g := gName 7) (tt := tYes) (te := (tLc (iRng1 (tCons (tVar 4) tNil)) (gName 6) tYes (tTup (tCons (tCB Rs.rInt1 (tCons (tOp rEq (tVar 6) (tOp (rI (fun _ j => 0 < j) fun i j => .int (i % j)) (tVar 7) (tVar 4))) tNil)) (tCons (tC (.int 1)) tNil))) [6])) rfl scParts.nd rfl rfl (sw_true rfl rfl rfl (by decide +kernel)) (pi_range1 (by rfl) B.range_ (pa_cons (pv 3) pa_nil)) (blkOk_by (N := ["_law_left_here", "_law_most_worlds", "_law_most_deeds", "_law_worlds", "_law_deeds", "_law_own", "_law_deed", "_law_world"]) (sc := defScope sParts) (by decide +kernel)) (fun _ _ _ _ _ => (pg_name (i := 7) scParts.nd rfl (Or.inr rfl))) (fun _ _ _ _ _ => pts_nil) (fun _ _ _ _ _ => (pe_lc (own := [("_law_deed", 6)]) (g := gName 6) (tt := tYes) (te := (tTup (tCons (tCB Rs.rInt1 (tCons (tOp rEq (tVar 6) (tOp (rI (fun _ j => 0 < j) fun i j => .int (i % j)) (tVar 7) (tVar 4))) tNil)) (tCons (tC (.int 1)) tNil)))) rfl scParts.nd (pi_range1 (by rfl) B.range_ (pa_cons (pv 4) pa_nil)) (blkOk_by (N := ["_law_left_here", "_law_most_worlds", "_law_most_deeds", "_law_worlds", "_law_deeds", "_law_own", "_law_deed", "_law_world"]) (sc := ({ kind := .function, names := [(".0", .local), ("_law_world", .cell), ("range", .globalImplicit), ("_law_deeds", .cell)], isGenerator := false, isCoroutine := false } : Scope)) (by decide +kernel)) (fun _ _ _ _ _ => (pg_name (i := 6) scParts.nd rfl (Or.inl rfl))) (fun _ _ _ _ _ => pts_nil) (fun _ _ _ _ _ => (pe_tup (pa_cons (pe_callTy (T := "int") call_int1 (by rfl) B.int_ (by decide +kernel) (pa_cons (pe_cmpR op_eq (pv 6) (pe_op op_mod (pv 7) (pv 4)) (nomark _)) pa_nil)) (pa_cons pe_int pa_nil)))))))) pss_nil)
      (pss_one (ps_ret (pe_lst (pa_cons (pe_call GS hr (by rfl) gS kS bS .nil pass0 (pa_cons (pv 0) (pa_cons (pv 3) pa_nil))) (pa_cons (pv 5) (pa_cons (pe_call GG hr (by rfl) gG kG bG .nil pass0 (pa_cons (pv 0) (pa_cons (pv 3) (pa_cons (pv 4) pa_nil)))) pa_nil)))))))))), ?_⟩
    refine ⟨_, rfl, _, rfl, l, z, (mw : Int), rfl, hl, by omega, Nat.lt_of_le_of_lt (by omega : ((mw : Int)).natAbs ≤ 30) (by decide), fun d1 z1 a0 a1 => ?_⟩
    refine ⟨1, d1, rfl, rfl, ?_⟩
    obtain ⟨ww, ew⟩ : ∃ ww : Nat, (1 + d1 : Int) = (ww : Int) := ⟨(1 + d1).toNat, by omega⟩
    rw [show ((fun i j => V.int (i + j)) 1 d1 : V) = V.int (ww : Int) from congrArg V.int ew]
    refine ⟨_, rfl, _, rfl, l, z1, (md : Int), rfl, upd_same, by omega, Nat.lt_of_le_of_lt (by omega : ((md : Int)).natAbs ≤ 30) (by decide), fun d2 z2 b0 b1 => ?_⟩
    refine ⟨1, d2, rfl, rfl, ?_⟩
    obtain ⟨dd, ed⟩ : ∃ dd : Nat, (1 + d2 : Int) = (dd : Int) := ⟨(1 + d2).toNat, by omega⟩
    rw [show ((fun i j => V.int (i + j)) 1 d2 : V) = V.int (dd : Int) from congrArg V.int ed]
    have sb2 : SameB l H (upd (upd H l (.lst [.int z1])) l (.lst [.int z2])) := SameB.upd.trans SameB.upd
    have hl2 : (upd (upd H l (.lst [.int z1])) l (.lst [.int z2])) l = some (.lst [.int z2]) := upd_same
    generalize upd (upd H l (.lst [.int z1])) l (.lst [.int z2]) = H2 at sb2 hl2 ⊢
    have fin : ∀ (O : Addr) (rh : List Addr) (hss : List (List Rat)) (H4 : Hp) (z4 : Int), SameB l H H4 → H4 l = some (.lst [.int z4]) → RwL K H4 O rh hss 8 → hss.length = ww → (∀ r ∈ hss, r.length = dd) → (tLst (tCons (tCall (spShares K) [] E0 (tCons (tVar 0) (tCons (tVar 3) tNil))) (tCons (tVar 5) (tCons (tCall (Lw.spGains K) [] E0 (tCons (tVar 0) (tCons (tVar 3) (tCons (tVar 4) tNil)))) tNil)))) [some (.ref l), some (.int (mw : Int)), some (.int (md : Int)), some (.int (ww : Int)), some (.int (dd : Int)), some (.ref O), none, none] H4 Q := fun O rh hss H4 z4 sb4 hl4 W4 hh4 hr4 => by
      refine ⟨_, rfl, _, rfl, l, z4, ww, rfl, hl4, by omega, by omega, fun A cs qs z5 H5 sb5 hl5 hA4 hAl hcs hf hro => ?_⟩
      have W5 := Rs.RwL.keepB W4 hl4 sb5
      refine ⟨_, rfl, ?_⟩
      refine ⟨_, rfl, _, rfl, _, rfl, l, z5, ww, dd, rfl, hl5, by omega, by omega, fun T rt tss z6 H6 N hTl hl6 ht6 hr6 => ?_⟩
      have W6 := Rs.RwL.keepB W5 hl5 N.keep
      refine ⟨(by show 3 ≤ sizeLine; decide), fun P nP => ?_⟩
      have s7 := same_new nP (.lst [V.ref A, V.ref O, V.ref T])
      have sb6 := (sb4.trans sb5).trans N.keep
      have hPl : P ≠ l := fun e => by
        rw [e, hl6] at nP
        cases nP
      have hP0 : H P = none := by
        cases e : H P with
        | none => rfl
        | some o =>
          rw [sb6 P o hPl e] at nP
          cases nP
      refine q P qs hss tss ww dd z6 _ (sb6.trans (SameB.of s7)) (s7 _ _ hl6) ⟨A, O, T, cs, rh, rt, upd_same, s7 _ _ (N.keep _ _ hAl hcs), (hf.keep (N.keep.tup hl5)).same s7, W6.same s7, N.rwl.same s7⟩ ⟨by omega, by omega, by omega, by omega, hro, hh4, ht6, hr4, hr6⟩ (by omega) (by omega) hP0 hPl
    refine ⟨_, rfl, _, rfl, _, rfl, l, z2, ww, dd, rfl, hl2, by omega, by omega, fun O rh hss z3 H3 N hOl hl3 hh3 hr3 => ?_⟩
    have sb3 := sb2.trans N.keep
    have W3 := N.rwl
    clear N
    refine ⟨_, rfl, l, z3, 4, rfl, hl3, by decide, by decide, fun d4 z4 c0 c4 => ?_⟩
    have sb4 := sb3.trans (SameB.upd (o := .lst [.int z4]))
    have W4 := Rs.RwL.keepB W3 hl3 (SameB.upd (o := .lst [.int z4]))
    have hl4 : (upd H3 l (.lst [.int z4])) l = some (.lst [.int z4]) := upd_same
    generalize upd H3 l (.lst [.int z4]) = H4 at sb4 W4 hl4 ⊢
    refine ⟨rfl, _, rfl, ite2 (fun _ => ?_) (fun _ => fin O rh hss H4 z4 sb4 hl4 W4 hh3 hr3)⟩
    refine ⟨_, rfl, (ww : Int), rfl, by omega, by omega, fun L hL => lc_range (lo := 0) (n := (ww : Int).toNat) (fun j H' => ∃ rs rss, New K H4 H' L L rs rss 8 ∧ rss.length = j ∧ ∀ r ∈ rss, r.length = dd) ⟨[], [], New.start hL, rfl, fun r hr => by simp at hr⟩ ?_ ?_⟩
    · rintro j H' hj ⟨rs, rss, N, hlen, hrow⟩
      refine ⟨rfl, tYes_of ?_⟩
      refine ⟨_, rfl, (dd : Int), rfl, by omega, by omega, fun R hR => lc_range (lo := 0) (n := (dd : Int).toNat) (fun jj H'' => ∃ cs qs, H'' R = some (.lst cs) ∧ Same H' H'' ∧ FrN K H'' 8 cs qs ∧ qs.length = jj) ⟨[], [], upd_same, same_new hR _, FrN.nil, rfl⟩ ?_ ?_⟩
      · rintro jj H'' hjj ⟨cs, qs, hcs, s5, hf, hq⟩
        refine ⟨rfl, tYes_of ?_⟩
        refine ⟨_, rfl, _, rfl, _, rfl, _, _, rfl, rfl, (show (0 : Int) < (dd : Int) by omega), rfl, .inr ⟨_, rfl, (by show 2 ≤ sizeLine; decide), fun t ht => ?_⟩⟩
        obtain ⟨bb, ebb⟩ : ∃ bb : Bool, decide (V.int (0 + (jj : Int)) = V.int ((0 + (j : Int)) % (dd : Int))) = bb := ⟨_, rfl⟩
        rw [ebb]
        obtain ⟨q, hb, er⟩ : ∃ q : Rat, Bd 8 q ∧ rp q = [.int (if bb = true then 1 else 0), .int 1] := by
          cases bb with
          | true => exact ⟨1, Lw.bd_one, rfl⟩
          | false => exact ⟨0, Lw.bd_nul, rfl⟩
        rw [← er]
        have s6 := same_new ht (.tup (rp q))
        refine ⟨cs, s6 _ _ hcs, ?_, _, qs ++ [q], upd_same, fun b u e => ?_, ?_, by rw [List.length_append, hq]; rfl⟩
        · rw [hf.len, hq]
          exact small1000 (by omega)
        · rw [upd_ne (ne_of_none e hR)]
          exact s6 _ _ (s5 _ _ e)
        · exact ((hf.same s6).snoc (SqT.of upd_same) hb).keep (keep_lst (s6 _ _ hcs))
      · rintro H'' ⟨cs, qs, hcs, s5, hf, hq⟩
        rw [Int.toNat_natCast] at hq
        have N2 := N.stepS s5
        have hRL : R ≠ L := fun e => by
          rw [e, N.at_] at hR
          cases hR
        refine ⟨_, N2.at_, ?_, rs ++ [R], rss ++ [qs], New.push N N2 hR hcs hf hRL, by rw [List.length_append, hlen]; rfl, fun r hr => ?_⟩
        · rw [List.length_map, N.rows.1, hlen]
          exact small1000 (by omega)
        · rcases List.mem_append.mp hr with hr | hr
          · exact hrow r hr
          · rw [List.mem_singleton.mp hr]
            exact hq
    · rintro H5 ⟨rs, rss, N, hlen, hrow⟩
      rw [Int.toNat_natCast] at hlen
      have fr := N.toFresh
      have u5 := fr.2.2.2.2.2
      exact fin L rs rss H5 z4 (sb4.trans (SameB.of u5)) (u5 _ _ hl4) fr.1 hlen hrow
theorem scCopy06 : FnScope ["_law_parts_here", "_law_row"] ["_law_parts_here"] (defScope sCopy06) := ⟨rfl, rfl, rfl, by decide +kernel, rfl, by decide +kernel, by decide +kernel⟩
theorem ok_Copy06 {f  : Addr} {fd  : FuncData} {k : Nat} (F : Fun K "_law_copy" "_law_copy" sCopy06 f fd)  (B : Blt mg) : FnOk P w K mg base CX0 (k + 1) f fd ["_law_parts_here"] (spCopy06 K) := by
  refine F.ok scCopy06 (fun vs H Q E h => ?_) (fun cdv A outer s H vs Q E hr h => ?_)
  · obtain ⟨P, qs, hss, tss, n, ww, dd, rfl, _⟩ := h
    rfl
  · obtain ⟨P, qs, hss, tss, n, ww, dd, rfl, hP, g, q⟩ := h
    refine ⟨_, (pss_one (ps_ret (pe_lst (pa_cons (pe_callTy (T := "list") call_list_of (by rfl) B.list_ (by decide +kernel) (pa_cons (pe_ix ix_list (pv 0) pe_int (fun _ _ => rfl)) pa_nil)) (pa_cons (pe_lc (own := [("_law_row", 1)]) (g := gName 1) (tt := tYes) (te := (tCB (rListOf K) (tCons (tVar 1) tNil))) rfl scCopy06.nd (pi_list (pe_ix ix_list (pv 0) pe_int (fun _ _ => rfl))) (blkOk_by (N := ["_law_parts_here", "_law_row"]) (sc := defScope sCopy06) (by decide +kernel)) (fun _ _ _ _ _ => (pg_name (i := 1) scCopy06.nd rfl (Or.inl rfl))) (fun _ _ _ _ _ => pts_nil) (fun _ _ _ _ _ => (pe_callTy (T := "list") call_list_of (by rfl) B.list_ (by decide +kernel) (pa_cons (pv 1) pa_nil)))) (pa_cons (pe_lc (own := [("_law_row", 1)]) (g := gName 1) (tt := tYes) (te := (tCB (rListOf K) (tCons (tVar 1) tNil))) rfl scCopy06.nd (pi_list (pe_ix ix_list (pv 0) pe_int (fun _ _ => rfl))) (blkOk_by (N := ["_law_parts_here", "_law_row"]) (sc := defScope sCopy06) (by decide +kernel)) (fun _ _ _ _ _ => (pg_name (i := 1) scCopy06.nd rfl (Or.inl rfl))) (fun _ _ _ _ _ => pts_nil) (fun _ _ _ _ _ => (pe_callTy (T := "list") call_list_of (by rfl) B.list_ (by decide +kernel) (pa_cons (pv 1) pa_nil)))) pa_nil)))))), ?_⟩
    obtain ⟨A0, B0, C0, cs, rh, rt, e1, e2, e3, e4, e5⟩ := hP
    have w5 := g.w5
    refine ⟨_, rfl, P, _, 0, .ref A0, rfl, rfl, SqL.of (e1), atI_nat (j := 0) rfl, A0, cs, rfl, .inl (SqL.of e2), fun A nA => ?_⟩
    have s1 := same_new nA (.lst cs)
    refine ⟨_, rfl, P, _, 1, .ref B0, rfl, rfl, SqL.of (s1 _ _ e1), atI_nat (j := 1) rfl, B0, rfl, ⟨_, SqL.of (s1 _ _ e4.1)⟩, fun B hB => lc_copy (e4.same s1) (by rw [g.hl]; omega) hB fun rh' H2 b => ?_⟩
    have s2 := s1.trans b.2.2.2.2.2
    refine ⟨_, rfl, P, _, 2, .ref C0, rfl, rfl, SqL.of (s2 _ _ e1), atI_nat (j := 2) rfl, C0, rfl, ⟨_, SqL.of (s2 _ _ e5.1)⟩, fun C hC => lc_copy (e5.same s2) (by rw [g.tl]; omega) hC fun rt' H3 c => ?_⟩
    refine ⟨(by show 3 ≤ sizeLine; decide), fun P' nP => ?_⟩
    obtain ⟨x, y⟩ := cp_of nA e3 b c nP
    exact q P' A B C cs rh' rt' _ y x
theorem scTxt06 : FnScope ["_law_parts_here"] ["_law_parts_here"] (defScope sTxt06) := ⟨rfl, rfl, rfl, by decide +kernel, rfl, by decide +kernel, by decide +kernel⟩
theorem ok_Txt06 {f  : Addr} {fd  : FuncData} {k : Nat} (F : Fun K "_law_text" "_law_text" sTxt06 f fd)  (B : Blt mg) : FnOk P w K mg base CX0 (k + 1) f fd ["_law_parts_here"] (spTxt06 K) := by
  refine F.ok scTxt06 (fun vs H Q E h => ?_) (fun cdv A outer s H vs Q E hr h => ?_)
  · obtain ⟨P, qs, hss, tss, n, ww, dd, rfl, _⟩ := h
    rfl
  · obtain ⟨P, qs, hss, tss, n, ww, dd, rfl, hP, g, q⟩ := h
    refine ⟨_, (pss_one (ps_ret (pe_op op_add_str (pe_op op_add_str (pe_op op_add_str (pe_callTy (T := "str") call_str_int (by rfl) B.str_ (by decide +kernel) (pa_cons (pe_callB call_len_seq (by rfl) B.len_ PySem.boot_len (pa_cons (pe_ix ix_list (pv 0) pe_int (fun _ _ => rfl)) pa_nil)) pa_nil)) pe_str) (pe_callTy (T := "str") call_str_int (by rfl) B.str_ (by decide +kernel) (pa_cons (pe_callB call_len_seq (by rfl) B.len_ PySem.boot_len (pa_cons (pe_ix ix_list (pe_ix ix_list (pv 0) pe_int (fun _ _ => rfl)) pe_int (fun _ _ => rfl)) pa_nil)) pa_nil))) pe_str))), ?_⟩
    obtain ⟨A0, B0, C0, cs, rh, rt, e1, e2, e3, e4, e5⟩ := hP
    have w1 := g.w1
    have w5 := g.w5
    have d6 := g.d6
    have hr0 : 0 < rh.length := by rw [e4.2.1, g.hl]; omega
    obtain ⟨c0, q0, f1, f2, f3⟩ := e4.2.2 0 rh[0] (List.getElem?_eq_getElem hr0)
    have hc0 : c0.length = dd := by rw [f3.len, g.hr q0 (List.mem_of_getElem? f1)]
    have hcs : cs.length = ww := by rw [e3.len, g.sh.1]
    have l1 := num_len (n := cs.length) (by rw [hcs]; exact Nat.lt_of_le_of_lt w5 (by decide))
    have l2 := num_len (n := c0.length) (by rw [hc0]; exact Nat.lt_of_le_of_lt d6 (by decide))
    have z1 : (Str.ofString " worlds, ").length = 9 := by decide +kernel
    have z2 : (Str.ofString " deeds").length = 6 := by decide +kernel
    have zz := szl
    refine ⟨_, rfl, P, _, 0, .ref A0, rfl, rfl, SqL.of (e1), atI_nat (j := 0) rfl, A0, cs, rfl, .inl (SqL.of e2), _, rfl, log_small (by rw [hcs]; exact Nat.lt_of_le_of_lt w5 (by decide)), _, _, rfl, rfl, (by omega), _, rfl, P, _, 1, .ref B0, rfl, rfl, SqL.of (e1), atI_nat (j := 1) rfl, B0, _, 0, .ref rh[0], rfl, rfl, SqL.of e4.1, atI_nat (j := 0) (by rw [List.getElem?_map, List.getElem?_eq_getElem hr0]; rfl), rh[0], c0, rfl, .inl (SqL.of f2), _, rfl, log_small (by rw [hc0]; exact Nat.lt_of_le_of_lt d6 (by decide)), _, _, rfl, rfl, (by rw [app_len]; omega), _, _, rfl, rfl, (by rw [app_len, app_len]; omega), ?_⟩
    unfold caseS at q
    rw [emp_app, ← hcs, ← hc0] at q
    exact q
theorem scChg06 : FnScope ["_law_left_here", "_law_parts_here", "_law_found", "_law_way", "_law_row", "_law_at"] ["_law_left_here", "_law_parts_here"] (defScope sChg06) := ⟨rfl, rfl, rfl, by decide +kernel, rfl, by decide +kernel, by decide +kernel⟩
theorem ok_Chg06 {f fD fS fPl fPa : Addr} {fd fdD fdS fdPl fdPa : FuncData} {k : Nat} (F : Fun K "_law_changed" "_law_changed" sChg06 f fd) (GD : FnOk P w K mg base CX0 k fD fdD ["_law_left_here", "_law_many"] spDigit) (kD : PySem.W.keepIn K (.ref fD) = true) (bD : Binds K fdD ["_law_left_here", "_law_many"] []) (gD : mg "_law_digit" = some (.ref fD)) (GS : FnOk P w K mg base CX0 k fS fdS ["_law_left_here", "_law_many"] (spShares K)) (kS : PySem.W.keepIn K (.ref fS) = true) (bS : Binds K fdS ["_law_left_here", "_law_many"] []) (gS : mg "_law_shares" = some (.ref fS)) (GPl : FnOk P w K mg base CX0 k fPl fdPl ["_law_one", "_law_other"] (spPlusR K)) (kPl : PySem.W.keepIn K (.ref fPl) = true) (bPl : Binds K fdPl ["_law_one", "_law_other"] []) (gPl : mg "_law_plus" = some (.ref fPl)) (GPa : FnOk P w K mg base CX0 k fPa fdPa ["_law_left_here", "_law_most_worlds", "_law_most_deeds"] (Lw.spParts K)) (kPa : PySem.W.keepIn K (.ref fPa) = true) (bPa : Binds K fdPa ["_law_left_here", "_law_most_worlds", "_law_most_deeds"] []) (gPa : mg "_law_parts" = some (.ref fPa)) (B : Blt mg) : FnOk P w K mg base CX0 (k + 1) f fd ["_law_left_here", "_law_parts_here"] (spChg06 K) := by
  refine F.ok scChg06 (fun vs H Q E h => ?_) (fun cdv A outer s H vs Q E hr h => ?_)
  · obtain ⟨l, P, z, qs, hss, tss, ww, dd, rfl, _⟩ := h
    rfl
  · obtain ⟨l, P, z, qs, hss, tss, ww, dd, rfl, hl, hP, g, q⟩ := h
    refine ⟨_, (pss_cons (ps_set (i := 2) scChg06.nd rfl (.inl rfl) (pe_lst (pa_cons (pe_callTy (T := "list") call_list_of (by rfl) B.list_ (by decide +kernel) (pa_cons (pe_ix ix_list (pv 1) pe_int (fun _ _ => rfl)) pa_nil)) (pa_cons (pe_lc (own := [("_law_row", 4)]) (g := gName 4) (tt := tYes) (te := (tCB (rListOf K) (tCons (tVar 4) tNil))) rfl scChg06.nd (pi_list (pe_ix ix_list (pv 1) pe_int (fun _ _ => rfl))) (blkOk_by (N := ["_law_left_here", "_law_parts_here", "_law_found", "_law_way", "_law_row", "_law_at"]) (sc := defScope sChg06) (by decide +kernel)) (fun _ _ _ _ _ => (pg_name (i := 4) scChg06.nd rfl (Or.inl rfl))) (fun _ _ _ _ _ => pts_nil) (fun _ _ _ _ _ => (pe_callTy (T := "list") call_list_of (by rfl) B.list_ (by decide +kernel) (pa_cons (pv 4) pa_nil)))) (pa_cons (pe_lc (own := [("_law_row", 4)]) (g := gName 4) (tt := tYes) (te := (tCB (rListOf K) (tCons (tVar 4) tNil))) rfl scChg06.nd (pi_list (pe_ix ix_list (pv 1) pe_int (fun _ _ => rfl))) (blkOk_by (N := ["_law_left_here", "_law_parts_here", "_law_found", "_law_way", "_law_row", "_law_at"]) (sc := defScope sChg06) (by decide +kernel)) (fun _ _ _ _ _ => (pg_name (i := 4) scChg06.nd rfl (Or.inl rfl))) (fun _ _ _ _ _ => pts_nil) (fun _ _ _ _ _ => (pe_callTy (T := "list") call_list_of (by rfl) B.list_ (by decide +kernel) (pa_cons (pv 4) pa_nil)))) pa_nil)))))
      (pss_cons (ps_set (i := 3) scChg06.nd rfl (.inl rfl) (pe_call GD hr (by rfl) gD kD bD .nil pass0 (pa_cons (pv 0) (pa_cons pe_int pa_nil))))
      (pss_cons (ps_if (pt_cmpR op_eq (pv 3) pe_int (nomark _)) (pss_one (ps_asg (pe_call GS hr (by rfl) gS kS bS .nil pass0 (pa_cons (pv 0) (pa_cons (pe_callB call_len_seq (by rfl) B.len_ PySem.boot_len (pa_cons (pe_ix ix_list (pv 1) pe_int (fun _ _ => rfl)) pa_nil)) pa_nil))) (pg_sub (pv 2) pe_int set_list))) pss_nil)
      (pss_cons (ps_if (PW.pt (pw_or (pt_cmpR op_eq (pv 3) pe_int (nomark _)) (pw_or1 (pt_cmpR op_eq (pv 3) pe_int (nomark _))))) (pss_cons (ps_set (i := 4) scChg06.nd rfl (.inl rfl) (pe_ix ix_list (pe_ix ix_list (pv 2) (pv 3) (fun _ _ => rfl)) (pe_call GD hr (by rfl) gD kD bD .nil pass0 (pa_cons (pv 0) (pa_cons (pe_callB call_len_seq (by rfl) B.len_ PySem.boot_len (pa_cons (pe_ix ix_list (pv 1) pe_int (fun _ _ => rfl)) pa_nil)) pa_nil))) (fun _ _ => rfl)))
      (pss_cons (ps_set (i := 5) scChg06.nd rfl (.inl rfl) (pe_call GD hr (by rfl) gD kD bD .nil pass0 (pa_cons (pv 0) (pa_cons (pe_callB call_len_seq (by rfl) B.len_ PySem.boot_len (pa_cons (pv 4) pa_nil)) pa_nil))))
      (pss_one (ps_asg (pe_call GPl hr (by rfl) gPl kPl bPl .nil pass0 (pa_cons (pe_ix ix_list (pv 4) (pv 5) (fun _ _ => rfl)) (pa_cons (pe_tup (pa_cons (pe_call GD hr (by rfl) gD kD bD .nil pass0 (pa_cons (pv 0) (pa_cons pe_int pa_nil))) (pa_cons pe_int pa_nil))) pa_nil))) (pg_sub (pv 4) (pv 5) set_list))))) pss_nil)
      (pss_cons (ps_if (pt_cmpR op_eq (pv 3) pe_int (nomark _)) (pss_one (ps_set (i := 2) scChg06.nd rfl (.inl rfl) (pe_call GPa hr (by rfl) gPa kPa bPa .nil pass0 (pa_cons (pv 0) (pa_cons pe_int (pa_cons pe_int pa_nil)))))) pss_nil)
      (pss_one (ps_ret (pv 2)))))))), ?_⟩
    obtain ⟨A0, B0, C0, cs, rh, rt, e1, e2, e3, e4, e5⟩ := id hP
    have w1 := g.w1
    have w5 := g.w5
    have d1 := g.d1
    have d6 := g.d6
    refine ⟨_, rfl, P, _, 0, .ref A0, rfl, rfl, SqL.of (e1), atI_nat (j := 0) rfl, A0, cs, rfl, .inl (SqL.of e2), fun A nA => ?_⟩
    have s1 := same_new nA (.lst cs)
    refine ⟨_, rfl, P, _, 1, .ref B0, rfl, rfl, SqL.of (s1 _ _ e1), atI_nat (j := 1) rfl, B0, rfl, ⟨_, SqL.of (s1 _ _ e4.1)⟩, fun B hB => lc_copy (e4.same s1) (by rw [g.hl]; omega) hB fun rh' H2 b => ?_⟩
    have s2 := s1.trans b.2.2.2.2.2
    refine ⟨_, rfl, P, _, 2, .ref C0, rfl, rfl, SqL.of (s2 _ _ e1), atI_nat (j := 2) rfl, C0, rfl, ⟨_, SqL.of (s2 _ _ e5.1)⟩, fun C hC => lc_copy (e5.same s2) (by rw [g.tl]; omega) hC fun rt' H3 c => ?_⟩
    refine ⟨(by show 3 ≤ sizeLine; decide), fun F nF => ?_⟩
    obtain ⟨cp, sF⟩ := cp_of nA e3 b c nF
    generalize upd H3 F (.lst [V.ref A, V.ref B, V.ref C]) = J1 at cp sF ⊢
    clear s1 s2 b c nF nA hB hC
    have hl1 := sF _ _ hl
    have hP := hP.same sF
    refine ⟨_, rfl, l, z, 5, rfl, hl1, by decide, by decide, fun d z1 d0 d5 => ?_⟩
    have kb : SameB l J1 (upd J1 l (.lst [.int z1])) := SameB.upd
    have cp := cp.but hl hl1 kb
    have hP := hP.but hl1 kb
    have sb : SameB l H (upd J1 l (.lst [.int z1])) := (SameB.of sF).trans kb
    have hl2 : (upd J1 l (.lst [.int z1])) l = some (.lst [.int z1]) := upd_same
    generalize upd J1 l (.lst [.int z1]) = J2 at kb cp sb hP hl2 ⊢
    clear kb hl1 sF e1 e2 e3 e4 e5
    obtain ⟨A0, B0, C0, cs, rh, rt, e1, e2, e3, e4, e5⟩ := hP
    have cl : cs.length = ww := by rw [e3.len, g.sh.1]
    have n0 := cp.n0
    obtain ⟨kd, k1, k2, k3, k4, k5, k6⟩ := cp.kd
    have hd : d = 0 ∨ d = 1 ∨ d = 2 ∨ d = 3 ∨ d = 4 := by omega
    rcases hd with rfl | rfl | rfl | rfl | rfl
    · refine ⟨_, rfl, rfl, _, rfl, ?_⟩
      rw [decide_eq_true (show V.int 0 = V.int 0 from rfl)]
      refine iteT ⟨_, rfl, _, rfl, P, _, 0, .ref A0, rfl, rfl, SqL.of (e1), atI_nat (j := 0) rfl, A0, cs, rfl, .inl (SqL.of e2), l, z1, cs.length, rfl, hl2, by omega, by omega, fun D2 c2 q2 z2 J3 kb2 hl3 nD2 Dl hD2 hf2 ro2 => ?_⟩
      rw [cl] at ro2
      have nF : F ≠ D2 := fun z => by rw [← z, cp.p] at nD2; cases nD2
      have cp := cp.but hl hl2 kb2
      have sb := sb.trans kb2
      refine ⟨_, rfl, F, _, 0, 0, rfl, rfl, cp.p, (show ixN 3 0 = some 0 from rfl), ?_⟩
      refine ⟨_, rfl, rfl, _, rfl, ?_⟩
      rw [decide_eq_false (show ¬ V.int 0 = V.int 1 from fun z => by cases z)]
      refine iteF ?_
      refine ⟨_, rfl, rfl, _, rfl, ?_⟩
      rw [decide_eq_false (show ¬ V.int 0 = V.int 2 from fun z => by cases z)]
      refine iteF ?_
      refine ⟨_, rfl, rfl, _, rfl, ?_⟩
      rw [decide_eq_false (show ¬ V.int 0 = V.int 3 from fun z => by cases z)]
      refine iteF ?_
      have Fl : F ≠ l := fun z => by rw [z, hl] at n0; cases n0.1
      refine ⟨_, rfl, q F q2 hss tss ww dd z2 _ (same_off sb n0.1) (by rw [upd_ne (Ne.symm Fl)]; exact hl3) ⟨D2, B, C, c2, rh', rt', upd_same, by rw [upd_ne (Ne.symm nF)]; exact hD2, (hf2.mono (by decide)).keep (keep_lst cp.p), rwl_off (rwl_mono cp.b (by decide)) (fun z => by rw [z, k3] at k1; cases k1) (fun z => by have := k5 _ z; rw [k1] at this; cases this) cp.p, rwl_off (rwl_mono cp.c (by decide)) (fun z => by rw [z, k4] at k1; cases k1) (fun z => by have := k6 _ z; rw [k1] at this; cases this) cp.p⟩ ⟨w1, w5, d1, d6, ro2, g.hl, g.tl, g.hr, g.tr⟩⟩
    · refine ⟨_, rfl, rfl, _, rfl, ?_⟩
      rw [decide_eq_false (show ¬ V.int 1 = V.int 0 from fun z => by cases z)]
      refine iteF ?_
      refine ⟨_, rfl, rfl, _, rfl, ?_⟩
      rw [decide_eq_true (show V.int 1 = V.int 1 from rfl)]
      refine iteT (iteT ?_)
      refine ⟨_, rfl, _, rfl, F, _, 1, .ref B, rfl, rfl, SqL.of cp.p, atI_nat (j := 1) rfl, _, rfl, _, rfl, P, _, 0, .ref A0, rfl, rfl, SqL.of (e1), atI_nat (j := 0) rfl, A0, cs, rfl, .inl (SqL.of e2), l, z1, _, rfl, hl2, by omega, Nat.lt_of_le_of_lt (show ((cs.length : Int)).natAbs ≤ 5 by omega) (by decide), fun i z3 i0 i1 => ?_⟩
      obtain ⟨ii, rfl⟩ : ∃ ii : Nat, i = (ii : Int) := ⟨i.toNat, by omega⟩
      have hii : ii < rh'.length := by rw [cp.b.2.1, g.hl]; omega
      have cp := cp.but hl hl2 (SameB.upd (o := .lst [.int z3]))
      have sb := sb.trans (SameB.upd (o := .lst [.int z3]))
      have hl3 : (upd J2 l (.lst [.int z3])) l = some (.lst [.int z3]) := upd_same
      generalize upd J2 l (.lst [.int z3]) = J3 at cp sb hl3 ⊢
      clear hl2 e1 e2 e3 e4 e5
      obtain ⟨cr, qr, r1, r2, r3⟩ := cp.b.2.2 ii rh'[ii] (List.getElem?_eq_getElem hii)
      have lr : cr.length = dd := by rw [r3.len, g.hr qr (List.mem_of_getElem? r1)]
      refine ⟨B, _, (ii : Int), .ref rh'[ii], rfl, rfl, SqL.of cp.b.1, atI_nat (by rw [List.getElem?_map, List.getElem?_eq_getElem hii]; rfl), ?_⟩
      refine ⟨_, rfl, _, rfl, rh'[ii], cr, rfl, .inl (SqL.of r2), l, z3, _, rfl, hl3, by omega, Nat.lt_of_le_of_lt (show ((cr.length : Int)).natAbs ≤ 6 by omega) (by decide), fun k z4 y0 y1 => ?_⟩
      obtain ⟨kn, rfl⟩ : ∃ kn : Nat, k = (kn : Int) := ⟨k.toNat, by omega⟩
      have hkn : kn < cr.length := by omega
      have nRl : rh'[ii] ≠ l := fun z => by
        have := n0.2.2.2.2.1 _ (List.getElem_mem hii)
        rw [z, hl] at this
        cases this
      have kR := k5 _ (List.getElem_mem hii)
      have HNR : H rh'[ii] = none := n0.2.2.2.2.1 _ (List.getElem_mem hii)
      have er : rh'[ii]? = some rh'[ii] := List.getElem?_eq_getElem hii
      generalize rh'[ii] = R at r2 nRl kR HNR er ⊢
      have cp := cp.but hl hl3 (SameB.upd (o := .lst [.int z4]))
      have sb := sb.trans (SameB.upd (o := .lst [.int z4]))
      have r2 := (SameB.upd (ex := l) (H := J3) (o := .lst [.int z4])) _ _ nRl r2
      have r3 := r3.keep ((SameB.upd (ex := l) (H := J3) (o := .lst [.int z4])).tup hl3)
      have hl4 : (upd J3 l (.lst [.int z4])) l = some (.lst [.int z4]) := upd_same
      generalize upd J3 l (.lst [.int z4]) = J4 at cp sb hl4 r2 r3 ⊢
      clear hl3
      obtain ⟨p, x, x1, x2, x3, x4⟩ := r3.at_ kn _ (List.getElem?_eq_getElem hkn)
      refine ⟨_, rfl, _, rfl, R, cr, (kn : Int), .ref p, rfl, rfl, SqL.of r2, atI_nat (by rw [List.getElem?_eq_getElem hkn, x2]), _, rfl, l, z4, 2, rfl, hl4, by decide, by decide, fun t z5 t0 t1 => ?_⟩
      have cp := cp.but hl hl4 (SameB.upd (o := .lst [.int z5]))
      have sb := sb.trans (SameB.upd (o := .lst [.int z5]))
      have r2 := (SameB.upd (ex := l) (H := J4) (o := .lst [.int z5])) _ _ nRl r2
      have r3 := r3.keep ((SameB.upd (ex := l) (H := J4) (o := .lst [.int z5])).tup hl4)
      have x3 := ((SameB.upd (ex := l) (H := J4) (o := .lst [.int z5])).tup hl4) _ _ x3
      have hl5 : (upd J4 l (.lst [.int z5])) l = some (.lst [.int z5]) := upd_same
      generalize upd J4 l (.lst [.int z5]) = J5 at cp sb hl5 r2 r3 x3 ⊢
      clear hl4
      refine ⟨(by show 2 ≤ sizeLine; decide), fun tp ntp => ?_⟩
      have s6 := same_new ntp (.tup [V.int t, V.int 3])
      have etp : SqT K (upd J5 tp (.tup [V.int t, V.int 3])) tp [V.int t, V.int 3] := SqT.of upd_same
      have tb : t.natAbs < 2 ^ 8 := Nat.lt_of_le_of_lt (show t.natAbs ≤ 2 by omega) (by decide)
      refine ⟨p, tp, x, t, 3, 8, rfl, seqT s6 x3, etp, x4, tb, by decide, by decide, by decide, fun p2 np2 => ?_⟩
      have s7 := s6.trans (same_new np2 (.tup (rp (x + Rat.divInt t 3))))
      have ep2 : SqT K (upd (upd J5 tp (.tup [V.int t, V.int 3])) p2 (.tup (rp (x + Rat.divInt t 3)))) p2 (rp (x + Rat.divInt t 3)) := SqT.of upd_same
      have bq : Bd 17 (x + Rat.divInt t 3) := bd_plusR x4 tb (by decide) (by decide)
      generalize upd (upd J5 tp (.tup [V.int t, V.int 3])) p2 (.tup (rp (x + Rat.divInt t 3))) = J7 at s7 ep2 ⊢
      have cp := cp.same s7
      have sb := sb.trans (SameB.of s7)
      have r2 := s7 _ _ r2
      have r3 := r3.same s7
      have hl7 := s7 _ _ hl5
      clear s6 etp hl5
      refine ⟨_, rfl, _, rfl, R, cr, (kn : Int), kn, rfl, rfl, r2, ixN_at hkn, ?_⟩
      refine ⟨_, rfl, rfl, _, rfl, ?_⟩
      rw [decide_eq_false (show ¬ V.int 1 = V.int 3 from fun z => by cases z)]
      refine iteF ?_
      refine ⟨_, rfl, q F qs (hss.set ii (qr.set kn (x + Rat.divInt t 3))) tss ww dd z5 _ (same_off sb HNR) (by rw [upd_ne (Ne.symm nRl)]; exact hl7) ⟨A, B, C, _, rh', rt', by rw [upd_ne (fun z => by rw [← z, k1] at kR; cases kR)]; exact cp.p, by rw [upd_ne (fun z => by rw [← z, k2] at kR; cases kR)]; exact cp.a, (cp.f.mono (by decide)).keep (keep_lst r2), rwl_set (rwl_mono cp.b (by decide)) cp.nd.1 (fun z => by have := k5 _ z; rw [k3] at this; cases this) er r2 (r3.mono (by decide)) r1 ep2 bq, rwl_off (rwl_mono cp.c (by decide)) (fun z => by rw [z, k4] at kR; cases kR) (fun z => by have := k6 _ z; rw [kR] at this; cases this) r2⟩ ?_⟩
      have nw : ∀ r ∈ hss.set ii (qr.set kn (x + Rat.divInt t 3)), r.length = dd := fun r hr => by
        rcases List.mem_or_eq_of_mem_set hr with hr | rfl
        · exact g.hr r hr
        · rw [List.length_set]; exact g.hr qr (List.mem_of_getElem? r1)
      exact ⟨w1, w5, d1, d6, g.sh, by rw [List.length_set]; exact g.hl, g.tl, nw, g.tr⟩
    · refine ⟨_, rfl, rfl, _, rfl, ?_⟩
      rw [decide_eq_false (show ¬ V.int 2 = V.int 0 from fun z => by cases z)]
      refine iteF ?_
      refine ⟨_, rfl, rfl, _, rfl, ?_⟩
      rw [decide_eq_false (show ¬ V.int 2 = V.int 1 from fun z => by cases z)]
      refine iteF ?_
      refine ⟨_, rfl, rfl, _, rfl, ?_⟩
      rw [decide_eq_true (show V.int 2 = V.int 2 from rfl)]
      refine iteT ?_
      refine ⟨_, rfl, _, rfl, F, _, 2, .ref C, rfl, rfl, SqL.of cp.p, atI_nat (j := 2) rfl, _, rfl, _, rfl, P, _, 0, .ref A0, rfl, rfl, SqL.of (e1), atI_nat (j := 0) rfl, A0, cs, rfl, .inl (SqL.of e2), l, z1, _, rfl, hl2, by omega, Nat.lt_of_le_of_lt (show ((cs.length : Int)).natAbs ≤ 5 by omega) (by decide), fun i z3 i0 i1 => ?_⟩
      obtain ⟨ii, rfl⟩ : ∃ ii : Nat, i = (ii : Int) := ⟨i.toNat, by omega⟩
      have hii : ii < rt'.length := by rw [cp.c.2.1, g.tl]; omega
      have cp := cp.but hl hl2 (SameB.upd (o := .lst [.int z3]))
      have sb := sb.trans (SameB.upd (o := .lst [.int z3]))
      have hl3 : (upd J2 l (.lst [.int z3])) l = some (.lst [.int z3]) := upd_same
      generalize upd J2 l (.lst [.int z3]) = J3 at cp sb hl3 ⊢
      clear hl2 e1 e2 e3 e4 e5
      obtain ⟨cr, qr, r1, r2, r3⟩ := cp.c.2.2 ii rt'[ii] (List.getElem?_eq_getElem hii)
      have lr : cr.length = dd := by rw [r3.len, g.tr qr (List.mem_of_getElem? r1)]
      refine ⟨C, _, (ii : Int), .ref rt'[ii], rfl, rfl, SqL.of cp.c.1, atI_nat (by rw [List.getElem?_map, List.getElem?_eq_getElem hii]; rfl), ?_⟩
      refine ⟨_, rfl, _, rfl, rt'[ii], cr, rfl, .inl (SqL.of r2), l, z3, _, rfl, hl3, by omega, Nat.lt_of_le_of_lt (show ((cr.length : Int)).natAbs ≤ 6 by omega) (by decide), fun k z4 y0 y1 => ?_⟩
      obtain ⟨kn, rfl⟩ : ∃ kn : Nat, k = (kn : Int) := ⟨k.toNat, by omega⟩
      have hkn : kn < cr.length := by omega
      have nRl : rt'[ii] ≠ l := fun z => by
        have := n0.2.2.2.2.2 _ (List.getElem_mem hii)
        rw [z, hl] at this
        cases this
      have kR := k6 _ (List.getElem_mem hii)
      have HNR : H rt'[ii] = none := n0.2.2.2.2.2 _ (List.getElem_mem hii)
      have er : rt'[ii]? = some rt'[ii] := List.getElem?_eq_getElem hii
      generalize rt'[ii] = R at r2 nRl kR HNR er ⊢
      have cp := cp.but hl hl3 (SameB.upd (o := .lst [.int z4]))
      have sb := sb.trans (SameB.upd (o := .lst [.int z4]))
      have r2 := (SameB.upd (ex := l) (H := J3) (o := .lst [.int z4])) _ _ nRl r2
      have r3 := r3.keep ((SameB.upd (ex := l) (H := J3) (o := .lst [.int z4])).tup hl3)
      have hl4 : (upd J3 l (.lst [.int z4])) l = some (.lst [.int z4]) := upd_same
      generalize upd J3 l (.lst [.int z4]) = J4 at cp sb hl4 r2 r3 ⊢
      clear hl3
      obtain ⟨p, x, x1, x2, x3, x4⟩ := r3.at_ kn _ (List.getElem?_eq_getElem hkn)
      refine ⟨_, rfl, _, rfl, R, cr, (kn : Int), .ref p, rfl, rfl, SqL.of r2, atI_nat (by rw [List.getElem?_eq_getElem hkn, x2]), _, rfl, l, z4, 2, rfl, hl4, by decide, by decide, fun t z5 t0 t1 => ?_⟩
      have cp := cp.but hl hl4 (SameB.upd (o := .lst [.int z5]))
      have sb := sb.trans (SameB.upd (o := .lst [.int z5]))
      have r2 := (SameB.upd (ex := l) (H := J4) (o := .lst [.int z5])) _ _ nRl r2
      have r3 := r3.keep ((SameB.upd (ex := l) (H := J4) (o := .lst [.int z5])).tup hl4)
      have x3 := ((SameB.upd (ex := l) (H := J4) (o := .lst [.int z5])).tup hl4) _ _ x3
      have hl5 : (upd J4 l (.lst [.int z5])) l = some (.lst [.int z5]) := upd_same
      generalize upd J4 l (.lst [.int z5]) = J5 at cp sb hl5 r2 r3 x3 ⊢
      clear hl4
      refine ⟨(by show 2 ≤ sizeLine; decide), fun tp ntp => ?_⟩
      have s6 := same_new ntp (.tup [V.int t, V.int 3])
      have etp : SqT K (upd J5 tp (.tup [V.int t, V.int 3])) tp [V.int t, V.int 3] := SqT.of upd_same
      have tb : t.natAbs < 2 ^ 8 := Nat.lt_of_le_of_lt (show t.natAbs ≤ 2 by omega) (by decide)
      refine ⟨p, tp, x, t, 3, 8, rfl, seqT s6 x3, etp, x4, tb, by decide, by decide, by decide, fun p2 np2 => ?_⟩
      have s7 := s6.trans (same_new np2 (.tup (rp (x + Rat.divInt t 3))))
      have ep2 : SqT K (upd (upd J5 tp (.tup [V.int t, V.int 3])) p2 (.tup (rp (x + Rat.divInt t 3)))) p2 (rp (x + Rat.divInt t 3)) := SqT.of upd_same
      have bq : Bd 17 (x + Rat.divInt t 3) := bd_plusR x4 tb (by decide) (by decide)
      generalize upd (upd J5 tp (.tup [V.int t, V.int 3])) p2 (.tup (rp (x + Rat.divInt t 3))) = J7 at s7 ep2 ⊢
      have cp := cp.same s7
      have sb := sb.trans (SameB.of s7)
      have r2 := s7 _ _ r2
      have r3 := r3.same s7
      have hl7 := s7 _ _ hl5
      clear s6 etp hl5
      refine ⟨_, rfl, _, rfl, R, cr, (kn : Int), kn, rfl, rfl, r2, ixN_at hkn, ?_⟩
      refine ⟨_, rfl, rfl, _, rfl, ?_⟩
      rw [decide_eq_false (show ¬ V.int 2 = V.int 3 from fun z => by cases z)]
      refine iteF ?_
      refine ⟨_, rfl, q F qs hss (tss.set ii (qr.set kn (x + Rat.divInt t 3))) ww dd z5 _ (same_off sb HNR) (by rw [upd_ne (Ne.symm nRl)]; exact hl7) ⟨A, B, C, _, rh', rt', by rw [upd_ne (fun z => by rw [← z, k1] at kR; cases kR)]; exact cp.p, by rw [upd_ne (fun z => by rw [← z, k2] at kR; cases kR)]; exact cp.a, (cp.f.mono (by decide)).keep (keep_lst r2), rwl_off (rwl_mono cp.b (by decide)) (fun z => by rw [z, k3] at kR; cases kR) (fun z => by have := k5 _ z; rw [kR] at this; cases this) r2, rwl_set (rwl_mono cp.c (by decide)) cp.nd.2 (fun z => by have := k6 _ z; rw [k4] at this; cases this) er r2 (r3.mono (by decide)) r1 ep2 bq⟩ ?_⟩
      have nw : ∀ r ∈ tss.set ii (qr.set kn (x + Rat.divInt t 3)), r.length = dd := fun r hr => by
        rcases List.mem_or_eq_of_mem_set hr with hr | rfl
        · exact g.tr r hr
        · rw [List.length_set]; exact g.tr qr (List.mem_of_getElem? r1)
      exact ⟨w1, w5, d1, d6, g.sh, g.hl, by rw [List.length_set]; exact g.tl, g.hr, nw⟩
    · refine ⟨_, rfl, rfl, _, rfl, ?_⟩
      rw [decide_eq_false (show ¬ V.int 3 = V.int 0 from fun z => by cases z)]
      refine iteF ?_
      refine ⟨_, rfl, rfl, _, rfl, ?_⟩
      rw [decide_eq_false (show ¬ V.int 3 = V.int 1 from fun z => by cases z)]
      refine iteF ?_
      refine ⟨_, rfl, rfl, _, rfl, ?_⟩
      rw [decide_eq_false (show ¬ V.int 3 = V.int 2 from fun z => by cases z)]
      refine iteF ?_
      refine ⟨_, rfl, rfl, _, rfl, ?_⟩
      rw [decide_eq_true (show V.int 3 = V.int 3 from rfl)]
      refine iteT ⟨_, rfl, l, z1, 5, 6, rfl, hl2, by decide, by decide, by decide, by decide, fun P2 us iss kss w2 d2 z2 J3 kb2 hl3 pa gc _ _ _ _ => ?_⟩
      exact ⟨_, rfl, q P2 us iss kss _ _ _ _ (sb.trans kb2) hl3 ((PartsL.of pa).mono (by decide)) gc⟩
    · refine ⟨_, rfl, rfl, _, rfl, ?_⟩
      rw [decide_eq_false (show ¬ V.int 4 = V.int 0 from fun z => by cases z)]
      refine iteF ?_
      refine ⟨_, rfl, rfl, _, rfl, ?_⟩
      rw [decide_eq_false (show ¬ V.int 4 = V.int 1 from fun z => by cases z)]
      refine iteF ?_
      refine ⟨_, rfl, rfl, _, rfl, ?_⟩
      rw [decide_eq_false (show ¬ V.int 4 = V.int 2 from fun z => by cases z)]
      refine iteF ?_
      refine ⟨_, rfl, rfl, _, rfl, ?_⟩
      rw [decide_eq_false (show ¬ V.int 4 = V.int 3 from fun z => by cases z)]
      refine iteF ?_
      exact ⟨_, rfl, q F qs hss tss ww dd z1 J2 sb hl2 (cp.parts.mono (by decide)) g⟩
end
end K06

set_option Elab.async false
set_option linter.all false
set_option maxRecDepth 100000
set_option maxHeartbeats 16000000
namespace K06
open PySem PySem.Spec PyProof.Rows L2 BX EXB Co Ru
open Dz Cs Hr Gs
open Rs (Rsp Rv Ret tYes_of dV datR Flat Okr spShares spRowsL spTotal spCopied eqv_dR)
open Fr (Bd)
abbrev dParts (qs : List Rat) (hss tss : List (List Rat)) : PyData := .list [.list (qs.map dR), dRows hss, dRows tss]
section
variable {K : PySem.W.Frag} {H : Hp} {P A B C : Addr} {ca : List V} {rh rt : List Addr} {qs us : List Rat} {hss tss iss kss : List (List Rat)} {n m ww dd w' d' : Nat}
theorem dp_parts (e1 : H P = some (.lst [.ref A, .ref B, .ref C])) (e2 : H A = some (.lst ca)) (e3 : FrN K H n ca qs) (e4 : RwL K H B rh hss n) (e5 : RwL K H C rt tss n) : Dp K H (.ref P) (dParts qs hss tss) :=
  .lst (SqL.of e1) (.cons (.lst (SqL.of e2) e3.dp) (.cons e4.dp (.cons e5.dp .nil)))
theorem parts_dp (h : PartsL K H P qs hss tss n) : Dp K H (.ref P) (dParts qs hss tss) := let ⟨_, _, _, _, _, _, e1, e2, e3, e4, e5⟩ := h; dp_parts e1 e2 e3 e4 e5
theorem parts_sm (h : PartsL K H P qs hss tss n) (g : GoodC qs hss tss ww dd) (hn : n ≤ 20) : Sm (dParts qs hss tss) 4 5673 := by
  obtain ⟨_, _, _, _, _, _, e1, e2, e3, e4, e5⟩ := h
  have w5 := g.w5
  have d6 := g.d6
  have S1 := sm_qs (m := 5) (frn_bd e3) hn (by rw [g.sh.1]; exact w5) (by decide)
  have S2 := sm_rows (rw_bd e4) hn (by rw [g.hl]; exact w5) (fun r hr => by rw [g.hr r hr]; exact d6)
  have S3 := sm_rows (rw_bd e5) hn (by rw [g.tl]; exact w5) (fun r hr => by rw [g.tr r hr]; exact d6)
  refine sm_list (k := 3) (b := 1888) (n := 3) (fun d hd => ?_) (Nat.le_refl _) (by decide)
  simp only [List.mem_cons, List.not_mem_nil, or_false] at hd
  rcases hd with rfl | rfl | rfl
  · exact S1.mono (by decide) (by decide)
  · exact S2
  · exact S3
theorem sm_shaped {d : PyData} {k b : Nat} (h : Sm d k b) (hk : k ≤ 64) : SeqAt.shaped d = true := by
  unfold SeqAt.shaped
  rw [h.ly, Bool.true_and]
  exact decide_eq_true (Nat.le_trans h.dp hk)
theorem eqv_parts : PyData.eqv (dParts qs hss tss) (dParts us iss kss) = decide (qs = us ∧ hss = iss ∧ tss = kss) := by
  rw [PyData.eqv, PyData.eqvAll, PyData.eqvAll, PyData.eqvAll, PyData.eqvAll, eqv_rats, eqv_rows, eqv_rows, Bool.and_true, ← Bool.decide_and, ← Bool.decide_and]
theorem join3 (y a b c : Str) : Txt.join y [a, b, c] = a ++ (y ++ (b ++ (y ++ c))) := TL.ext_tl (by
  rw [TL.join_eq, TL.tl_join, TL.tl_append, TL.tl_append, TL.tl_append, TL.tl_append]
  rfl)
theorem rep_eq (qs : List Rat) (hss tss : List (List Rat)) : (Str.ofString "Case(" ++ Txt.join (Str.ofString ", ") [(PyData.list (qs.map dR)).shown, (dRows hss).shown, (dRows tss).shown]) ++ Str.ofString ")" = caseR qs hss tss := by
  unfold caseR
  rw [join3, emp_app]
  simp only [app_assoc]
end
def spIs06 (K : PySem.W.Frag) (C : Addr) : Sp := fun vs H Q _ => ∃ (x P : Addr) (qs : List Rat) (hss tss : List (List Rat)) (n ww dd : Nat), vs = [.ref x, .ref P] ∧ IsCase K H C x qs hss tss n ∧ PartsL K H P qs hss tss n ∧ GoodC qs hss tss ww dd ∧ n ≤ 20 ∧ ∀ H', Same H H' → Q (.bl true) H'
section
variable {P : Program} {w : World} {K : PySem.W.Frag} {mg : Str → Option Value} {base : Heap}
theorem scIs06 : FnScope ["_law_case", "_law_parts_here", "_law_part"] ["_law_case", "_law_parts_here"] (defScope sIs06) := ⟨rfl, rfl, rfl, by decide +kernel, rfl, by decide +kernel, by decide +kernel⟩
theorem ok_Is06 {f fCW fCD fCS fCH fCE fTx : Addr} {fd fdCW fdCD fdCS fdCH fdCE fdTx : FuncData} {k : Nat} {C fI fStr fRep fLen : Addr} {fdStr fdRep fdLen : FuncData} (F : Fun K "_law_is" "_law_is" sIs06 f fd) (T : CaT K mg C fI) (mCW : Meth K C "worlds" fCW) (mCD : Meth K C "deeds" fCD) (mCS : Meth K C "shares" fCS) (mCH : Meth K C "hearer" fCH) (mCE : Meth K C "teller" fCE) (lS : PySem.W.findIn K (.ref C) "__str__" = some (some (.ref fStr))) (fnS : PySem.W.isFn K (.ref fStr) = true) (GStr : FnOk P w K mg base CX0 k fStr fdStr ["self"] (spCStr K C)) (bStr : Binds K fdStr ["self"] []) (lR : PySem.W.findIn K (.ref C) "__repr__" = some (some (.ref fRep))) (fnR : PySem.W.isFn K (.ref fRep) = true) (GRep : FnOkG P w K mg base CX0 k fRep fdRep ["self"] (spCRepr K C)) (bRep : Binds K fdRep ["self"] []) (lL : PySem.W.findIn K (.ref C) "__len__" = some (some (.ref fLen))) (fnL : PySem.W.isFn K (.ref fLen) = true) (GLen : FnOk P w K mg base CX0 k fLen fdLen ["self"] (spCWorlds K C)) (bLen : Binds K fdLen ["self"] []) (GCW : FnOk P w K mg base CX0 k fCW fdCW ["self"] (spCWorlds K C)) (bCW : Binds K fdCW ["self"] []) (GCD : FnOk P w K mg base CX0 k fCD fdCD ["self"] (spCDeeds K C)) (bCD : Binds K fdCD ["self"] []) (GCS : FnOk P w K mg base CX0 k fCS fdCS ["self"] (spCShares K C)) (bCS : Binds K fdCS ["self"] []) (GCH : FnOk P w K mg base CX0 k fCH fdCH ["self"] (spCHearer K C)) (bCH : Binds K fdCH ["self"] []) (GCE : FnOk P w K mg base CX0 k fCE fdCE ["self"] (spCTeller K C)) (bCE : Binds K fdCE ["self"] []) (GTx : FnOk P w K mg base CX0 k fTx fdTx ["_law_parts_here"] (spTxt06 K)) (kTx : PySem.W.keepIn K (.ref fTx) = true) (bTx : Binds K fdTx ["_law_parts_here"] []) (gTx : mg "_law_text" = some (.ref fTx)) (B : Blt mg) : FnOkG P w K mg base CX0 (k + 3) f fd ["_law_case", "_law_parts_here"] (spIs06 K C) := by
  refine okG F scIs06 (fun vs H Q E h => ?_) (fun cdv A outer s H vs Q E hr hgd h => ?_)
  · obtain ⟨x, P, qs, hss, tss, n, ww, dd, rfl, _⟩ := h
    rfl
  · obtain ⟨x, P, qs, hss, tss, n, ww, dd, rfl, hc, hP, g, hn, q⟩ := h
    have hk : Room k _ := hr.mono (by omega)
    have hk1 : Room (k + 1) _ := hr.mono (by omega)
    have hu : (A.deeper (envOfC "_law_is" (defScope sIs06) s.heap.objs.size f cdv)).units + 80 < cLine := by have := hr.un; omega
    refine ⟨_, (pss_cons (ps_if (PW.pt (pw_or (pt_cmpR op_ne (pe_meth0 (pv 0) T.cl mCW GCW hk bCW .nil pass0) (pe_callB call_len_seq (by rfl) B.len_ PySem.boot_len (pa_cons (pe_ix ix_list (pv 1) pe_int (fun _ _ => rfl)) pa_nil)) (nomark _)) (pw_or (pt_cmpR op_ne (pe_meth0 (pv 0) T.cl mCD GCD hk bCD .nil pass0) (pe_callB call_len_seq (by rfl) B.len_ PySem.boot_len (pa_cons (pe_ix ix_list (pe_ix ix_list (pv 1) pe_int (fun _ _ => rfl)) pe_int (fun _ _ => rfl)) pa_nil)) (nomark _)) (pw_or1 (pt_cmpR op_ne (pe_callB (Rs.call_lenO lL fnL GLen hk1 bLen) (by rfl) B.len_ PySem.boot_len (pa_cons (pv 0) pa_nil)) (pe_callB call_len_seq (by rfl) B.len_ PySem.boot_len (pa_cons (pe_ix ix_list (pv 1) pe_int (fun _ _ => rfl)) pa_nil)) (nomark _)))))) (pss_one (ps_ret pe_bl)) pss_nil)
      (pss_cons (ps_if (PW.pt (pw_or (pt_cmpR (op_neD hk.units) (pe_lst (pa_cons (pe_meth0 (pv 0) T.cl mCS GCS hk bCS .nil pass0) (pa_cons (pe_meth0 (pv 0) T.cl mCH GCH hk bCH .nil pass0) (pa_cons (pe_meth0 (pv 0) T.cl mCE GCE hk bCE .nil pass0) pa_nil)))) (pv 1) (nomark _)) (pw_or1 (pt_cmpR op_ne (pe_callTy (T := "str") (call_strO lS fnS GStr hr bStr) (by rfl) B.str_ (by decide +kernel) (pa_cons (pv 0) pa_nil)) (pe_call GTx hk (by rfl) gTx kTx bTx .nil pass0 (pa_cons (pv 1) pa_nil)) (nomark _))))) (pss_one (ps_ret pe_bl)) pss_nil)
      (pss_one (ps_ret (pe_cmpR op_eq (pe_callB (call_reprOw lR fnR GRep hk1 hgd bRep) (by rfl) B.repr_ (by decide +kernel) (pa_cons (pv 0) pa_nil)) (pe_op op_add_str (pe_op op_add_str pe_str (pe_join pe_str (pe_lc (own := [("_law_part", 2)]) (g := gName 2) (tt := tYes) (te := (tCB (rRepr K) (tCons (tVar 2) tNil))) rfl scIs06.nd (pi_list (pv 1)) (blkOk_by (N := ["_law_case", "_law_parts_here", "_law_part"]) (sc := defScope sIs06) (by decide +kernel)) (fun _ _ _ _ _ => (pg_name (i := 2) scIs06.nd rfl (Or.inl rfl))) (fun _ _ _ _ _ => pts_nil) (fun _ _ _ _ _ => (pe_callB (call_reprD hgd hu) (by rfl) B.repr_ (by decide +kernel) (pa_cons (pv 2) pa_nil)))))) pe_str) (nomark _)))))), ?_⟩
    obtain ⟨dx, sa, ha, ta, cs0, rh0, rt0, e1, e2, e3, e4, e5⟩ := id hc
    obtain ⟨A0, B0, C0, cs, rh, rt, i1, i2, i3, i4, i5⟩ := id hP
    have w1 := g.w1
    have w5 := g.w5
    have d6 := g.d6
    have hr0 : 0 < rh.length := by rw [i4.2.1, g.hl]; omega
    obtain ⟨c0, q0, f1, f2, f3⟩ := i4.2.2 0 rh[0] (List.getElem?_eq_getElem hr0)
    have hc0 : c0.length = dd := by rw [f3.len, g.hr q0 (List.mem_of_getElem? f1)]
    have hcs : cs.length = qs.length := i3.len
    have hq : qs.length = ww := g.sh.1
    refine ⟨_, rfl, x, dx, _, rfl, e1, rfl, x, qs, hss, tss, n, rfl, hc, _, rfl, P, _, 0, .ref A0, rfl, rfl, SqL.of (i1), atI_nat (j := 0) rfl, A0, cs, rfl, .inl (SqL.of i2), rfl, _, rfl, ?_⟩
    rw [decide_eq_true (show V.int (qs.length : Int) = V.int (cs.length : Int) by rw [hcs])]
    refine iteF ⟨_, rfl, x, dx, _, rfl, e1, rfl, x, qs, hss, tss, n, ww, dd, rfl, hc, g, _, rfl, P, _, 1, .ref B0, rfl, rfl, SqL.of (i1), atI_nat (j := 1) rfl, B0, _, 0, .ref rh[0], rfl, rfl, SqL.of i4.1, atI_nat (j := 0) (by rw [List.getElem?_map, List.getElem?_eq_getElem hr0]; rfl), rh[0], c0, rfl, .inl (SqL.of f2), rfl, _, rfl, ?_⟩
    rw [decide_eq_true (show V.int (dd : Int) = V.int (c0.length : Int) by rw [hc0])]
    refine iteF ⟨_, rfl, x, dx, _, rfl, e1, x, qs, hss, tss, n, rfl, hc, qs.length, rfl, (by omega), _, rfl, P, _, 0, .ref A0, rfl, rfl, SqL.of (i1), atI_nat (j := 0) rfl, A0, cs, rfl, .inl (SqL.of i2), rfl, _, rfl, ?_⟩
    rw [decide_eq_true (show V.int (qs.length : Int) = V.int (cs.length : Int) by rw [hcs])]
    refine iteF ?_
    have h100 : hss.length ≤ 100 := by rw [g.hl]; omega
    have t100 : tss.length ≤ 100 := by rw [g.tl]; omega
    refine ⟨_, rfl, x, dx, _, rfl, e1, rfl, x, qs, hss, tss, n, rfl, hc, fun p1 cs1 np1 hf1 => ?_⟩
    have s1 := same_new np1 (.lst cs1)
    have ep1 : (upd H p1 (.lst cs1)) p1 = some (.lst cs1) := upd_same
    have hf1 := hf1.same s1
    generalize upd H p1 (.lst cs1) = J1 at s1 ep1 hf1 ⊢
    refine ⟨_, rfl, x, dx, _, rfl, s1 _ _ e1, rfl, x, qs, hss, tss, n, rfl, hc.same s1, h100, fun p2 r2 J2 fr2 => ?_⟩
    have s2 := fr2.2.2.2.2.2
    have w2 := fr2.1
    clear fr2
    refine ⟨_, rfl, x, dx, _, rfl, s2 _ _ (s1 _ _ e1), rfl, x, qs, hss, tss, n, rfl, (hc.same s1).same s2, t100, fun p3 r3 J3 fr3 => ?_⟩
    have s3 := fr3.2.2.2.2.2
    have w3 := fr3.1
    clear fr3
    refine ⟨(by show 3 ≤ sizeLine; decide), fun p4 np4 => ?_⟩
    have s4 := same_new np4 (.lst [V.ref p1, V.ref p2, V.ref p3])
    have ep4 : (upd J3 p4 (.lst [V.ref p1, V.ref p2, V.ref p3])) p4 = some (.lst [V.ref p1, V.ref p2, V.ref p3]) := upd_same
    generalize upd J3 p4 (.lst [V.ref p1, V.ref p2, V.ref p3]) = J4 at s4 ep4 ⊢
    have s24 := (s2.trans s3).trans s4
    have s34 := s3.trans s4
    have sm := s1.trans s24
    have hP4 := hP.same sm
    have pl4 : PartsL K J4 p4 qs hss tss n := ⟨p1, p2, p3, cs1, r2, r3, ep4, s24 _ _ ep1, hf1.same s24, w2.same s34, w3.same s4⟩
    refine ⟨_, rfl, dParts qs hss tss, dParts qs hss tss, parts_dp pl4, parts_dp hP4, sm_shaped (parts_sm hP g hn) (by decide), sm_shaped (parts_sm hP g hn) (by decide), _, rfl, ?_⟩
    rw [eqv_parts, decide_eq_true (show qs = qs ∧ hss = hss ∧ tss = tss from ⟨rfl, rfl, rfl⟩)]
    refine iteF ?_
    have hc4 := hc.same sm
    have ee := sm _ _ e1
    refine ⟨_, rfl, x, dx, _, rfl, ee, x, qs, hss, tss, n, ww, dd, rfl, hc4, g, _, rfl, _, rfl, P, qs, hss, tss, n, ww, dd, rfl, hP4, g, rfl, _, rfl, ?_⟩
    rw [decide_eq_true (show V.str (caseS ww dd) = V.str (caseS ww dd) from rfl)]
    refine iteF ?_
    refine ⟨_, rfl, x, dx, _, rfl, ee, x, qs, hss, tss, n, ww, dd, rfl, hc4, g, hn, _, rfl, ⟨_, rfl⟩, ?_⟩
    obtain ⟨A1, B1, C1, cs1', rh1, rt1, j1, j2, j3, j4, j5⟩ := id hP4
    have S1 := sm_qs (m := 5) (frn_bd j3) hn (by rw [hq]; exact w5) (by decide)
    have S2 := sm_rows (rw_bd j4) hn (by rw [g.hl]; exact w5) (fun r hr => by rw [g.hr r hr]; exact d6)
    have S3 := sm_rows (rw_bd j5) hn (by rw [g.tl]; exact w5) (fun r hr => by rw [g.tr r hr]; exact d6)
    have tab : ∀ {H' : Hp}, Same J4 H' → ∀ (i : Nat) (v : V), [V.ref A1, V.ref B1, V.ref C1][i]? = some v → ∃ d : PyData, [(PyData.list (qs.map dR)).shown, (dRows hss).shown, (dRows tss).shown][i]? = some d.shown ∧ Dp K H' v d ∧ Sm d 3 1888 := fun {H'} s i v hi => by
      match i, hi with
      | 0, hi => cases hi; exact ⟨_, rfl, .lst (SqL.of (s _ _ j2)) (j3.same s).dp, S1.mono (by decide) (by decide)⟩
      | 1, hi => cases hi; exact ⟨_, rfl, (j4.same s).dp, S2⟩
      | 2, hi => cases hi; exact ⟨_, rfl, (j5.same s).dp, S3⟩
    have zz := szl
    refine ⟨_, rfl, P, rfl, ⟨_, SqL.of j1⟩, fun DL hDL => lc_list (K := K) (a := P) (xs := [V.ref A1, V.ref B1, V.ref C1]) (fun i H' => H' = upd J4 DL (.lst (([(PyData.list (qs.map dR)).shown, (dRows hss).shown, (dRows tss).shown].take i).map V.str))) rfl (fun i H' _ e => by rw [e]; exact SqL.of (same_new hDL _ _ _ j1)) ?_ ?_⟩
    · rintro i v H' hi rfl
      obtain ⟨d, t1, t2, t3⟩ := tab (same_new hDL _) i v hi
      have hi3 : i < 3 := (List.getElem?_eq_some_iff.mp hi).1
      have sz := t3.sz
      refine ⟨rfl, tYes_of ?_⟩
      refine ⟨_, rfl, v, d, rfl, .inl t2, t3.sh, Nat.le_trans t3.dp (by decide), by omega, _, upd_same, ?_, ?_⟩
      · rw [List.length_map, List.length_take]
        exact small1000 (Nat.le_trans (Nat.min_le_left _ _) (by omega))
      · rw [upd_upd, take_succ_at t1, List.map_append]
        rfl
    rintro H' rfl
    have sD := same_new hDL (.lst ((([(PyData.list (qs.map dR)).shown, (dRows hss).shown, (dRows tss).shown].take 3).map V.str)))
    have x1 := S1.sz
    have x2 := S2.sz
    have x3 := S3.sz
    have y1 : (Str.ofString "Case(").length = 5 := by decide +kernel
    have y2 : (Str.ofString ", ").length = 2 := by decide +kernel
    have y3 : (Str.ofString ")").length = 1 := by decide +kernel
    have yj : (Txt.join (Str.ofString ", ") [(PyData.list (qs.map dR)).shown, (dRows hss).shown, (dRows tss).shown]).length ≤ 6000 := by
      rw [join3]
      simp only [app_len]
      omega
    refine ⟨_, DL, [(PyData.list (qs.map dR)).shown, (dRows hss).shown, (dRows tss).shown], rfl, rfl, .inl (SqL.of upd_same), ?_, _, _, rfl, rfl, ?_, _, _, rfl, rfl, ?_, rfl, ?_⟩
    · simp only [List.map_cons, List.map_nil, List.sum_cons, List.sum_nil, List.length_cons, List.length_nil]
      omega
    · omega
    · rw [app_len]; omega
    · rw [rep_eq, decide_eq_true (show V.str (caseR qs hss tss) = V.str (caseR qs hss tss) from rfl)]
      exact q _ (sm.trans sD)
end
end K06

set_option Elab.async false
set_option linter.all false
set_option maxRecDepth 100000
set_option maxHeartbeats 16000000
namespace K06
open PySem PySem.Spec PyProof.Rows L2 BX EXB Co Ru
open Dz Cs Hr Gs
open Rs (Rsp Rv Ret tYes_of dV datR Flat Okr spShares spRowsL spTotal spCopied eqv_dR)
open Fr (Bd)
def spShd06 (K : PySem.W.Frag) : Sp := fun vs H Q _ => ∃ (P : Addr) (qs : List Rat) (hss tss : List (List Rat)) (n ww dd : Nat), vs = [.ref P] ∧ PartsL K H P qs hss tss n ∧ GoodC qs hss tss ww dd ∧ n ≤ 20 ∧ ∀ H', Same H H' → Q (.bl true) H'
def spLtr06 (K : PySem.W.Frag) (C : Addr) : Sp := fun vs H Q _ => ∃ (l x P : Addr) (z : Int) (qs : List Rat) (hss tss : List (List Rat)) (n ww dd : Nat), vs = [.ref l, .ref x, .ref P] ∧ H l = some (.lst [.int z]) ∧ IsCase K H C x qs hss tss n ∧ PartsL K H P qs hss tss n ∧ GoodC qs hss tss ww dd ∧ 8 ≤ n ∧ n ≤ 20 ∧ ∀ H', SameB l H H' → Q (.bl true) H'
theorem cut_snoc (xs : List V) (y : V) : cutV (xs ++ [y]) none (some (-1)) = xs := by
  unfold cutV
  have e0 : HT.sIx (xs ++ [y]).length 0 none = 0 := rfl
  have e1 : HT.sIx (xs ++ [y]).length (xs ++ [y]).length (some (-1)) = xs.length := by
    unfold HT.sIx
    rw [List.length_append, List.length_singleton]
    simp
    omega
  rw [e0, e1, List.drop_zero, Nat.sub_zero, List.take_left]
theorem pop_last {xs : List V} (h : 1 ≤ xs.length) : ∃ y, xs[xs.length - 1]? = some y := ⟨_, List.getElem?_eq_getElem (by omega)⟩
section
variable {P : Program} {w : World} {K : PySem.W.Frag} {mg : Str → Option Value} {base : Heap}
theorem scShd06 : FnScope ["_law_kept", "_law_rows", "_law_both", "_law_row"] ["_law_kept"] (defScope sShd06) := ⟨rfl, rfl, rfl, by decide +kernel, rfl, by decide +kernel, by decide +kernel⟩
theorem ok_Shd06 {f fCH fIs : Addr} {fd fdCH fdIs : FuncData} {k : Nat} {C fI CN : Addr} {fdI : FuncData} (F : Fun K "_law_shared" "_law_shared" sShd06 f fd) (T : CaT K mg C fI) (mCH : Meth K C "hearer" fCH) (GI : FnOk P w K mg base (L2.CX P w) k fI fdI ["self", "shares", "hearer", "teller"] (spCInitF K C CN)) (bI : Binds K fdI ["self", "shares", "hearer", "teller"] []) (GCH : FnOk P w K mg base CX0 k fCH fdCH ["self"] (spCHearer K C)) (bCH : Binds K fdCH ["self"] []) (GIs : FnOkG P w K mg base CX0 k fIs fdIs ["_law_case", "_law_parts_here"] (spIs06 K C)) (kIs : PySem.W.keepIn K (.ref fIs) = true) (bIs : Binds K fdIs ["_law_case", "_law_parts_here"] []) (gIs : mg "_law_is" = some (.ref fIs)) (B : Blt mg) : FnOkG P w K mg base CX0 (k + 2) f fd ["_law_kept"] (spShd06 K) := by
  refine okG F scShd06 (fun vs H Q E h => ?_) (fun cdv A outer s H vs Q E hr hgd h => ?_)
  · obtain ⟨P, qs, hss, tss, n, ww, dd, rfl, _⟩ := h
    rfl
  · obtain ⟨P, qs, hss, tss, n, ww, dd, rfl, hP, g, hn, q⟩ := h
    have hk : Room k _ := hr.mono (by omega)
    refine ⟨_, (pss_cons (ps_setLc (i := 1) (own := [("_law_row", 3)]) (g := gName 3) (tt := tYes) (te := (tCB (rListOf K) (tCons (tVar 3) tNil))) rfl scShd06.nd rfl rfl (sw_true rfl rfl rfl (by decide +kernel)) (pi_list (pe_ix ix_list (pv 0) pe_int (fun _ _ => rfl))) (blkOk_by (N := ["_law_kept", "_law_rows", "_law_both", "_law_row"]) (sc := defScope sShd06) (by decide +kernel)) (fun _ _ _ _ _ => (pg_name (i := 3) scShd06.nd rfl (Or.inl rfl))) (fun _ _ _ _ _ => pts_nil) (fun _ _ _ _ _ => (pe_callTy (T := "list") call_list_of (by rfl) B.list_ (by decide +kernel) (pa_cons (pv 3) pa_nil))))
      (pss_cons (ps_set (i := 2) scShd06.nd rfl (.inl rfl) (pe_make T.mkC (Rs.quiet GI) hr (by rfl) T.gC bI .nil pass0 (pa_cons (pe_ix ix_list (pv 0) pe_int (fun _ _ => rfl)) (pa_cons (pv 1) (pa_cons (pv 1) pa_nil)))))
      (pss_cons (ps_asg (pe_tup (pa_cons pe_int (pa_cons pe_int pa_nil))) (pg_sub (pe_ix ix_list (pv 1) pe_int (fun _ _ => rfl)) pe_int set_list))
      (pss_cons (ps_expr (pe_bm0 PySem.F.plainAttrs_list PySem.F.slot_list_pop PySem.F.type_list_pop mt_pop (pv 1)))
      (pss_cons (ps_expr (pe_bm PySem.F.plainAttrs_list PySem.F.slot_list_append PySem.F.type_list_append mt_append (pe_ix ix_list (pe_meth0 (pv 2) T.cl mCH GCH hk bCH .nil pass0) pe_int (fun _ _ => rfl)) (pa_cons pe_non pa_nil)))
      (pss_one (ps_ret (pe_callG GIs hk hgd (by rfl) gIs kIs bIs .nil pass0 (pa_cons (pv 2) (pa_cons (pe_lst (pa_cons (pe_ix ix_list (pv 0) pe_int (fun _ _ => rfl)) (pa_cons (pe_ix ix_list (pv 0) pe_int (fun _ _ => rfl)) (pa_cons (pe_ix ix_list (pv 0) pe_int (fun _ _ => rfl)) pa_nil)))) pa_nil)))))))))), ?_⟩
    obtain ⟨A0, B0, C0, cs, rh, rt, i1, i2, i3, i4, i5⟩ := id hP
    have w1 := g.w1
    have w5 := g.w5
    have d1 := g.d1
    have d6 := g.d6
    have g2 : GoodC qs hss hss ww dd := ⟨g.w1, g.w5, g.d1, g.d6, g.sh, g.hl, g.hl, g.hr, g.hr⟩
    refine ⟨_, rfl, P, _, 1, .ref B0, rfl, rfl, SqL.of (i1), atI_nat (j := 1) rfl, B0, rfl, ⟨_, SqL.of i4.1⟩, fun R hR => lc_copy i4 (by rw [g.hl]; omega) hR fun rr H1 fr => ?_⟩
    obtain ⟨b1, b2, b3, b4, b5, s1⟩ := fr
    have fz : Frz K (extT H H H1) H1 := Frz.all.skip s1
    have sG : Same H (extT H H H1) := Same.extT (Same.refl _)
    have gR : (extT H H H1) R = none := extT_list b4 b1.1
    have hrr : 0 < rr.length := by rw [b1.2.1, g.hl]; omega
    obtain ⟨cr, qr, y1, y2, y3⟩ := b1.2.2 0 rr[0] (List.getElem?_eq_getElem hrr)
    have gr : (extT H H H1) rr[0] = none := extT_list (b5 _ (List.getElem_mem hrr)) y2
    have er : rr[0]? = some rr[0] := List.getElem?_eq_getElem hrr
    have nR : rr[0] ≠ R := fun z => b3 (z ▸ List.getElem_mem hrr)
    generalize extT H H H1 = G1 at fz sG gR gr
    have hcr : 0 < cr.length := by rw [y3.len, g.hr qr (List.mem_of_getElem? y1)]; omega
    refine ⟨_, rfl, P, _, 0, .ref A0, rfl, rfl, SqL.of (s1 _ _ i1), atI_nat (j := 0) rfl, _, rfl, _, rfl, mk_caseG (CN := CN) (by omega) fz (s1 _ _ i2) (i3.same s1) b1 b1 g2 fun x H2 s2 nx hx => ?_⟩
    have fz2 := fz.more s2
    have gR2 : ext G1 H1 H2 R = none := ext_off b1.1 gR
    have gr2 : ext G1 H1 H2 rr[0] = none := ext_off y2 gr
    have sG2 := sG.trans (Same.ext (H' := H2) fz.s)
    have hR2 := s2 _ _ b1.1
    have hr2 := s2 _ _ y2
    generalize ext G1 H1 H2 = G2 at fz2 gR2 gr2 sG2 hx
    refine ⟨(by show 2 ≤ sizeLine; decide), fun tp ntp => ?_⟩
    have s3 := same_new ntp (.tup [V.int 7, V.int 9])
    have fz3 := fz2.more s3
    have gR3 : ext G2 H2 (upd H2 tp (.tup [V.int 7, V.int 9])) R = none := ext_off hR2 gR2
    have gr3 : ext G2 H2 (upd H2 tp (.tup [V.int 7, V.int 9])) rr[0] = none := ext_off hr2 gr2
    have sG3 := sG2.trans (Same.ext (H' := upd H2 tp (.tup [V.int 7, V.int 9])) fz2.s)
    have hx3 := hx.same (Same.ext (H' := upd H2 tp (.tup [V.int 7, V.int 9])) fz2.s)
    have hR3 := s3 _ _ hR2
    have hr3 := s3 _ _ hr2
    generalize ext G2 H2 (upd H2 tp (.tup [V.int 7, V.int 9])) = G3 at fz3 gR3 gr3 sG3 hx3
    generalize upd H2 tp (.tup [V.int 7, V.int 9]) = H3 at s3 fz3 hR3 hr3 ⊢
    refine ⟨_, rfl, R, _, 0, .ref rr[0], rfl, rfl, SqL.of hR3, atI_nat (j := 0) (by rw [List.getElem?_map, er]; rfl), rr[0], cr, 0, 0, rfl, rfl, hr3, ixN_at (j := 0) hcr, ?_⟩
    have fz4 := fz3.set gr3 hr3 (zs := cr.set 0 (.ref tp))
    have hR4 : (upd H3 rr[0] (.lst (cr.set 0 (.ref tp)))) R = _ := (upd_ne (Ne.symm nR)).trans hR3
    generalize upd H3 rr[0] (.lst (cr.set 0 (.ref tp))) = H4 at fz4 hR4 ⊢
    obtain ⟨yl, ey⟩ := pop_last (xs := rr.map V.ref) (by rw [List.length_map]; omega)
    refine ⟨_, rfl, .inl ⟨rfl, _, SqL.of hR4⟩, R, _, yl, rfl, rfl, hR4, ey, ?_⟩
    have fz5 := fz4.set gR3 hR4 (zs := (rr.map V.ref).dropLast)
    generalize upd H4 R (.lst (rr.map V.ref).dropLast) = H5 at fz5 ⊢
    obtain ⟨dx, sa, ha, ta, cs0, rh0, rt0, e1, e2, e3, e4, e5⟩ := id (hx3.same fz5.s)
    refine ⟨_, rfl, x, dx, _, rfl, e1, rfl, x, qs, hss, hss, n, rfl, hx3.same fz5.s, (by rw [g.hl]; omega), fun D1 r1 H6 fr6 => ?_⟩
    obtain ⟨d1', d2', d3', d4', d5', s6⟩ := fr6
    have fz6 := fz5.skip s6
    have hrl : 0 < r1.length := by rw [d1'.2.1, g.hl]; omega
    obtain ⟨c1, q1, v1, v2, v3⟩ := d1'.2.2 0 r1[0] (List.getElem?_eq_getElem hrl)
    have er1 : r1[0]? = some r1[0] := List.getElem?_eq_getElem hrl
    have gr6 : (extT G3 H5 H6) r1[0] = none := extT_list (fz5.off (d5' _ (List.getElem_mem hrl))) v2
    have sG6 := sG3.trans (Same.extT (H' := H6) fz5.s)
    have hx6 := hx3.same (Same.extT (H' := H6) fz5.s)
    generalize extT G3 H5 H6 = G6 at fz6 gr6 sG6 hx6
    have c9 : c1.length ≤ 6 := by rw [v3.len, g.hr q1 (List.mem_of_getElem? v1)]; exact d6
    refine ⟨D1, _, 0, .ref r1[0], rfl, rfl, SqL.of d1'.1, atI_nat (j := 0) (by rw [List.getElem?_map, er1]; rfl), .inl ⟨rfl, _, SqL.of v2⟩, r1[0], c1, .non, rfl, rfl, v2, small1000 (by omega), ?_⟩
    have fz7 := fz6.set gr6 v2 (zs := c1 ++ [V.non])
    generalize upd H6 r1[0] (.lst (c1 ++ [V.non])) = H7 at fz7 ⊢
    have s7 := sG6.trans fz7.s
    obtain ⟨dx2, sa2, ha2, ta2, cs2, rh2, rt2, u1, _⟩ := id (hx6.same fz7.s)
    refine ⟨_, rfl, _, rfl, P, _, 0, .ref A0, rfl, rfl, SqL.of (s7 _ _ i1), atI_nat (j := 0) rfl, _, rfl, P, _, 1, .ref B0, rfl, rfl, SqL.of (s7 _ _ i1), atI_nat (j := 1) rfl, _, rfl, P, _, 1, .ref B0, rfl, rfl, SqL.of (s7 _ _ i1), atI_nat (j := 1) rfl, (by show 3 ≤ sizeLine; decide), fun L nL => ?_⟩
    have s8 := same_new nL (.lst [V.ref A0, V.ref B0, V.ref B0])
    have eL : (upd H7 L (.lst [V.ref A0, V.ref B0, V.ref B0])) L = some (.lst [V.ref A0, V.ref B0, V.ref B0]) := upd_same
    generalize upd H7 L (.lst [V.ref A0, V.ref B0, V.ref B0]) = H8 at s8 eL ⊢
    have s78 := s7.trans s8
    exact ⟨x, L, qs, hss, hss, n, ww, dd, rfl, (hx6.same fz7.s).same s8, ⟨A0, B0, B0, cs, rh, rh, eL, s78 _ _ i2, i3.same s78, i4.same s78, i4.same s78⟩, g2, hn, fun H' s9 => q H' (s78.trans s9)⟩
theorem scLtr06 : FnScope ["_law_left_here", "_law_case", "_law_kept", "_law_fresh", "_law_later_here", "_law_one"] ["_law_left_here", "_law_case", "_law_kept"] (defScope sLtr06) := ⟨rfl, rfl, rfl, by decide +kernel, rfl, by decide +kernel, by decide +kernel⟩
theorem ok_Ltr06 {f fS fIs : Addr} {fd fdS fdIs : FuncData} {k : Nat} {C fI fCWi : Addr} {fdCWi : FuncData} (F : Fun K "_law_later" "_law_later" sLtr06 f fd) (T : CaT K mg C fI) (mCWi : Meth K C "with_shares" fCWi) (GCWi : FnOk P w K mg base CX0 k fCWi fdCWi ["self", "shares"] (spCWithF K C)) (bCWi : Binds K fdCWi ["self", "shares"] []) (kbCWi : KBn K fdCWi ["self", "shares"] 1 ["shares"] gA gA) (GS : FnOk P w K mg base CX0 k fS fdS ["_law_left_here", "_law_many"] (spShares K)) (kS : PySem.W.keepIn K (.ref fS) = true) (bS : Binds K fdS ["_law_left_here", "_law_many"] []) (gS : mg "_law_shares" = some (.ref fS)) (GIs : FnOkG P w K mg base CX0 k fIs fdIs ["_law_case", "_law_parts_here"] (spIs06 K C)) (kIs : PySem.W.keepIn K (.ref fIs) = true) (bIs : Binds K fdIs ["_law_case", "_law_parts_here"] []) (gIs : mg "_law_is" = some (.ref fIs)) (B : Blt mg) : FnOkG P w K mg base CX0 (k + 2) f fd ["_law_left_here", "_law_case", "_law_kept"] (spLtr06 K C) := by
  refine okG F scLtr06 (fun vs H Q E h => ?_) (fun cdv A outer s H vs Q E hr hgd h => ?_)
  · obtain ⟨l, x, P, z, qs, hss, tss, n, ww, dd, rfl, _⟩ := h
    rfl
  · obtain ⟨l, x, P, z, qs, hss, tss, n, ww, dd, rfl, hl, hc, hP, g, h8, hn, q⟩ := h
    have hk : Room k _ := hr.mono (by omega)
    refine ⟨_, (pss_cons (ps_set (i := 3) scLtr06.nd rfl (.inl rfl) (pe_call GS hk (by rfl) gS kS bS .nil pass0 (pa_cons (pv 0) (pa_cons (pe_callB call_len_seq (by rfl) B.len_ PySem.boot_len (pa_cons (pe_ix ix_list (pv 2) pe_int (fun _ _ => rfl)) pa_nil)) pa_nil))))
      (pss_cons (ps_set (i := 4) scLtr06.nd rfl (.inl rfl) (pe_lst (pa_cons (pe_meth (pv 1) T.cl mCWi GCWi hk bCWi .nil pass0 (pa_cons (pv 3) pa_nil)) (pa_cons (pe_methN0 (E := fun _ => E0) T.cl mCWi GCWi hk kbCWi (fun _ _ _ _ _ _ _ h => h.elim) (pv 1) (pk_cons (pe_callTy (T := "list") call_list_of (by rfl) B.list_ (by decide +kernel) (pa_cons (pv 3) pa_nil)) pk_nil)) pa_nil))))
      (pss_cons (ps_expr (pe_bm PySem.F.plainAttrs_list PySem.F.slot_list_append PySem.F.type_list_append mt_append (pv 3) (pa_cons (pe_tup (pa_cons pe_int (pa_cons pe_int pa_nil))) pa_nil)))
      (pss_cons (ps_for PassesOwn.never rfl (pi_list (pv 4)) (pg_name (i := 5) scLtr06.nd rfl (.inl rfl)) (pss_one (ps_if (pt_not (pt_val (pe_callG GIs hk hgd (by rfl) gIs kIs bIs .nil pass0 (pa_cons (pv 5) (pa_cons (pe_lst (pa_cons (pe_slice sl_list (pv 3) po_none (po_some (pe_un un_neg pe_int))) (pa_cons (pe_ix ix_list (pv 2) pe_int (fun _ _ => rfl)) (pa_cons (pe_ix ix_list (pv 2) pe_int (fun _ _ => rfl)) pa_nil)))) pa_nil))))) (pss_one (ps_ret pe_bl)) pss_nil)))
      (pss_one (ps_ret (pe_callG GIs hk hgd (by rfl) gIs kIs bIs .nil pass0 (pa_cons (pv 1) (pa_cons (pv 2) pa_nil))))))))), ?_⟩
    obtain ⟨A0, B0, C0, cs, rh, rt, i1, i2, i3, i4, i5⟩ := id hP
    have w1 := g.w1
    have w5 := g.w5
    have cl : cs.length = ww := by rw [i3.len, g.sh.1]
    refine ⟨_, rfl, _, rfl, P, _, 0, .ref A0, rfl, rfl, SqL.of (i1), atI_nat (j := 0) rfl, A0, cs, rfl, .inl (SqL.of i2), l, z, cs.length, rfl, hl, by omega, by omega, fun D2 c2 q2 z2 H1 kb1 hl1 nD2 Dl hD2 hf2 ro2 => ?_⟩
    rw [cl] at ro2
    obtain ⟨G1, eG1⟩ : ∃ G1 : Hp, G1 = less D2 (less l H1) := ⟨_, rfl⟩
    have fz : Frz K G1 H1 := by rw [eG1]; exact (Frz.cut hl1).drop hD2
    have gD : G1 D2 = none := by rw [eG1]; exact less_at
    have sL : Same (less l H) G1 := fun b u e => by
      have bl : b ≠ l := fun z => by rw [z, less_at] at e; cases e
      rw [less_ne bl] at e
      have bD : b ≠ D2 := ne_of_none e nD2
      rw [eG1, less_ne bD, less_ne bl]
      exact kb1 _ _ bl e
    have hc1 := (IsCase.but hc hl same_less).same sL
    have hP1 := (hP.but hl same_less).same sL
    clear eG1 hc hP i1 i2 i3 i4 i5
    obtain ⟨A0, B0, C0, cs, rh, rt, i1, i2, i3, i4, i5⟩ := id hP1
    obtain ⟨dx, sa, ha, ta, cs0, rh0, rt0, e1, e2, e3, e4, e5⟩ := id hc1
    refine ⟨_, rfl, x, dx, _, rfl, fz.s _ _ e1, rfl, _, rfl, G1, x, D2, qs, hss, tss, q2, c2, n, 8, ww, dd, rfl, hc1.same fz.s, g, hD2, hf2, ro2, h8, by omega, fz, fun z1 H2 s2 nz1 hz1 => ?_⟩
    have fz2 := fz.more s2
    have gD2 : ext G1 H1 H2 D2 = none := ext_off hD2 gD
    have sG2 : Same G1 (ext G1 H1 H2) := Same.ext fz.s
    have hD2' := s2 _ _ hD2
    generalize ext G1 H1 H2 = G2 at fz2 gD2 sG2 hz1
    refine ⟨_, rfl, x, dx, _, rfl, s2 _ _ (fz.s _ _ e1), rfl, _, rfl, D2, c2, rfl, .inl (SqL.of hD2'), fun D3 nD3 => ?_⟩
    have s3 := same_new nD3 (.lst c2)
    have eD3 : (upd H2 D3 (.lst c2)) D3 = some (.lst c2) := upd_same
    have fz3 := fz2.more s3
    have gD3 : ext G2 H2 (upd H2 D3 (.lst c2)) D2 = none := ext_off hD2' gD2
    have sG3 := sG2.trans (Same.ext (H' := upd H2 D3 (.lst c2)) fz2.s)
    have hz13 := hz1.same (Same.ext (H' := upd H2 D3 (.lst c2)) fz2.s)
    have hD3 := s3 _ _ hD2'
    generalize ext G2 H2 (upd H2 D3 (.lst c2)) = G3 at fz3 gD3 sG3 hz13
    have s13 := s2.trans s3
    generalize upd H2 D3 (.lst c2) = H3 at s3 eD3 fz3 hD3 s13 ⊢
    refine ⟨rfl, rfl, G3, x, D3, qs, hss, tss, q2, c2, n, 8, ww, dd, rfl, (hc1.same sG3).same fz3.s, g, eD3, hf2.same s13, ro2, h8, by omega, fz3, fun z2 H4 s4 nz2 hz2 => ?_⟩
    have fz4 := fz3.more s4
    have gD4 : ext G3 H3 H4 D2 = none := ext_off hD3 gD3
    have sG4 := sG3.trans (Same.ext (H' := H4) fz3.s)
    have hz14 := hz13.same (Same.ext (H' := H4) fz3.s)
    have hD4 := s4 _ _ hD3
    generalize ext G3 H3 H4 = G4 at fz4 gD4 sG4 hz14 hz2
    refine ⟨(by show 2 ≤ sizeLine; decide), fun L nL => ?_⟩
    have s5 := same_new nL (.lst [V.ref z1, V.ref z2])
    have eL : (upd H4 L (.lst [V.ref z1, V.ref z2])) L = some (.lst [V.ref z1, V.ref z2]) := upd_same
    have fz5 := fz4.more s5
    have gD5 : ext G4 H4 (upd H4 L (.lst [V.ref z1, V.ref z2])) D2 = none := ext_off hD4 gD4
    have gL5 : ext G4 H4 (upd H4 L (.lst [V.ref z1, V.ref z2])) L = some (.lst [V.ref z1, V.ref z2]) := (ext_new nL).trans eL
    have sG5 := sG4.trans (Same.ext (H' := upd H4 L (.lst [V.ref z1, V.ref z2])) fz4.s)
    have hz15 := hz14.same (Same.ext (H' := upd H4 L (.lst [V.ref z1, V.ref z2])) fz4.s)
    have hz25 := hz2.same (Same.ext (H' := upd H4 L (.lst [V.ref z1, V.ref z2])) fz4.s)
    have hD5 := s5 _ _ hD4
    have s15 := (s13.trans s4).trans s5
    generalize ext G4 H4 (upd H4 L (.lst [V.ref z1, V.ref z2])) = G5 at fz5 gD5 gL5 sG5 hz15 hz25
    generalize upd H4 L (.lst [V.ref z1, V.ref z2]) = H5 at s5 eL fz5 hD5 s15 ⊢
    refine ⟨_, rfl, .inl ⟨rfl, _, SqL.of hD5⟩, (by show 2 ≤ sizeLine; decide), fun tp ntp => ?_⟩
    have s6 := same_new ntp (.tup [V.int 1, V.int 1])
    have fz6 := fz5.more s6
    have gD6 : ext G5 H5 (upd H5 tp (.tup [V.int 1, V.int 1])) D2 = none := ext_off hD5 gD5
    have sx : Same G5 (ext G5 H5 (upd H5 tp (.tup [V.int 1, V.int 1]))) := Same.ext fz5.s
    have sG6 := sG5.trans sx
    have gL6 := sx _ _ gL5
    have hz16 := hz15.same sx
    have hz26 := hz25.same sx
    have hD6 := s6 _ _ hD5
    have hf6 := hf2.same (s15.trans s6)
    generalize ext G5 H5 (upd H5 tp (.tup [V.int 1, V.int 1])) = G6 at fz6 gD6 sx sG6 gL6 hz16 hz26
    generalize upd H5 tp (.tup [V.int 1, V.int 1]) = H6 at s6 fz6 hD6 hf6 ⊢
    have c2l : c2.length = ww := by rw [hf2.len, ro2.1]
    refine ⟨D2, c2, .ref tp, rfl, rfl, hD6, small1000 (by omega), ?_⟩
    have fz7 := fz6.set gD6 hD6 (zs := c2 ++ [V.ref tp])
    have hD7 : (upd H6 D2 (.lst (c2 ++ [V.ref tp]))) D2 = some (.lst (c2 ++ [V.ref tp])) := upd_same
    have hf7 := hf6.keep (keep_lst (zs := c2 ++ [V.ref tp]) hD6)
    generalize upd H6 D2 (.lst (c2 ++ [V.ref tp])) = H7 at fz7 hD7 hf7 ⊢
    have g' : GoodC q2 hss tss ww dd := ⟨g.w1, g.w5, g.d1, g.d6, ro2, g.hl, g.tl, g.hr, g.tr⟩
    have f67 := fz7.s
    have hz17 := hz16.same f67
    have hz27 := hz26.same f67
    have hP7 := (hP1.same sG6).same f67
    have hc7 := (hc1.same sG6).same f67
    have gL7 := f67 _ _ gL6
    have fin : SameB l H H7 := fun b u hb e => f67 _ _ (sG6 _ _ (sL _ _ (by rw [less_ne hb]; exact e)))
    clear fz7 f67 gL6 hz16 hz26 sG6 sL
    obtain ⟨A1, B1, C1, cs1, rh1, rt1, j1, j2, j3, j4, j5⟩ := id hP7
    have isz : ∀ v ∈ [V.ref z1, V.ref z2], ∃ zz, v = .ref zz ∧ IsCase K H7 C zz q2 hss tss n := fun v hv => by
      simp only [List.mem_cons, List.not_mem_nil, or_false] at hv
      rcases hv with rfl | rfl
      · exact ⟨_, rfl, hz17⟩
      · exact ⟨_, rfl, hz27⟩
    refine ⟨_, rfl, L, rfl, ⟨_, SqL.of gL7⟩, for_list (K := K) (a := L) (xs := [V.ref z1, V.ref z2]) (fun i σ H' => ∃ y : Option V, σ = [some (.ref l), some (.ref x), some (.ref P), some (.ref D2), some (.ref L), y] ∧ Same H7 H') ⟨none, rfl, Same.refl _⟩ (fun i σ H' _ ⟨_, _, s⟩ => SqL.of (s _ _ gL7)) ?_ ?_⟩
    · rintro i v σ H' hi ⟨y, rfl, s⟩
      obtain ⟨zc, rfl, hzc⟩ := isz v (List.mem_of_getElem? hi)
      refine ⟨_, rfl, _, rfl, 1, rfl, _, rfl, D2, _, rfl, SqL.of (s _ _ hD7), fun p np => ?_⟩
      rw [cut_snoc]
      have sp := same_new np (.lst c2)
      have ep : (upd H' p (.lst c2)) p = some (.lst c2) := upd_same
      have s' := s.trans sp
      generalize upd H' p (.lst c2) = J1 at sp ep s' ⊢
      refine ⟨_, rfl, P, _, 1, .ref B1, rfl, rfl, SqL.of (s' _ _ j1), atI_nat (j := 1) rfl, _, rfl, P, _, 2, .ref C1, rfl, rfl, SqL.of (s' _ _ j1), atI_nat (j := 2) rfl, (by show 3 ≤ sizeLine; decide), fun L2 nL2 => ?_⟩
      have sq := same_new nL2 (.lst [V.ref p, V.ref B1, V.ref C1])
      have eL2 : (upd J1 L2 (.lst [V.ref p, V.ref B1, V.ref C1])) L2 = some (.lst [V.ref p, V.ref B1, V.ref C1]) := upd_same
      generalize upd J1 L2 (.lst [V.ref p, V.ref B1, V.ref C1]) = J2 at sq eL2 ⊢
      have s'' := s'.trans sq
      refine ⟨zc, L2, q2, hss, tss, n, ww, dd, rfl, hzc.same s'', ⟨p, B1, C1, c2, rh1, rt1, eL2, sq _ _ ep, (hf7.same s'').mono h8, j4.same s'', j5.same s''⟩, g', hn, fun H9 s9 => ⟨_, rfl, iteF ⟨_, rfl, s''.trans s9⟩⟩⟩
    · rintro σ H' ⟨y, rfl, s⟩
      exact ⟨_, rfl, _, rfl, x, P, qs, hss, tss, n, ww, dd, rfl, hc7.same s, hP7.same s, g, hn, fun H9 s9 => q H9 ((fin.trans (SameB.of s)).trans (SameB.of s9))⟩
end
end K06

set_option Elab.async false
set_option linter.all false
set_option maxRecDepth 100000
set_option maxHeartbeats 32000000
namespace K06
open PySem PySem.Spec PyProof.Rows L2 BX EXB Co Ru
open Dz Cs Hr Gs
open Rs (Rsp Rv Ret tYes_of dV datR Flat Okr spShares spRowsL spTotal spCopied eqv_dR)
open Fr (Bd)
theorem at_last1 {rr : List Addr} (h : 1 ≤ rr.length) : ∃ r, r ∈ rr ∧ atI (rr.map V.ref) (-1) = some (.ref r) := by
  rcases List.eq_nil_or_concat rr with rfl | ⟨pre, z, rfl⟩
  · exact absurd h (by decide)
  · refine ⟨z, by rw [List.concat_eq_append]; exact List.mem_append_right _ (List.mem_singleton_self z), ?_⟩
    rw [List.concat_eq_append, List.map_append]
    exact atI_last _ _
theorem at_first {rr : List Addr} (h : 1 ≤ rr.length) : ∃ r, r ∈ rr ∧ atI (rr.map V.ref) 0 = some (.ref r) := by
  have hj : 0 < rr.length := h
  exact ⟨rr[0], List.getElem_mem hj, atI_nat (j := 0) (by rw [List.getElem?_map, List.getElem?_eq_getElem hj]; rfl)⟩
/-- what was handed in, while it is changed; l: the digits -/
structure HSt (K : PySem.W.Frag) (G H : Hp) (l : Addr) (zl : List V) (Hd A B C : Addr) (rh rt : List Addr) (m : Nat) : Prop where
  fz : Frz K G H
  d : H l = some (.lst zl)
  p : H Hd = some (.lst [.ref A, .ref B, .ref C])
  a : ∃ ys, H A = some (.lst ys) ∧ 1 ≤ ys.length
  b : H B = some (.lst (rh.map V.ref))
  c : H C = some (.lst (rt.map V.ref))
  r : ∀ r, r ∈ rh ∨ r ∈ rt → ∃ ys, H r = some (.lst ys) ∧ 1 ≤ ys.length ∧ ys.length ≤ m
  off : G Hd = none ∧ G A = none ∧ G B = none ∧ G C = none ∧ ∀ r, r ∈ rh ∨ r ∈ rt → G r = none
  gl : G l = none
  kd : ∃ kd : Addr → Nat, kd Hd = 0 ∧ kd A = 1 ∧ kd B = 2 ∧ kd C = 3 ∧ (∀ r ∈ rh, kd r = 4) ∧ (∀ r ∈ rt, kd r = 5) ∧ kd l = 9
  ln : 1 ≤ rh.length ∧ 1 ≤ rt.length
section
variable {K : PySem.W.Frag} {G H H' : Hp} {l Hd A B C : Addr} {zl : List V} {rh rt : List Addr} {m : Nat}
theorem HSt.keep (h : HSt K G H l zl Hd A B C rh rt m) (s : Same H H') : HSt K (ext G H H') H' l zl Hd A B C rh rt m := by
  obtain ⟨ya, ea, la⟩ := h.a
  obtain ⟨o1, o2, o3, o4, o5⟩ := h.off
  exact ⟨h.fz.more s, s _ _ h.d, s _ _ h.p, ⟨ya, s _ _ ea, la⟩, s _ _ h.b, s _ _ h.c, fun r hr => let ⟨y, e, z⟩ := h.r r hr; ⟨y, s _ _ e, z⟩, ⟨ext_off h.p o1, ext_off ea o2, ext_off h.b o3, ext_off h.c o4, fun r hr => let ⟨y, e, z⟩ := h.r r hr; ext_off e (o5 r hr)⟩, ext_off h.d h.gl, h.kd, h.ln⟩
theorem HSt.row {r : Addr} {ys zs : List V} {m' : Nat} (h : HSt K G H l zl Hd A B C rh rt m) (hm : r ∈ rh ∨ r ∈ rt) (hr : H r = some (.lst ys)) (z1 : 1 ≤ zs.length) (z2 : zs.length ≤ m') (mm : m ≤ m') : HSt K G (upd H r (.lst zs)) l zl Hd A B C rh rt m' := by
  obtain ⟨ya, ea, la⟩ := h.a
  obtain ⟨kd, k1, k2, k3, k4, k5, k6, k7⟩ := id h.kd
  have kr : kd r = 4 ∨ kd r = 5 := hm.imp (k5 r) (k6 r)
  have ne : ∀ {a : Addr} {j : Nat}, kd a = j → (j < 4 ∨ j = 9) → a ≠ r := fun e l z => by rw [z] at e; omega
  refine ⟨h.fz.set (h.off.2.2.2.2 r hm) hr, by rw [upd_ne (ne k7 (.inr rfl))]; exact h.d, by rw [upd_ne (ne k1 (by decide))]; exact h.p, ⟨ya, by rw [upd_ne (ne k2 (by decide))]; exact ea, la⟩, by rw [upd_ne (ne k3 (by decide))]; exact h.b, by rw [upd_ne (ne k4 (by decide))]; exact h.c, fun r' hr' => ?_, h.off, h.gl, h.kd, h.ln⟩
  by_cases c : r' = r
  · rw [c]; exact ⟨zs, upd_same, z1, z2⟩
  · obtain ⟨y, e, l1, l2⟩ := h.r r' hr'
    exact ⟨y, by rw [upd_ne c]; exact e, l1, by omega⟩
theorem HSt.sel (h : HSt K G H l zl Hd A B C rh rt m) {v : V} (hv : v ∈ [V.ref B, V.ref C]) : ∃ (X : Addr) (rr : List Addr), v = .ref X ∧ 1 ≤ rr.length ∧ (∀ r ∈ rr, r ∈ rh ∨ r ∈ rt) ∧ ((X = B ∧ rr = rh) ∨ (X = C ∧ rr = rt)) := by
  simp only [List.mem_cons, List.not_mem_nil, or_false] at hv
  rcases hv with rfl | rfl
  · exact ⟨B, rh, rfl, h.ln.1, fun r hr => .inl hr, .inl ⟨rfl, rfl⟩⟩
  · exact ⟨C, rt, rfl, h.ln.2, fun r hr => .inr hr, .inr ⟨rfl, rfl⟩⟩
theorem HSt.get {X : Addr} {rr : List Addr} (h : HSt K G H l zl Hd A B C rh rt m) (c : (X = B ∧ rr = rh) ∨ (X = C ∧ rr = rt)) : H X = some (.lst (rr.map V.ref)) := by
  rcases c with ⟨rfl, rfl⟩ | ⟨rfl, rfl⟩
  · exact h.b
  · exact h.c
theorem hst_of {H0 : Hp} {ca : List V} {qs : List Rat} {hss tss : List (List Rat)} {n ww dd : Nat} (f : Frz K G H) (h : CpAt K H0 H Hd A B C ca rh rt qs hss tss n) (g : GoodC qs hss tss ww dd) (off : G Hd = none ∧ G A = none ∧ G B = none ∧ G C = none ∧ ∀ r, r ∈ rh ∨ r ∈ rt → G r = none) (hl : H l = some (.lst zl)) (gl : G l = none) (h0 : H0 l = some (.lst zl)) : HSt K G H l zl Hd A B C rh rt 6 := by
  have w1 := g.w1
  have d1 := g.d1
  have d6 := g.d6
  obtain ⟨n1, n2, n3, n4, n5, n6⟩ := h.n0
  obtain ⟨kd, k1, k2, k3, k4, k5, k6⟩ := h.kd
  have ne : ∀ {a : Addr}, H0 a = none → a ≠ l := fun e z => by rw [z, h0] at e; cases e
  refine ⟨f, hl, h.p, ⟨ca, h.a, by rw [h.f.len, g.sh.1]; exact w1⟩, h.b.1, h.c.1, fun r hr => ?_, off, gl, ⟨fun a => if a = l then 9 else kd a, (if_neg (ne n1)).trans k1, (if_neg (ne n2)).trans k2, (if_neg (ne n3)).trans k3, (if_neg (ne n4)).trans k4, fun r hr => (if_neg (ne (n5 r hr))).trans (k5 r hr), fun r hr => (if_neg (ne (n6 r hr))).trans (k6 r hr), if_pos rfl⟩, ⟨by rw [h.b.2.1, g.hl]; exact w1, by rw [h.c.2.1, g.tl]; exact w1⟩⟩
  rcases hr with hr | hr
  · obtain ⟨j, hj, ej⟩ := List.getElem_of_mem hr
    obtain ⟨c, q, a1, a2, a3⟩ := h.b.2.2 j r (by rw [List.getElem?_eq_getElem hj, ej])
    have : c.length = dd := by rw [a3.len, g.hr q (List.mem_of_getElem? a1)]
    exact ⟨c, a2, by omega, by omega⟩
  · obtain ⟨j, hj, ej⟩ := List.getElem_of_mem hr
    obtain ⟨c, q, a1, a2, a3⟩ := h.c.2.2 j r (by rw [List.getElem?_eq_getElem hj, ej])
    have : c.length = dd := by rw [a3.len, g.tr q (List.mem_of_getElem? a1)]
    exact ⟨c, a2, by omega, by omega⟩
/-- what a turn keeps -/
structure Kp6 (K : PySem.W.Frag) (G : Hp) (C x y F Kp L : Addr) (qs us : List Rat) (hss tss iss kss : List (List Rat)) (xs : List V) : Prop where
  x : IsCase K G C x qs hss tss 17
  y : IsCase K G C y us iss kss 17
  f : PartsL K G F us iss kss 17
  k : PartsL K G Kp qs hss tss 17
  l : G L = some (.lst xs)
theorem Kp6.same {x y F Kp L : Addr} {qs us : List Rat} {hss tss iss kss : List (List Rat)} {xs : List V} (h : Kp6 K G C x y F Kp L qs us hss tss iss kss xs) (s : Same G H) : Kp6 K H C x y F Kp L qs us hss tss iss kss xs := ⟨h.x.same s, h.y.same s, h.f.same s, h.k.same s, s _ _ h.l⟩
def NE (H : Hp) (a : Addr) : Prop := ∃ ys, H a = some (.lst ys) ∧ 1 ≤ ys.length
theorem NE.set {a b : Addr} {zs : List V} (h : NE H a) (n : a ≠ b) : NE (upd H b (.lst zs)) a := let ⟨y, e, z⟩ := h; ⟨y, by rw [upd_ne n]; exact e, z⟩
theorem cp_off {H0 H : Hp} {P A B C : Addr} {ca : List V} {qs : List Rat} {hss tss : List (List Rat)} {n : Nat} (f : Frz K G H0) (h : CpAt K H0 H P A B C ca rh rt qs hss tss n) :
    extT G H0 H P = none ∧ extT G H0 H A = none ∧ extT G H0 H B = none ∧ extT G H0 H C = none ∧ ∀ r, r ∈ rh ∨ r ∈ rt → extT G H0 H r = none := by
  obtain ⟨n1, n2, n3, n4, n5, n6⟩ := h.n0
  refine ⟨extT_list (f.off n1) h.p, extT_list (f.off n2) h.a, extT_list (f.off n3) h.b.1, extT_list (f.off n4) h.c.1, fun r hr => ?_⟩
  rcases hr with hr | hr
  · obtain ⟨j, hj, ej⟩ := List.getElem_of_mem hr
    obtain ⟨c, q, a1, a2, a3⟩ := h.b.2.2 j r (by rw [List.getElem?_eq_getElem hj, ej])
    exact extT_list (f.off (n5 r hr)) a2
  · obtain ⟨j, hj, ej⟩ := List.getElem_of_mem hr
    obtain ⟨c, q, a1, a2, a3⟩ := h.c.2.2 j r (by rw [List.getElem?_eq_getElem hj, ej])
    exact extT_list (f.off (n6 r hr)) a2
end
theorem cut_int {ns : List Int} {lo hi : Option Int} {i : Nat} {v : V} (h : (cutV (ns.map V.int) lo hi ++ [V.int 6])[i]? = some v) : ∃ c, v = .int c := by
  have hm := List.mem_of_getElem? h
  rcases List.mem_append.mp hm with hm | hm
  · unfold cutV at hm
    have := List.mem_of_mem_drop (List.mem_of_mem_take hm)
    obtain ⟨c, _, rfl⟩ := List.mem_map.mp this
    exact ⟨c, rfl⟩
  · rw [List.mem_singleton.mp hm]; exact ⟨6, rfl⟩
def spLaw (K : PySem.W.Frag) : Sp := fun vs H Q _ => ∃ (a : Addr) (ns : List Int), vs = [.ref a] ∧ SqL K H a (ns.map V.int) ∧ ns.length ≤ 63 ∧ ∀ H', Q (.bl true) H'
section
variable {P : Program} {w : World} {K : PySem.W.Frag} {mg : Str → Option Value} {base : Heap}
theorem scLaw : FnScope ["_law_script", "_law_cell", "_law_left_here", "_law_parts_here", "_law_other", "_law_kept", "_law_handed", "_law_case", "_law_more", "_law_some", "_law_one"] ["_law_script"] (defScope sLaw) := ⟨rfl, rfl, rfl, by decide +kernel, rfl, by decide +kernel, by decide +kernel⟩
theorem ok_law {f fCS fCH fCE fLf fPa fCh fCp fIs fSh fLt : Addr} {fd fdCS fdCH fdCE fdLf fdPa fdCh fdCp fdIs fdSh fdLt : FuncData} {k : Nat} {C fI CN fCe fRep : Addr} {fdI fdCe fdRep : FuncData} (F : Fun K "law" "law" sLaw f fd) (T : CaT K mg C fI) (mCS : Meth K C "shares" fCS) (mCH : Meth K C "hearer" fCH) (mCE : Meth K C "teller" fCE) (GI : FnOk P w K mg base (L2.CX P w) k fI fdI ["self", "shares", "hearer", "teller"] (spCInitF K C CN)) (bI : Binds K fdI ["self", "shares", "hearer", "teller"] []) (I : IsT K C) (NeC : NeC K C fCe) (nnC : PySem.W.mroIn K C (.type "NoneType") = some false) (GCe : FnOk P w K mg base CX0 k fCe fdCe ["self", "other"] (spCEq K C)) (bCe : Binds K fdCe ["self", "other"] []) (kT : ∀ n : String, n ∈ ["NoneType", "int", "list", "bool", "str", "tuple"] → PySem.W.kitOne K (.type n) (.ref C) = some false) (lR : PySem.W.findIn K (.ref C) "__repr__" = some (some (.ref fRep))) (fnR : PySem.W.isFn K (.ref fRep) = true) (GRep : FnOkG P w K mg base CX0 k fRep fdRep ["self"] (spCRepr K C)) (bRep : Binds K fdRep ["self"] []) (kbI : KBn K fdI ["self", "shares", "hearer", "teller"] 2 ["hearer", "teller"] gA gA) (GCS : FnOk P w K mg base CX0 k fCS fdCS ["self"] (spCShares K C)) (bCS : Binds K fdCS ["self"] []) (GCH : FnOk P w K mg base CX0 k fCH fdCH ["self"] (spCHearer K C)) (bCH : Binds K fdCH ["self"] []) (GCE : FnOk P w K mg base CX0 k fCE fdCE ["self"] (spCTeller K C)) (bCE : Binds K fdCE ["self"] []) (GLf : FnOk P w K mg base CX0 k fLf fdLf ["_law_cell"] spLeft) (kLf : PySem.W.keepIn K (.ref fLf) = true) (bLf : Binds K fdLf ["_law_cell"] []) (gLf : mg "_law_left" = some (.ref fLf)) (GPa : FnOk P w K mg base CX0 k fPa fdPa ["_law_left_here", "_law_most_worlds", "_law_most_deeds"] (Lw.spParts K)) (kPa : PySem.W.keepIn K (.ref fPa) = true) (bPa : Binds K fdPa ["_law_left_here", "_law_most_worlds", "_law_most_deeds"] []) (gPa : mg "_law_parts" = some (.ref fPa)) (GCh : FnOk P w K mg base CX0 k fCh fdCh ["_law_left_here", "_law_parts_here"] (spChg06 K)) (kCh : PySem.W.keepIn K (.ref fCh) = true) (bCh : Binds K fdCh ["_law_left_here", "_law_parts_here"] []) (gCh : mg "_law_changed" = some (.ref fCh)) (GCp : FnOk P w K mg base CX0 k fCp fdCp ["_law_parts_here"] (spCopy06 K)) (kCp : PySem.W.keepIn K (.ref fCp) = true) (bCp : Binds K fdCp ["_law_parts_here"] []) (gCp : mg "_law_copy" = some (.ref fCp)) (GIs : FnOkG P w K mg base CX0 k fIs fdIs ["_law_case", "_law_parts_here"] (spIs06 K C)) (kIs : PySem.W.keepIn K (.ref fIs) = true) (bIs : Binds K fdIs ["_law_case", "_law_parts_here"] []) (gIs : mg "_law_is" = some (.ref fIs)) (GSh : FnOkG P w K mg base CX0 k fSh fdSh ["_law_kept"] (spShd06 K)) (kSh : PySem.W.keepIn K (.ref fSh) = true) (bSh : Binds K fdSh ["_law_kept"] []) (gSh : mg "_law_shared" = some (.ref fSh)) (GLt : FnOkG P w K mg base CX0 k fLt fdLt ["_law_left_here", "_law_case", "_law_kept"] (spLtr06 K C)) (kLt : PySem.W.keepIn K (.ref fLt) = true) (bLt : Binds K fdLt ["_law_left_here", "_law_case", "_law_kept"] []) (gLt : mg "_law_later" = some (.ref fLt)) (B : Blt mg) : FnOkG P w K mg base CX0 (k + 3) f fd ["_law_script"] (spLaw K) := by
  refine okG F scLaw (fun vs H Q E h => ?_) (fun cdv A outer s H vs Q E hr hgd h => ?_)
  · obtain ⟨a, ns, rfl, _⟩ := h
    rfl
  · obtain ⟨a, ns, rfl, hS, hlen, q⟩ := h
    have hk : Room k _ := hr.mono (by omega)
    have hk1 : Room (k + 1) _ := hr.mono (by omega)
    have hu : (A.deeper (envOfC "law" (defScope sLaw) s.heap.objs.size f cdv)).units + 80 < cLine := by have := hr.un; omega
    refine ⟨_, (pss_cons (ps_for PassesOwn.never rfl (pi_list (pe_op op_cat (pe_slice sl_list (pv 0) po_none (po_some pe_int)) (pe_lst (pa_cons pe_int pa_nil)))) (pg_name (i := 1) scLaw.nd rfl (.inl rfl)) (pss_cons (ps_set (i := 2) scLaw.nd rfl (.inl rfl) (pe_call GLf hk (by rfl) gLf kLf bLf .nil pass0 (pa_cons (pv 1) pa_nil)))
      (pss_cons (ps_set (i := 3) scLaw.nd rfl (.inl rfl) (pe_call GPa hk (by rfl) gPa kPa bPa .nil pass0 (pa_cons (pv 2) (pa_cons pe_int (pa_cons pe_int pa_nil)))))
      (pss_cons (ps_set (i := 4) scLaw.nd rfl (.inl rfl) (pe_call GCh hk (by rfl) gCh kCh bCh .nil pass0 (pa_cons (pv 2) (pa_cons (pv 3) pa_nil))))
      (pss_cons (ps_set (i := 5) scLaw.nd rfl (.inl rfl) (pe_call GCp hk (by rfl) gCp kCp bCp .nil pass0 (pa_cons (pv 3) pa_nil)))
      (pss_cons (ps_set (i := 6) scLaw.nd rfl (.inl rfl) (pe_call GCp hk (by rfl) gCp kCp bCp .nil pass0 (pa_cons (pv 3) pa_nil)))
      (pss_cons (ps_set (i := 7) scLaw.nd rfl (.inr rfl) (pe_makeN T.mkC (Rs.quiet GI) hk1 (by rfl) T.gC kbI pass0 (pa_cons (pe_ix ix_list (pv 6) pe_int (fun _ _ => rfl)) pa_nil) (pk_cons (pe_ix ix_list (pv 6) pe_int (fun _ _ => rfl)) (pk_cons (pe_ix ix_list (pv 6) pe_int (fun _ _ => rfl)) pk_nil))))
      (pss_cons (ps_set (i := 8) scLaw.nd rfl (.inl rfl) (pe_make T.mkC (Rs.quiet GI) hk1 (by rfl) T.gC bI .nil pass0 (pa_cons (pe_ix ix_list (pv 4) pe_int (fun _ _ => rfl)) (pa_cons (pe_ix ix_list (pv 4) pe_int (fun _ _ => rfl)) (pa_cons (pe_ix ix_list (pv 4) pe_int (fun _ _ => rfl)) pa_nil)))))
      (pss_cons (ps_if (PW.pt (pw_or (pt_cmpR (op_neD hk.units) (pv 6) (pv 5) (nomark _)) (pw_or (pt_not (pt_val (pe_callG GIs hk hgd (by rfl) gIs kIs bIs .nil pass0 (pa_cons (pv 7) (pa_cons (pv 5) pa_nil))))) (pw_or1 (pt_not (pt_val (pe_callG GIs hk hgd (by rfl) gIs kIs bIs .nil pass0 (pa_cons (pv 8) (pa_cons (pv 4) pa_nil))))))))) (pss_one (ps_ret pe_bl)) pss_nil)
      (pss_cons (ps_for PassesOwn.never rfl (pi_list (pe_slice sl_list (pv 6) (po_some pe_int) po_none)) (pg_name (i := 9) scLaw.nd rfl (.inl rfl)) (pss_cons (ps_expr (pe_bm PySem.F.plainAttrs_list PySem.F.slot_list_append PySem.F.type_list_append mt_append (pe_ix ix_list (pv 9) pe_int (fun _ _ => rfl)) (pa_cons (pe_tup (pa_cons pe_int (pa_cons pe_int pa_nil))) pa_nil)))
      (pss_one (ps_asg (pe_tup (pa_cons pe_int (pa_cons pe_int pa_nil))) (pg_sub (pe_ix ix_list (pv 9) (pe_un un_neg pe_int) (fun _ _ => rfl)) pe_int set_list)))))
      (pss_cons (ps_for PassesOwn.never rfl (pi_list (pv 6)) (pg_name (i := 9) scLaw.nd rfl (.inl rfl)) (pss_one (ps_expr (pe_bm0 PySem.F.plainAttrs_list PySem.F.slot_list_pop PySem.F.type_list_pop mt_pop (pv 9)))))
      (pss_cons (ps_if (pt_not (pt_val (pe_callG GSh hk hgd (by rfl) gSh kSh bSh .nil pass0 (pa_cons (pv 5) pa_nil)))) (pss_one (ps_ret pe_bl)) pss_nil)
      (pss_cons (ps_expr (pe_bm PySem.F.plainAttrs_list PySem.F.slot_list_append PySem.F.type_list_append mt_append (pe_meth0 (pv 7) T.cl mCS GCS hk bCS .nil pass0) (pa_cons pe_non pa_nil)))
      (pss_cons (ps_for PassesOwn.never rfl (pi_list (pe_lst (pa_cons (pe_meth0 (pv 7) T.cl mCH GCH hk bCH .nil pass0) (pa_cons (pe_meth0 (pv 7) T.cl mCE GCE hk bCE .nil pass0) pa_nil)))) (pg_name (i := 9) scLaw.nd rfl (.inl rfl)) (pss_cons (ps_expr (pe_bm PySem.F.plainAttrs_list PySem.F.slot_list_append PySem.F.type_list_append mt_append (pe_ix ix_list (pv 9) pe_int (fun _ _ => rfl)) (pa_cons pe_non pa_nil)))
      (pss_one (ps_expr (pe_bm PySem.F.plainAttrs_list PySem.F.slot_list_append PySem.F.type_list_append mt_append (pv 9) (pa_cons pe_non pa_nil))))))
      (pss_cons (ps_if (PW.pt (pw_or (pt_not (pt_val (pe_callG GIs hk hgd (by rfl) gIs kIs bIs .nil pass0 (pa_cons (pv 7) (pa_cons (pv 5) pa_nil))))) (pw_or (pt_cmpR op_ne (pe_cmpR (op_eqA NeC GCe hk1 bCe) (pv 7) (pv 8) (nomark _)) (pe_cmpR (op_eqD hk.units) (pv 5) (pv 4) (nomark _)) (nomark _)) (pw_or1 (pt_cmpR op_ne (pe_cmpR (op_eqA NeC GCe hk1 bCe) (pv 8) (pv 7) (nomark _)) (pe_cmpR (op_eqD hk.units) (pv 5) (pv 4) (nomark _)) (nomark _)))))) (pss_one (ps_ret pe_bl)) pss_nil)
      (pss_cons (ps_if (PW.pt (pw_or (pt_cmpR op_ne (pe_cmpR (op_inNY NeC nnC GCe hr bCe) (pv 7) (pe_lst (pa_cons pe_non (pa_cons (pv 8) pa_nil))) (by rfl)) (pe_cmpR (op_eqD hk.units) (pv 5) (pv 4) (nomark _)) (nomark _)) (pw_or1 (pt_cmpR (op_neA NeC GCe hk1 bCe) (pv 7) (pe_make T.mkC (Rs.quiet GI) hk1 (by rfl) T.gC bI .nil pass0 (pa_cons (pe_ix ix_list (pv 5) pe_int (fun _ _ => rfl)) (pa_cons (pe_ix ix_list (pv 5) pe_int (fun _ _ => rfl)) (pa_cons (pe_ix ix_list (pv 5) pe_int (fun _ _ => rfl)) pa_nil)))) (nomark _))))) (pss_one (ps_ret pe_bl)) pss_nil)
      (pss_cons (ps_if (pt_cmpR (op_neD hk.units) (pe_lc (own := [("_law_one", 10)]) (g := gName 10) (tt := (tTest (tOp (rAsk K C (spCEq K C) id) (tVar 7) (tVar 10)))) (te := (tVar 10)) rfl scLaw.nd (pi_list (pe_lst (pa_cons pe_non (pa_cons (pv 5) (pa_cons (pe_callTy (T := "tuple") call_tuple_of (by rfl) B.tuple_ (by decide +kernel) (pa_cons (pv 5) pa_nil)) (pa_cons pe_int (pa_cons (pe_callB (call_reprOw lR fnR GRep hk1 hgd bRep) (by rfl) B.repr_ (by decide +kernel) (pa_cons (pv 7) pa_nil)) (pa_cons (pe_meth0 (pv 7) T.cl mCS GCS hk bCS .nil pass0) pa_nil)))))))) (blkOk_by (N := ["_law_script", "_law_cell", "_law_left_here", "_law_parts_here", "_law_other", "_law_kept", "_law_handed", "_law_case", "_law_more", "_law_some", "_law_one"]) (sc := defScope sLaw) (by decide +kernel)) (fun _ _ _ _ _ => (pg_name (i := 10) scLaw.nd rfl (Or.inl rfl))) (fun _ _ _ _ _ => (pts_one (pt_cmpR (op_eqA NeC GCe hk1 bCe) (pv 7) (pv 10) (nomark _)))) (fun _ _ _ _ _ => (pv 10))) (pe_lst pa_nil) (nomark _)) (pss_one (ps_ret pe_bl)) pss_nil)
      (pss_one (ps_if (pt_not (pt_val (pe_callG GLt hk hgd (by rfl) gLt kLt bLt .nil pass0 (pa_cons (pv 2) (pa_cons (pv 7) (pa_cons (pv 5) pa_nil)))))) (pss_one (ps_ret pe_bl)) pss_nil)))))))))))))))))))
      (pss_one (ps_ret pe_bl))), ?_⟩
    refine ⟨_, rfl, 12, rfl, a, _, rfl, hS, fun p9 n9 => ?_⟩
    have e9 : (upd H p9 (.lst (cutV (ns.map V.int) none (some 12)))) p9 = some (.lst (cutV (ns.map V.int) none (some 12))) := upd_same
    generalize upd H p9 (.lst (cutV (ns.map V.int) none (some 12))) = Ha at e9 ⊢
    refine ⟨(by show 1 ≤ sizeLine; decide), fun p8 n8 => ?_⟩
    have e98 := (same_new n8 (.lst [V.int 6])) _ _ e9
    refine ⟨p9, p8, _, _, rfl, rfl, e98, upd_same, ?_, fun L nL => ?_⟩
    · have := cutV_length (ns.map V.int) none (some 12)
      rw [List.length_map] at this
      rw [List.length_singleton]
      exact Nat.le_of_lt (small1000 (by omega))
    have eL : (upd (upd Ha p8 (.lst [V.int 6])) L (.lst (cutV (ns.map V.int) none (some 12) ++ [V.int 6]))) L = some (.lst (cutV (ns.map V.int) none (some 12) ++ [V.int 6])) := upd_same
    generalize upd (upd Ha p8 (.lst [V.int 6])) L (.lst (cutV (ns.map V.int) none (some 12) ++ [V.int 6])) = Hb at eL ⊢
    refine ⟨L, rfl, ⟨_, SqL.of eL⟩, for_list (K := K) (a := L) (xs := cutV (ns.map V.int) none (some 12) ++ [V.int 6]) (fun i σ H' => ∃ y1 y2 y3 y4 y5 y6 y7 y8 y9 y10 : Option V, σ = [some (.ref a), y1, y2, y3, y4, y5, y6, y7, y8, y9, y10] ∧ H' L = some (.lst (cutV (ns.map V.int) none (some 12) ++ [V.int 6])))
      ⟨_, _, _, _, _, _, _, _, _, _, rfl, eL⟩ (fun i σ H' _ ⟨_, _, _, _, _, _, _, _, _, _, _, e⟩ => SqL.of e) ?_ ?_⟩
    rotate_left
    · rintro σ H1 ⟨y1, y2, y3, y4, y5, y6, y7, y8, y9, y10, rfl, _⟩
      exact q _
    rintro i xx σ H1 hi ⟨y1, y2, y3, y4, y5, y6, y7, y8, y9, y10, rfl, hL⟩
    obtain ⟨c, rfl⟩ := cut_int hi
    clear hi eL e98 e9
    generalize cutV (ns.map V.int) none (some 12) ++ [V.int 6] = xs at hL ⊢
    refine ⟨_, rfl, c, rfl, fun l z0 nl => ?_⟩
    have hLl : L ≠ l := ne_of_none hL nl
    have hl1 : (upd H1 l (.lst [.int z0])) l = some (.lst [.int z0]) := upd_same
    have hL1 : (upd H1 l (.lst [.int z0])) L = some (.lst xs) := by rw [upd_ne hLl]; exact hL
    generalize upd H1 l (.lst [.int z0]) = H2 at hl1 hL1 ⊢
    clear hL nl
    refine ⟨_, rfl, l, z0, 5, 6, rfl, hl1, by decide, by decide, by decide, by decide, fun P0 qs hss tss ww dd z1 H3 sb hl3 pa g _ _ nP0 P0l => ?_⟩
    have hL3 := sb _ _ hLl hL1
    refine ⟨_, rfl, _, rfl, l, P0, z1, qs, hss, tss, ww, dd, rfl, hl3, PartsL.of pa, g, fun F us iss kss w' d' z2 H4 sb4 hl4 hF g' => ?_⟩
    have hL4 := sb4 _ _ hLl hL3
    have pa4 := (PartsL.of pa).but hl3 sb4
    clear pa sb sb4 hl3 hL3 hl1 hL1
    refine ⟨_, rfl, P0, qs, hss, tss, 8, ww, dd, rfl, pa4, g, fun Kp A B C0 ca rh rt H5 s5 cpK => ?_⟩
    have hl5 := s5 _ _ hl4
    have fz : Frz K (less l H5) H5 := Frz.cut hl5
    have hF := (hF.same s5).but hl5 (same_less (H := H5))
    have hK := (cpK.parts.mono (show 8 ≤ 17 by decide)).but hl5 (same_less (H := H5))
    have pa5 := (pa4.same s5).but hl5 (same_less (H := H5))
    have hL := (same_less (T := l) (H := H5)) _ _ hLl (s5 _ _ hL4)
    have gl : less l H5 l = none := less_at
    clear s5 cpK pa4 hL4 hl4
    generalize less l H5 = G0 at fz hF hK pa5 hL gl
    refine ⟨_, rfl, P0, qs, hss, tss, 8, ww, dd, rfl, pa5.same fz.s, g, fun Hd A1 B1 C1 ca1 rh1 rt1 H6 s6 cpH => ?_⟩
    have off := cp_off fz cpH
    have gl1 : extT G0 H5 H6 l = none := extT_off hl5 gl
    have sx : Same G0 (extT G0 H5 H6) := Same.extT fz.s
    have fz1 := fz.skip s6
    have hF := hF.same sx
    have hK := hK.same sx
    have hL := sx _ _ hL
    have hl6 := s6 _ _ hl5
    clear pa5 gl fz
    generalize extT G0 H5 H6 = G1 at off gl1 sx fz1 hF hK hL
    have hl50 := hl5
    clear sx s6 hl5
    refine ⟨_, rfl, Hd, _, 0, .ref A1, rfl, rfl, SqL.of (cpH.p), atI_nat (j := 0) rfl, _, rfl, Hd, _, 1, .ref B1, rfl, rfl, SqL.of (cpH.p), atI_nat (j := 1) rfl, _, rfl, Hd, _, 2, .ref C1, rfl, rfl, SqL.of (cpH.p), atI_nat (j := 2) rfl, rfl, rfl, ?_⟩
    refine mk_caseG (CN := CN) (n := 17) (by decide) fz1 cpH.a (cpH.f.mono (by decide)) (rwl_mono cpH.b (by decide)) (rwl_mono cpH.c (by decide)) g fun x H7 s7 nx hx => ?_
    have hs := (hst_of fz1 cpH g off hl6 gl1 hl50).keep s7
    have sx : Same G1 (ext G1 H6 H7) := Same.ext fz1.s
    have hF := hF.same sx
    have hK := hK.same sx
    have hL := sx _ _ hL
    have pH := (cpH.parts.mono (show 8 ≤ 17 by decide)).same s7
    clear off gl1 fz1 cpH hl50
    generalize ext G1 H6 H7 = G2 at hx hs sx hF hK hL
    clear sx s7 hl6 nx
    obtain ⟨F1, F2, F3, f1, f2, f3, i1, i2, i3, i4, i5⟩ := id (hF.same hs.fz.s)
    refine ⟨_, rfl, F, _, 0, .ref F1, rfl, rfl, SqL.of i1, atI_nat (j := 0) rfl, _, rfl, F, _, 1, .ref F2, rfl, rfl, SqL.of i1, atI_nat (j := 1) rfl, _, rfl, F, _, 2, .ref F3, rfl, rfl, SqL.of i1, atI_nat (j := 2) rfl, ?_⟩
    refine mk_caseG (CN := CN) (n := 17) (by decide) hs.fz i2 i3 i4 i5 g' fun y H8 s8 ny hy => ?_
    have xy : x ≠ y := fun z => by
      obtain ⟨_, _, _, _, _, _, _, e, _⟩ := id (hx.same hs.fz.s)
      rw [z, ny] at e
      cases e
    have sx : Same G2 (ext G2 H7 H8) := Same.ext hs.fz.s
    have hs := hs.keep s8
    have hF := hF.same sx
    have hK := hK.same sx
    have hL := sx _ _ hL
    have hx := hx.same sx
    have pH := pH.same s8
    generalize ext G2 H7 H8 = G3 at hx hy hs sx hF hK hL
    clear sx s8 ny i1 i2 i3 i4 i5
    have hK8 := hK.same hs.fz.s
    refine ⟨_, rfl, _, rfl, dParts qs hss tss, dParts qs hss tss, parts_dp pH, parts_dp hK8, sm_shaped (parts_sm pH g (by decide)) (by decide), sm_shaped (parts_sm pH g (by decide)) (by decide), _, rfl, ?_⟩
    rw [eqv_parts, decide_eq_true (show qs = qs ∧ hss = hss ∧ tss = tss from ⟨rfl, rfl, rfl⟩)]
    refine iteF ?_
    refine ⟨_, rfl, _, rfl, x, Kp, qs, hss, tss, 17, ww, dd, rfl, hx.same hs.fz.s, hK8, g, by decide, fun H9 s9 => ⟨_, rfl, iteF ?_⟩⟩
    clear hK8 pH
    have hs9 := hs.keep s9
    have sx : Same G3 (ext G3 H8 H9) := Same.ext hs.fz.s
    have hF := hF.same sx
    have hK := hK.same sx
    have hL := sx _ _ hL
    have hx := hx.same sx
    have hy := hy.same sx
    generalize ext G3 H8 H9 = G4 at hx hy hs9 sx hF hK hL
    clear sx s9 hs
    have hs := hs9
    clear hs9
    refine ⟨_, rfl, _, rfl, y, F, us, iss, kss, 17, w', d', rfl, hy.same hs.fz.s, hF.same hs.fz.s, g', by decide, fun H10 s9 => ⟨_, rfl, iteF ?_⟩⟩
    have hs9 := hs.keep s9
    have sx : Same G4 (ext G4 H9 H10) := Same.ext hs.fz.s
    have hF := hF.same sx
    have hK := hK.same sx
    have hL := sx _ _ hL
    have hx := hx.same sx
    have hy := hy.same sx
    generalize ext G4 H9 H10 = G5 at hx hy hs9 sx hF hK hL
    clear sx s9 hs
    have hs := hs9
    clear hs9
    refine ⟨_, rfl, 1, rfl, Hd, _, rfl, SqL.of hs.p, fun SL nSL => ?_⟩
    rw [show cutV [V.ref A1, V.ref B1, V.ref C1] (some 1) none = [V.ref B1, V.ref C1] from rfl]
    have s11 := same_new nSL (.lst [V.ref B1, V.ref C1])
    have eSL : (upd H10 SL (.lst [V.ref B1, V.ref C1])) SL = some (.lst [V.ref B1, V.ref C1]) := upd_same
    have hs9 := hs.keep s11
    have sx : Same G5 (ext G5 H10 (upd H10 SL (.lst [V.ref B1, V.ref C1]))) := Same.ext hs.fz.s
    have hSL : ext G5 H10 (upd H10 SL (.lst [V.ref B1, V.ref C1])) SL = some (.lst [V.ref B1, V.ref C1]) := (ext_new nSL).trans eSL
    have hF := hF.same sx
    have hK := hK.same sx
    have hL := sx _ _ hL
    have hx := hx.same sx
    have hy := hy.same sx
    generalize ext G5 H10 (upd H10 SL (.lst [V.ref B1, V.ref C1])) = G6 at hx hy hs9 sx hF hK hL hSL
    generalize upd H10 SL (.lst [V.ref B1, V.ref C1]) = H11 at s11 eSL hs9 ⊢
    clear sx s11 hs nSL
    have hs := hs9
    clear hs9
    have kp : Kp6 K G6 C x y F Kp L qs us hss tss iss kss xs := ⟨hx, hy, hF, hK, hL⟩
    clear hx hy hF hK hL f1 f2 f3 F1 F2 F3
    refine ⟨SL, rfl, ⟨_, SqL.of eSL⟩, for_list (K := K) (a := SL) (xs := [V.ref B1, V.ref C1]) (fun i σ H' => ∃ y9 y10 : Option V, σ = [some (.ref a), some (.int c), some (.ref l), some (.ref P0), some (.ref F), some (.ref Kp), some (.ref Hd), some (.ref x), some (.ref y), y9, y10] ∧ ∃ G', Same G6 G' ∧ HSt K G' H' l [.int z2] Hd A1 B1 C1 rh1 rt1 (6 + i)) ⟨y9, y10, rfl, G6, Same.refl _, hs⟩ (fun i σ H' _ ⟨_, _, _, G', sg, h⟩ => SqL.of (h.fz.s _ _ (sg _ _ hSL))) ?_ ?_⟩
    · rintro i v σ H12 hi ⟨y9, y10, rfl, G', sg, h1⟩
      obtain ⟨X, rr, rfl, lr, hm, hX⟩ := h1.sel (List.mem_of_getElem? hi)
      have i2 : i < 2 := (List.getElem?_eq_some_iff.mp hi).1
      obtain ⟨r0, m0, a0⟩ := at_first lr
      obtain ⟨r9, m9, a9⟩ := at_last1 lr
      obtain ⟨ys, e0, l1, l2⟩ := h1.r r0 (hm r0 m0)
      refine ⟨_, rfl, X, _, 0, .ref r0, rfl, rfl, SqL.of (h1.get hX), a0, .inl ⟨rfl, _, SqL.of e0⟩, (by show 2 ≤ sizeLine; decide), fun tp ntp => ?_⟩
      have st := same_new ntp (.tup [V.int 9, V.int 1])
      have h2 := h1.keep st
      have sg2 := sg.trans (Same.ext (H' := upd H12 tp (.tup [V.int 9, V.int 1])) h1.fz.s)
      have e0 := st _ _ e0
      generalize ext G' H12 (upd H12 tp (.tup [V.int 9, V.int 1])) = G2' at h2 sg2
      generalize upd H12 tp (.tup [V.int 9, V.int 1]) = H13 at h2 e0 ⊢
      refine ⟨r0, ys, .ref tp, rfl, rfl, e0, small1000 (by omega), ?_⟩
      have h3 := h2.row (zs := ys ++ [V.ref tp]) (m' := 6 + (i + 1)) (hm r0 m0) e0 (by rw [List.length_append]; omega) (by rw [List.length_append, List.length_singleton]; omega) (by omega)
      generalize upd H13 r0 (.lst (ys ++ [V.ref tp])) = H14 at h3 ⊢
      clear h2 st ntp e0 l1 l2
      refine ⟨(by show 2 ≤ sizeLine; decide), fun tp ntp => ?_⟩
      have st := same_new ntp (.tup [V.int 5, V.int 1])
      have h4 := h3.keep st
      have sg3 := sg2.trans (Same.ext (H' := upd H14 tp (.tup [V.int 5, V.int 1])) h3.fz.s)
      generalize ext G2' H14 (upd H14 tp (.tup [V.int 5, V.int 1])) = G3' at h4 sg3
      generalize upd H14 tp (.tup [V.int 5, V.int 1]) = H15 at h4 ⊢
      obtain ⟨ys9, e9, l1, l2⟩ := h4.r r9 (hm r9 m9)
      refine ⟨_, rfl, 1, rfl, X, _, -1, .ref r9, rfl, rfl, SqL.of (h4.get hX), a9, r9, ys9, 0, 0, rfl, rfl, e9, ixN_at (j := 0) (by omega), ?_⟩
      exact ⟨_, _, rfl, G3', sg3, h4.row (hm r9 m9) e9 (by rw [List.length_set]; exact l1) (by rw [List.length_set]; exact l2) (Nat.le_refl _)⟩
    rintro σ H12 ⟨y9, y10, rfl, G', sg, h1⟩
    have kp := kp.same sg
    clear hs hSL sg eSL
    obtain ⟨kd, k1, k2, k3, k4, k5, k6, k7⟩ := id h1.kd
    have dn : ∀ {a b : Addr} {i j : Nat}, kd a = i → kd b = j → i ≠ j → a ≠ b := fun ha hb n z => n (by rw [← ha, ← hb, z])
    obtain ⟨o1, o2, o3, o4, _⟩ := h1.off
    refine ⟨_, rfl, Hd, rfl, ⟨_, SqL.of h1.p⟩, for_list (K := K) (a := Hd) (xs := [V.ref A1, V.ref B1, V.ref C1]) (fun i σ H' => ∃ y9 y10 : Option V, σ = [some (.ref a), some (.int c), some (.ref l), some (.ref P0), some (.ref F), some (.ref Kp), some (.ref Hd), some (.ref x), some (.ref y), y9, y10] ∧ Frz K G' H' ∧ H' l = some (.lst [.int z2]) ∧ H' Hd = some (.lst [.ref A1, .ref B1, .ref C1]) ∧ (i ≤ 0 → NE H' A1) ∧ (i ≤ 1 → NE H' B1) ∧ (i ≤ 2 → NE H' C1)) ⟨y9, y10, rfl, h1.fz, h1.d, h1.p, fun _ => h1.a, fun _ => ⟨_, h1.b, by rw [List.length_map]; exact h1.ln.1⟩, fun _ => ⟨_, h1.c, by rw [List.length_map]; exact h1.ln.2⟩⟩ (fun i σ H' _ ⟨_, _, _, _, _, e, _⟩ => SqL.of e) ?_ ?_⟩
    · rintro i v σ H13 hi ⟨y9, y10, rfl, f, hl, hp, n1, n2, n3⟩
      have pop : ∀ {X : Addr} {ys : List V} {j : Nat}, H13 X = some (.lst ys) → G' X = none → kd X = j → j ≠ 0 → j ≠ 9 → Frz K G' (upd H13 X (.lst ys.dropLast)) ∧ (upd H13 X (.lst ys.dropLast)) l = some (.lst [.int z2]) ∧ (upd H13 X (.lst ys.dropLast)) Hd = some (.lst [.ref A1, .ref B1, .ref C1]) := fun {X ys j} e o k j0 j9 =>
        ⟨f.set o e, by rw [upd_ne (dn k7 k (Ne.symm j9))]; exact hl, by rw [upd_ne (dn k1 k (Ne.symm j0))]; exact hp⟩
      match i, hi with
      | 0, hi =>
        cases hi
        obtain ⟨ys, e, ly⟩ := n1 (Nat.le_refl _)
        obtain ⟨yl, ey⟩ := pop_last ly
        obtain ⟨u1, u2, u3⟩ := pop e o2 k2 (by decide) (by decide)
        exact ⟨_, rfl, .inl ⟨rfl, _, SqL.of e⟩, A1, ys, yl, rfl, rfl, e, ey, _, _, rfl, u1, u2, u3, fun z => absurd z (by decide), fun _ => (n2 (by decide)).set (dn k3 k2 (by decide)), fun _ => (n3 (by decide)).set (dn k4 k2 (by decide))⟩
      | 1, hi =>
        cases hi
        obtain ⟨ys, e, ly⟩ := n2 (Nat.le_refl _)
        obtain ⟨yl, ey⟩ := pop_last ly
        obtain ⟨u1, u2, u3⟩ := pop e o3 k3 (by decide) (by decide)
        exact ⟨_, rfl, .inl ⟨rfl, _, SqL.of e⟩, B1, ys, yl, rfl, rfl, e, ey, _, _, rfl, u1, u2, u3, fun z => absurd z (by decide), fun z => absurd z (by decide), fun _ => (n3 (by decide)).set (dn k4 k3 (by decide))⟩
      | 2, hi =>
        cases hi
        obtain ⟨ys, e, ly⟩ := n3 (Nat.le_refl _)
        obtain ⟨yl, ey⟩ := pop_last ly
        obtain ⟨u1, u2, u3⟩ := pop e o4 k4 (by decide) (by decide)
        exact ⟨_, rfl, .inl ⟨rfl, _, SqL.of e⟩, C1, ys, yl, rfl, rfl, e, ey, _, _, rfl, u1, u2, u3, fun z => absurd z (by decide), fun z => absurd z (by decide), fun z => absurd z (by decide)⟩
    rintro σ H13 ⟨y9, y10, rfl, fz, hl, _, _, _, _⟩
    have gl := h1.gl
    clear h1 dn o1 o2 o3 o4 k1 k2 k3 k4 k5 k6 k7
    refine ⟨_, rfl, Kp, qs, hss, tss, 17, ww, dd, rfl, kp.k.same fz.s, g, by decide, fun H14 s => ⟨_, rfl, iteF ?_⟩⟩
    have sx : Same G' (ext G' H13 (H14)) := Same.ext fz.s
    have gl := ext_off (H' := H14) hl gl
    have fz := fz.more s
    have hl := s _ _ hl
    have kp := kp.same sx
    generalize ext G' H13 (H14) = Ga at fz gl kp
    clear sx
    clear s
    obtain ⟨dx, sa, ha, ta, cs0, rh0, rt0, e1, e2, e3, e4, e5⟩ := id (kp.x.same fz.s)
    refine ⟨_, rfl, x, dx, _, rfl, e1, rfl, x, qs, hss, tss, 17, rfl, kp.x.same fz.s, fun p cp np hf => ⟨.inl ⟨rfl, _, SqL.of upd_same⟩, p, cp, .non, rfl, rfl, upd_same, ?_, ?_⟩⟩
    · rw [hf.len, g.sh.1]; exact small1000 (by have := g.w5; omega)
    have pl : p ≠ l := fun z => by rw [z, hl] at np; cases np
    have hl1 : (upd (upd H14 p (.lst cp)) p (.lst (cp ++ [V.non]))) l = some (.lst [.int z2]) := by rw [upd_ne (Ne.symm pl), upd_ne (Ne.symm pl)]; exact hl
    have fz := (fz.newl (zs := cp) np).set (zs := cp ++ [V.non]) (fz.off np) upd_same
    generalize upd (upd H14 p (.lst cp)) p (.lst (cp ++ [V.non])) = H15 at fz hl1 ⊢
    have hl := hl1
    clear hl1 pl np hf e1 e2 e3 e4 e5
    obtain ⟨dx, sa, ha, ta, cs0, rh0, rt0, e1, e2, e3, e4, e5⟩ := id (kp.x.same fz.s)
    have h100 : hss.length ≤ 100 := by rw [g.hl]; have := g.w5; omega
    have t100 : tss.length ≤ 100 := by rw [g.tl]; have := g.w5; omega
    refine ⟨_, rfl, x, dx, _, rfl, e1, rfl, x, qs, hss, tss, 17, rfl, kp.x.same fz.s, h100, fun D1 r1 H16 fr1 => ?_⟩
    obtain ⟨w1, _, wn1, wf1, wr1, s⟩ := fr1
    have hn1 : 0 < r1.length := by rw [w1.2.1, g.hl]; exact g.w1
    obtain ⟨c1, q1, v1, u1, f1⟩ := w1.2.2 0 r1[0] (List.getElem?_eq_getElem hn1)
    have a1 : atI (r1.map V.ref) 0 = some (.ref r1[0]) := atI_nat (j := 0) (by rw [List.getElem?_map, List.getElem?_eq_getElem hn1]; rfl)
    have R1D : r1[0] ≠ D1 := fun z => wn1 (z ▸ List.getElem_mem hn1)
    have oD1 := extT_list (H := H15) (fz.off wf1) w1.1
    have oR1 := extT_list (H := H15) (fz.off (wr1 _ (List.getElem_mem hn1))) u1
    have l1 : c1.length ≤ 6 := by rw [f1.len, g.hr q1 (List.mem_of_getElem? v1)]; exact g.d6
    have D1l : D1 ≠ l := fun z => by rw [z, hl] at wf1; cases wf1
    have R1l : r1[0] ≠ l := fun z => by have := wr1 _ (List.getElem_mem hn1); rw [z, hl] at this; cases this
    have hD1 := w1.1
    have hr1 : r1.length ≤ 100 := by rw [w1.2.1]; exact h100
    generalize r1[0] = R1 at a1 R1D oR1 u1 R1l
    have sx : Same Ga (extT Ga H15 (H16)) := Same.extT fz.s
    have gl := extT_off (H' := H16) hl gl
    have fz := fz.skip s
    have hl := s _ _ hl
    have kp := kp.same sx
    generalize extT Ga H15 (H16) = G7 at fz gl kp oD1 oR1
    clear sx
    clear w1 wf1 wr1 wn1 v1 f1 e1 e2 e3 e4 e5
    have sa1 := s
    clear s
    obtain ⟨dx, sa, ha, ta, cs0, rh0, rt0, e1, e2, e3, e4, e5⟩ := id (kp.x.same fz.s)
    refine ⟨_, rfl, x, dx, _, rfl, e1, rfl, x, qs, hss, tss, 17, rfl, kp.x.same fz.s, t100, fun D2 r2 H17 fr2 => ?_⟩
    obtain ⟨w2, _, wn2, wf2, wr2, s⟩ := fr2
    have hn2 : 0 < r2.length := by rw [w2.2.1, g.tl]; exact g.w1
    obtain ⟨c2, q2, v2, u2, f2⟩ := w2.2.2 0 r2[0] (List.getElem?_eq_getElem hn2)
    have a2 : atI (r2.map V.ref) 0 = some (.ref r2[0]) := atI_nat (j := 0) (by rw [List.getElem?_map, List.getElem?_eq_getElem hn2]; rfl)
    have R2D : r2[0] ≠ D2 := fun z => wn2 (z ▸ List.getElem_mem hn2)
    have oD2 := extT_list (H := H16) (fz.off wf2) w2.1
    have oR2 := extT_list (H := H16) (fz.off (wr2 _ (List.getElem_mem hn2))) u2
    have l2 : c2.length ≤ 6 := by rw [f2.len, g.tr q2 (List.mem_of_getElem? v2)]; exact g.d6
    have D2l : D2 ≠ l := fun z => by rw [z, hl] at wf2; cases wf2
    have R2l : r2[0] ≠ l := fun z => by have := wr2 _ (List.getElem_mem hn2); rw [z, hl] at this; cases this
    have D2D1 : D2 ≠ D1 := fun z => by rw [z, hD1] at wf2; cases wf2
    have D2R1 : D2 ≠ R1 := fun z => by rw [z, u1] at wf2; cases wf2
    have R2D1 : r2[0] ≠ D1 := fun z => by have := wr2 _ (List.getElem_mem hn2); rw [z, hD1] at this; cases this
    have R2R1 : r2[0] ≠ R1 := fun z => by have := wr2 _ (List.getElem_mem hn2); rw [z, u1] at this; cases this
    have hD2 := w2.1
    have hr2 : r2.length ≤ 100 := by rw [w2.2.1]; exact t100
    have oD1 := extT_off (H' := H17) hD1 oD1
    have oR1 := extT_off (H' := H17) u1 oR1
    have hD1 := s _ _ hD1
    have u1 := s _ _ u1
    generalize r2[0] = R2 at a2 R2D oR2 u2 R2l R2D1 R2R1
    have sx : Same G7 (extT G7 H16 (H17)) := Same.extT fz.s
    have gl := extT_off (H' := H17) hl gl
    have fz := fz.skip s
    have hl := s _ _ hl
    have kp := kp.same sx
    generalize extT G7 H16 (H17) = G8 at fz gl kp oD1 oR1 oD2 oR2
    clear sx
    clear w2 wf2 wr2 wn2 v2 f2 e1 e2 e3 e4 e5 s sa1
    refine ⟨(by show 2 ≤ sizeLine; decide), fun LL nLL => ?_⟩
    have s := same_new nLL (.lst [V.ref D1, V.ref D2])
    have hLL : ext G8 H17 (upd H17 LL (.lst [V.ref D1, V.ref D2])) LL = some (.lst [V.ref D1, V.ref D2]) := (ext_new nLL).trans upd_same
    have oD1 := ext_off (H' := upd H17 LL (.lst [V.ref D1, V.ref D2])) hD1 oD1
    have oR1 := ext_off (H' := upd H17 LL (.lst [V.ref D1, V.ref D2])) u1 oR1
    have oD2 := ext_off (H' := upd H17 LL (.lst [V.ref D1, V.ref D2])) hD2 oD2
    have oR2 := ext_off (H' := upd H17 LL (.lst [V.ref D1, V.ref D2])) u2 oR2
    have hD1 := s _ _ hD1
    have u1 := s _ _ u1
    have hD2 := s _ _ hD2
    have u2 := s _ _ u2
    have sx : Same G8 (ext G8 H17 (upd H17 LL (.lst [V.ref D1, V.ref D2]))) := Same.ext fz.s
    have gl := ext_off (H' := upd H17 LL (.lst [V.ref D1, V.ref D2])) hl gl
    have fz := fz.more s
    have hl := s _ _ hl
    have kp := kp.same sx
    generalize ext G8 H17 (upd H17 LL (.lst [V.ref D1, V.ref D2])) = G9 at fz gl kp oD1 oR1 oD2 oR2 hLL
    clear sx
    generalize upd H17 LL (.lst [V.ref D1, V.ref D2]) = H18 at s fz hl hD1 u1 hD2 u2 ⊢
    clear s nLL
    refine ⟨LL, rfl, ⟨_, SqL.of (fz.s _ _ hLL)⟩, for_list (K := K) (a := LL) (xs := [V.ref D1, V.ref D2]) (fun i σ H' => ∃ y9 y10 : Option V, σ = [some (.ref a), some (.int c), some (.ref l), some (.ref P0), some (.ref F), some (.ref Kp), some (.ref Hd), some (.ref x), some (.ref y), y9, y10] ∧ Frz K G9 H' ∧ H' l = some (.lst [.int z2]) ∧ (i ≤ 0 → H' D1 = some (.lst (r1.map V.ref)) ∧ H' R1 = some (.lst c1)) ∧ (i ≤ 1 → H' D2 = some (.lst (r2.map V.ref)) ∧ H' R2 = some (.lst c2))) ⟨y9, y10, rfl, fz, hl, fun _ => ⟨hD1, u1⟩, fun _ => ⟨hD2, u2⟩⟩ (fun i σ H' _ ⟨_, _, _, f, _⟩ => SqL.of (f.s _ _ hLL)) ?_ ?_⟩
    · rintro i v σ H19 hi ⟨y9, y10, rfl, f, hl, n1, n2⟩
      match i, hi with
      | 0, hi =>
        cases hi
        obtain ⟨d1, x1⟩ := n1 (Nat.le_refl _)
        obtain ⟨d2, x2⟩ := n2 (by decide)
        refine ⟨_, rfl, D1, _, 0, .ref R1, rfl, rfl, SqL.of d1, a1, .inl ⟨rfl, _, SqL.of x1⟩, R1, c1, .non, rfl, rfl, x1, small1000 (by omega), ?_⟩
        have f := f.set (zs := c1 ++ [V.non]) oR1 x1
        have d1 : (upd H19 R1 (.lst (c1 ++ [V.non]))) D1 = _ := (upd_ne (Ne.symm R1D)).trans d1
        have d2 : (upd H19 R1 (.lst (c1 ++ [V.non]))) D2 = _ := (upd_ne D2R1).trans d2
        have x2 : (upd H19 R1 (.lst (c1 ++ [V.non]))) R2 = _ := (upd_ne R2R1).trans x2
        have hl : (upd H19 R1 (.lst (c1 ++ [V.non]))) l = _ := (upd_ne (Ne.symm R1l)).trans hl
        generalize upd H19 R1 (.lst (c1 ++ [V.non])) = H20 at f d1 d2 x2 hl ⊢
        refine ⟨_, rfl, .inl ⟨rfl, _, SqL.of d1⟩, D1, _, .non, rfl, rfl, d1, ?_, _, _, rfl, f.set oD1 d1, (upd_ne (Ne.symm D1l)).trans hl, fun z => absurd z (by decide), fun _ => ⟨(upd_ne D2D1).trans d2, (upd_ne R2D1).trans x2⟩⟩
        rw [List.length_map]
        exact small1000 (by omega)
      | 1, hi =>
        cases hi
        obtain ⟨d2, x2⟩ := n2 (Nat.le_refl _)
        refine ⟨_, rfl, D2, _, 0, .ref R2, rfl, rfl, SqL.of d2, a2, .inl ⟨rfl, _, SqL.of x2⟩, R2, c2, .non, rfl, rfl, x2, small1000 (by omega), ?_⟩
        have f := f.set (zs := c2 ++ [V.non]) oR2 x2
        have d2 : (upd H19 R2 (.lst (c2 ++ [V.non]))) D2 = _ := (upd_ne (Ne.symm R2D)).trans d2
        have hl : (upd H19 R2 (.lst (c2 ++ [V.non]))) l = _ := (upd_ne (Ne.symm R2l)).trans hl
        generalize upd H19 R2 (.lst (c2 ++ [V.non])) = H20 at f d2 hl ⊢
        refine ⟨_, rfl, .inl ⟨rfl, _, SqL.of d2⟩, D2, _, .non, rfl, rfl, d2, ?_, _, _, rfl, f.set oD2 d2, (upd_ne (Ne.symm D2l)).trans hl, fun z => absurd z (by decide), fun z => absurd z (by decide)⟩
        rw [List.length_map]
        exact small1000 (by omega)
    clear fz hl hD1 u1 hD2 u2
    rintro σ H19 ⟨y9, y10, rfl, fz, hl, _, _⟩
    clear oD1 oR1 oD2 oR2 a1 a2 R1D R2D D1l R1l D2l R2l D2D1 D2R1 R2D1 R2R1 l1 l2 hLL
    refine ⟨_, rfl, _, rfl, x, Kp, qs, hss, tss, 17, ww, dd, rfl, kp.x.same fz.s, kp.k.same fz.s, g, by decide, fun H20 s => ⟨_, rfl, iteF ?_⟩⟩
    have sx : Same G9 (ext G9 H19 (H20)) := Same.ext fz.s
    have gl := ext_off (H' := H20) hl gl
    have fz := fz.more s
    have hl := s _ _ hl
    have kp := kp.same sx
    generalize ext G9 H19 (H20) = G10 at fz gl kp
    clear sx
    clear s
    obtain ⟨dx, sa, ha, ta, cs0, rh0, rt0, e1, e2, e3, e4, e5⟩ := id (kp.x.same fz.s)
    obtain ⟨dy, sb, hb, tb, cs9, rh9, rt9, i1, i2, i3, i4, i5⟩ := id (kp.y.same fz.s)
    have sy : decide (us = qs ∧ iss = hss ∧ kss = tss) = decide (qs = us ∧ hss = iss ∧ tss = kss) := decide_eq_decide.mpr ⟨fun ⟨a, b, c⟩ => ⟨a.symm, b.symm, c.symm⟩, fun ⟨a, b, c⟩ => ⟨a.symm, b.symm, c.symm⟩⟩
    refine ⟨_, rfl, _, rfl, x, dx, _, rfl, e1, .inr (.inr (.inr (.inr (.inr (.inr ⟨y, C, dy, _, fCe, rfl, i1, NeC⟩))))), x, .ref y, qs, hss, tss, 17, rfl, kp.x.same fz.s, .inr ⟨y, us, iss, kss, 17, rfl, kp.y.same fz.s, _, rfl, ?_⟩⟩
    refine ⟨_, rfl, _, rfl, dParts qs hss tss, dParts us iss kss, parts_dp (kp.k.same fz.s), parts_dp (kp.f.same fz.s), sm_shaped (parts_sm kp.k g (by decide)) (by decide), sm_shaped (parts_sm kp.f g' (by decide)) (by decide), rfl, _, rfl, ?_⟩
    rw [eqv_parts]
    rw [decide_eq_true (show V.bl (id (decide (qs = us ∧ hss = iss ∧ tss = kss))) = V.bl (decide (qs = us ∧ hss = iss ∧ tss = kss)) from rfl)]
    refine iteF ?_
    refine ⟨_, rfl, _, rfl, y, dy, _, rfl, i1, .inr (.inr (.inr (.inr (.inr (.inr ⟨x, C, dx, _, fCe, rfl, e1, NeC⟩))))), y, .ref x, us, iss, kss, 17, rfl, kp.y.same fz.s, .inr ⟨x, qs, hss, tss, 17, rfl, kp.x.same fz.s, _, rfl, ?_⟩⟩
    refine ⟨_, rfl, _, rfl, dParts qs hss tss, dParts us iss kss, parts_dp (kp.k.same fz.s), parts_dp (kp.f.same fz.s), sm_shaped (parts_sm kp.k g (by decide)) (by decide), sm_shaped (parts_sm kp.f g' (by decide)) (by decide), rfl, _, rfl, ?_⟩
    rw [eqv_parts, sy]
    rw [decide_eq_true (show V.bl (id (decide (qs = us ∧ hss = iss ∧ tss = kss))) = V.bl (decide (qs = us ∧ hss = iss ∧ tss = kss)) from rfl)]
    refine iteF ?_
    refine ⟨_, rfl, _, rfl, (by show 2 ≤ sizeLine; decide), fun NL nNL => ?_⟩
    have s := same_new nNL (.lst [V.non, V.ref y])
    have eNL : (upd H20 NL (.lst [V.non, V.ref y])) NL = some (.lst [V.non, V.ref y]) := upd_same
    have e1 := s _ _ e1
    have i1 := s _ _ i1
    have sx : Same G10 (ext G10 H20 (upd H20 NL (.lst [V.non, V.ref y]))) := Same.ext fz.s
    have gl := ext_off (H' := upd H20 NL (.lst [V.non, V.ref y])) hl gl
    have fz := fz.more s
    have hl := s _ _ hl
    have kp := kp.same sx
    generalize ext G10 H20 (upd H20 NL (.lst [V.non, V.ref y])) = G11 at fz gl kp
    clear sx
    generalize upd H20 NL (.lst [V.non, V.ref y]) = H21 at s fz hl eNL e1 i1 ⊢
    clear s nNL e2 e3 e4 e5 i2 i3 i4 i5
    have cx := kp.x.same fz.s
    have cy := kp.y.same fz.s
    refine ⟨x, y, NL, dx, dy, _, _, rfl, rfl, eNL, e1, i1, xy, x, .non, qs, hss, tss, 17, rfl, cx, .inl ⟨⟨.type "NoneType", .base .non, kT _ (by simp)⟩, false, rfl, rfl, eNL, ⟨dx, dy, _, _, e1, i1⟩, y, .ref x, us, iss, kss, 17, rfl, cy, .inr ⟨x, qs, hss, tss, 17, rfl, cx, _, rfl, eNL, ?_⟩⟩⟩
    refine ⟨_, rfl, _, rfl, dParts qs hss tss, dParts us iss kss, parts_dp (kp.k.same fz.s), parts_dp (kp.f.same fz.s), sm_shaped (parts_sm kp.k g (by decide)) (by decide), sm_shaped (parts_sm kp.f g' (by decide)) (by decide), rfl, _, rfl, ?_⟩
    rw [eqv_parts, sy]
    rw [decide_eq_true (show V.bl (decide (qs = us ∧ hss = iss ∧ tss = kss)) = V.bl (decide (qs = us ∧ hss = iss ∧ tss = kss)) from rfl)]
    refine iteF ?_
    obtain ⟨KA, KB, KC, kc, kh, kt, j1, j2, j3, j4, j5⟩ := id (kp.k.same fz.s)
    refine ⟨_, rfl, _, rfl, Kp, _, 0, .ref KA, rfl, rfl, SqL.of (j1), atI_nat (j := 0) rfl, _, rfl, Kp, _, 1, .ref KB, rfl, rfl, SqL.of (j1), atI_nat (j := 1) rfl, _, rfl, Kp, _, 2, .ref KC, rfl, rfl, SqL.of (j1), atI_nat (j := 2) rfl, ?_⟩
    refine mk_caseG (CN := CN) (n := 17) (by decide) fz j2 j3 j4 j5 g fun w H22 s nw hw => ?_
    have hw2 := hw
    have sx : Same G11 (ext G11 H21 (H22)) := Same.ext fz.s
    have gl := ext_off (H' := H22) hl gl
    have fz := fz.more s
    have hl := s _ _ hl
    have kp := kp.same sx
    generalize ext G11 H21 (H22) = G12 at fz gl kp hw hw2
    clear sx
    clear s
    obtain ⟨dw, _, _, _, _, _, _, w1, _⟩ := id (hw2.same fz.s)
    obtain ⟨dx2, _, _, _, _, _, _, e1', _⟩ := id (kp.x.same fz.s)
    refine ⟨x, dx2, _, rfl, e1', .inr (.inr (.inr (.inr (.inr (.inr ⟨w, C, dw, _, fCe, rfl, w1, NeC⟩))))), x, .ref w, qs, hss, tss, 17, rfl, kp.x.same fz.s, .inr ⟨w, qs, hss, tss, 17, rfl, hw2.same fz.s, _, rfl, _, rfl, ?_⟩⟩
    rw [decide_eq_true (show qs = qs ∧ hss = hss ∧ tss = tss from ⟨rfl, rfl, rfl⟩)]
    refine iteF ?_
    obtain ⟨KA2, KB2, KC2, kc2, kh2, kt2, j1', _⟩ := id (kp.k.same fz.s)
    refine ⟨_, rfl, _, rfl, Kp, _, rfl, .inl ⟨SqL.of j1', fun TP nTP => ?_⟩⟩
    have s1 := same_new nTP (.tup [V.ref KA2, V.ref KB2, V.ref KC2])
    have eTP : SqT K (upd H22 TP (.tup [V.ref KA2, V.ref KB2, V.ref KC2])) TP [V.ref KA2, V.ref KB2, V.ref KC2] := SqT.of upd_same
    generalize upd H22 TP (.tup [V.ref KA2, V.ref KB2, V.ref KC2]) = H23 at s1 eTP ⊢
    have cx3 := (kp.x.same fz.s).same s1
    refine ⟨_, rfl, x, dx2, _, rfl, s1 _ _ e1', x, qs, hss, tss, 17, ww, dd, rfl, cx3, g, by decide, _, rfl, _, rfl, x, dx2, _, rfl, s1 _ _ e1', rfl, x, qs, hss, tss, 17, rfl, cx3, fun SP sv nSP hsv => ?_⟩
    have s2 := same_new nSP (.lst sv)
    have eSP : (upd H23 SP (.lst sv)) SP = some (.lst sv) := upd_same
    have eTP := seqT s2 eTP
    have s12 := s1.trans s2
    generalize upd H23 SP (.lst sv) = H24 at s2 eSP eTP s12 ⊢
    clear s1 s2
    refine ⟨(by show 6 ≤ sizeLine; decide), fun L6 nL6 => ?_⟩
    have s3 := same_new nL6 (.lst [V.non, V.ref Kp, V.ref TP, V.int 0, V.str (caseR qs hss tss), V.ref SP])
    have eL6 : (upd H24 L6 (.lst [V.non, V.ref Kp, V.ref TP, V.int 0, V.str (caseR qs hss tss), V.ref SP])) L6 = some (.lst [V.non, V.ref Kp, V.ref TP, V.int 0, V.str (caseR qs hss tss), V.ref SP]) := upd_same
    have eTP := seqT s3 eTP
    have eSP := s3 _ _ eSP
    have s13 := s12.trans s3
    generalize upd H24 L6 (.lst [V.non, V.ref Kp, V.ref TP, V.int 0, V.str (caseR qs hss tss), V.ref SP]) = H25 at s3 eL6 eTP eSP s13 ⊢
    clear s3 s12
    have eKp := s13 _ _ j1'
    have hall : ∀ {H' : Hp}, Same H25 H' → ∀ v ∈ [V.non, V.ref Kp, V.ref TP, V.int 0, V.str (caseR qs hss tss), V.ref SP], Rt K H' v ∧ Odd K H' C v := fun {H'} s v hv => by
      simp only [List.mem_cons, List.not_mem_nil, or_false] at hv
      rcases hv with rfl | rfl | rfl | rfl | rfl | rfl
      · exact ⟨.inl rfl, _, .base .non, kT _ (by simp)⟩
      · exact ⟨.inr (.inr (.inr (.inr (.inl ⟨_, _, rfl, s _ _ eKp⟩)))), _, .base (.lst (s _ _ eKp)), kT _ (by simp)⟩
      · exact ⟨.inr (.inr (.inr (.inr (.inr (.inl ⟨_, _, rfl, seqT s eTP⟩))))), _, tyT (seqT s eTP), kT _ (by simp)⟩
      · exact ⟨.inr (.inr (.inl ⟨_, rfl⟩)), _, .base (.int _), kT _ (by simp)⟩
      · exact ⟨.inr (.inr (.inr (.inl ⟨_, rfl⟩))), _, .base (.str _), kT _ (by simp)⟩
      · exact ⟨.inr (.inr (.inr (.inr (.inl ⟨_, _, rfl, s _ _ eSP⟩)))), _, .base (.lst (s _ _ eSP)), kT _ (by simp)⟩
    refine ⟨L6, rfl, ⟨_, SqL.of eL6⟩, fun DD hDD => lc_list (K := K) (a := L6) (xs := [V.non, V.ref Kp, V.ref TP, V.int 0, V.str (caseR qs hss tss), V.ref SP]) (fun i H' => H' = upd H25 DD (.lst [])) rfl (fun i H' _ e => by rw [e]; exact SqL.of (same_new hDD _ _ _ eL6)) ?_ ?_⟩
    · rintro i v H' hi rfl
      have sD := same_new hDD (.lst [])
      obtain ⟨rt, od⟩ := hall sD v (List.mem_of_getElem? hi)
      have cx4 := (kp.x.same fz.s).same (s13.trans sD)
      exact ⟨rfl, _, rfl, _, rfl, x, dx2, _, rfl, sD _ _ (s13 _ _ e1'), rt, x, v, qs, hss, tss, 17, rfl, cx4, .inl ⟨od, _, rfl, _, rfl, iteF rfl⟩⟩
    rintro H' rfl
    have sD := same_new hDD (.lst [])
    have eDD : (upd H25 DD (.lst [])) DD = some (.lst []) := upd_same
    have s14 := s13.trans sD
    generalize upd H25 DD (.lst []) = H26 at sD eDD s14 ⊢
    refine ⟨(by show 0 ≤ sizeLine; decide), fun EE nEE => ?_⟩
    have s5 := same_new nEE (.lst [])
    refine ⟨.list [], .list [], .lst (SqL.of (s5 _ _ eDD)) .nil, .lst (SqL.of upd_same) .nil, rfl, rfl, _, rfl, ?_⟩
    rw [SeqAt.eqv_refl _ rfl]
    refine iteF ?_
    have s15 := s14.trans s5
    generalize upd H26 EE (.lst []) = H27 at s5 s15 ⊢
    refine ⟨_, rfl, _, rfl, _, rfl, l, x, Kp, z2, qs, hss, tss, 17, ww, dd, rfl, s15 _ _ hl, (kp.x.same fz.s).same s15, (kp.k.same fz.s).same s15, g, by decide, by decide, fun H28 sb => ⟨_, rfl, iteF ?_⟩⟩
    exact ⟨_, _, _, _, _, _, _, _, _, _, rfl, sb _ _ hLl (s15 _ _ (fz.s _ _ kp.l))⟩
end
end K06

set_option Elab.async false
set_option linter.all false
set_option maxRecDepth 100000
set_option maxHeartbeats 4000000
/-! what the top leaves, by facts that the kernel's own run of it shows -/
namespace Hk
open PySem PySem.Spec PyProof.Rows L2 He
abbrev Fk : Type := PySem.W.Frag → Bool
abbrev Ao : Type := Bool × List FnV × List FnW
/-- facts in groups, defs, defs with defaults -/
def see (fa : List (List Fk)) (fn : List FnD) (fd : List DefD) (K : PySem.W.Frag) : Ao := (fa.all (fun l => l.all (fun f => f K)), fn.map (fun d => fnObs K d.at_), fd.map (fun d => fnW K d.at_))
def want (fn : List FnD) (fd : List DefD) : Ao := (true, fn.map FnD.val, fd.map DefD.val)
def Tells (fa : List (List Fk)) (fn : List FnD) (fd : List DefD) (K : PySem.W.Frag) : Prop := see fa fn fd K = want fn fd
def seeG (as : List Addr) (fa : List (List Fk)) (fn : List FnD) (fd : List DefD) (g : Addr → Option Obj) : Ao := see fa fn fd (frG g as)
def hook (as : List Addr) (fa : List (List Fk)) (fn : List FnD) (fd : List DefD) : PySem.W.Hook :=
  { α := Ao, obs := fun s => seeG as fa fn fd s.heap.get?, val := fun _ => want fn fd, says := fun _ h => ∃ K : PySem.W.Frag, K.In h ∧ Tells fa fn fd K,
    of := fun _ _ e => ⟨_, frG_in, e⟩, keeps := fun _ _ _ z k => let ⟨K, a, b⟩ := z; ⟨K, PySem.W.Frag.In.keeps a k, b⟩ }
theorem seeG_eq {as : List Addr} {fa : List (List Fk)} {fn : List FnD} {fd : List DefD} {g : Addr → Option Obj} {s : Shared} (h : ∀ a, g a = s.heap.get? a) : seeG as fa fn fd g = (hook as fa fn fd).obs s := by
  rw [show g = s.heap.get? from funext h] <;> rfl
section
variable {fa : List (List Fk)} {fn : List FnD} {fd : List DefD} {K : PySem.W.Frag}
theorem Tells.fact (c : Tells fa fn fd K) (i j : Nat) {l : List Fk} {f : Fk} (h : fa[i]? = some l) (g : l[j]? = some f) : f K = true := by
  have c1 : fa.all (fun l => l.all (fun f => f K)) = true := congrArg (fun z : Ao => z.1) c
  exact List.all_eq_true.mp (List.all_eq_true.mp c1 l (List.mem_of_getElem? h)) f (List.mem_of_getElem? g)
theorem Tells.fnAt (c : Tells fa fn fd K) (i : Nat) {d : FnD} (h : fn[i]? = some d) (k : (Fa.code d.at_ d.qual).ok K = true) :
    ∃ oc od osl kV doc pm an cdv ct, K.lookup (fAd K d.at_) = some ⟨oc, od, .func (PySem.W.fnOf d.name d.qual d.params d.body d.scope .none kV doc pm an cdv ct), osl⟩ ∧ PySem.W.codeIn K cdv d.qual = true := by
  have e : fn.map (fun d => fnObs K d.at_) = fn.map FnD.val := congrArg (fun z : Ao => z.2.1) c
  have e2 : (fn.map (fun d => fnObs K d.at_))[i]? = (fn.map FnD.val)[i]? := by rw [e]
  rw [List.getElem?_map, List.getElem?_map, h] at e2
  exact fn_ok (Option.some.inj e2) k
theorem Tells.fdAt (c : Tells fa fn fd K) (i : Nat) {d : DefD} (h : fd[i]? = some d) (k : d.ok K = true) : ∃ f, FunD K d.name d.qual d.params d.body d.scope (d.dvs K) (d.kws K) (fAd K d.at_) f := by
  have e : fd.map (fun d => fnW K d.at_) = fd.map DefD.val := congrArg (fun z : Ao => z.2.2) c
  have e2 : (fd.map (fun d => fnW K d.at_))[i]? = (fd.map DefD.val)[i]? := by rw [e]
  rw [List.getElem?_map, List.getElem?_map, h] at e2
  exact DefD.funD (Option.some.inj e2) k
end
/-- the namespace of the class at C -/
def nsA (K : PySem.W.Frag) (C : Addr) : Addr := match K.lookup C with
  | some ⟨_, _, .cls cd, _⟩ => cd.ns
  | _ => 0
/-- a class of this tail, this __new__ -/
def clsB (C : PySem.W.Frag → Addr) (tl : List Value) (hd : Bool) (nw : String) : Fk := fun K => match K.lookup (C K) with
  | some ⟨.type "type", _, .cls cd, sl⟩ => (match cd.mro, sl.toList with
    | .ref C' :: bm, [_, _, _, _, some (.builtin n), _] => decide (C' = C K) && (decide (n = nw) && (!cd.hasDel && (decide (bm = tl) && (!hd || cd.hasDict))))
    | _, _ => false)
  | _ => false
theorem clsB_ok {C : PySem.W.Frag → Addr} {tl : List Value} {hd : Bool} {nw : String} {K : PySem.W.Frag} (h : clsB C tl hd nw K = true) :
    ∃ nm q bs hdct sn sub ab col dd k0 k1 k2 k3 k5, K.lookup (C K) = some (excClassObj nm q (C K) (nsA K (C K)) bs tl hdct sn sub ab col dd k0 k1 k2 k3 k5 nw) ∧ (hd = true → hdct = true) := by
  unfold clsB at h
  split at h
  · rename_i dd cd sl ho
    split at h
    · rename_i C' bm k0 k1 k2 k3 n k5 hm hs
      simp only [Bool.and_eq_true, decide_eq_true_eq, Bool.not_eq_true', Bool.or_eq_true] at h
      obtain ⟨e1, e2, e3, e4, e5⟩ := h
      subst e1 e2 e4
      have eN : nsA K (C K) = cd.ns := by
        unfold nsA
        rw [ho]
      obtain ⟨nm, bs, mro, ns, qn, hdd, sn, sub, ab, col, del⟩ := cd
      dsimp only at hm e3 e5 eN
      subst hm e3
      have esl : sl = #[k0, k1, k2, k3, some (.builtin n), k5] := by
        obtain ⟨l⟩ := sl
        simp only at hs
        rw [hs]
      subst esl
      refine ⟨nm, qn, bs, hdd, sn, sub, ab, col, dd, k0, k1, k2, k3, k5, by rw [ho, eN], fun e => ?_⟩
      subst e
      rcases e5 with z | z
      · cases z
      · exact z
    · cases h
  · cases h
theorem clsT {C : PySem.W.Frag → Addr} {tl : List Value} {nw : String} {K : PySem.W.Frag} (h : clsB C tl true nw K = true) :
    ∃ nm q N bs sn sub ab col dd k0 k1 k2 k3 k5, K.lookup (C K) = some (excClassObj nm q (C K) N bs tl true sn sub ab col dd k0 k1 k2 k3 k5 nw) := by
  obtain ⟨nm, q, bs, hdct, sn, sub, ab, col, dd, k0, k1, k2, k3, k5, e, z⟩ := clsB_ok h
  cases z rfl
  exact ⟨nm, q, _, bs, sn, sub, ab, col, dd, k0, k1, k2, k3, k5, e⟩
/-- the object at an address is of the built-in type T -/
def tyB (f : PySem.W.Frag → Addr) (T : String) : Fk := fun K => match K.lookup (f K) with
  | some ⟨.type t, _, _, _⟩ => decide (t = T)
  | _ => false
theorem tyB_ok {f : PySem.W.Frag → Addr} {T : String} {K : PySem.W.Frag} {o : Obj} (h : tyB f T K = true) (e : K.lookup (f K) = some o) : o.cls = .type T := by
  unfold tyB at h
  rw [e] at h
  obtain ⟨oc, od, dt, osl⟩ := o
  cases oc with
  | type t =>
    have : t = T := of_decide_eq_true h
    rw [this]
  | _ => cases h
/-- a whole number by a name -/
def intB (x : Str) (i : Int) : Fk := fun K => match PySem.W.nsIn K mainGlobals x with
  | some (some (.int j _)) => decide (j = i)
  | _ => false
theorem intB_ok {x : Str} {i : Int} {K : PySem.W.Frag} (h : intB x i K = true) : ∃ t, PySem.W.nsIn K mainGlobals x = some (some (.int i t)) := by
  unfold intB at h
  cases e : PySem.W.nsIn K mainGlobals x with
  | none =>
    rw [e] at h
    cases h
  | some o =>
    rw [e] at h
    cases o with
    | none => cases h
    | some v =>
      cases v with
      | int j t =>
        have : j = i := of_decide_eq_true h
        exact ⟨t, by rw [this]⟩
      | _ => cases h
theorem both {α β γ : Type} {E : Option α} {f : α → β} {g : α → γ} {b : β} {c : γ} (h1 : E.map f = some b) (h2 : E.map g = some c) : E.map (fun s => (f s, g s)) = some (b, c) := by
  cases E with
  | none => cases h1
  | some x =>
    have e1 : f x = b := Option.some.inj h1
    have e2 : g x = c := Option.some.inj h2
    show some (f x, g x) = some (b, c)
    rw [e1, e2]
/-- so many facts of what a state holds -/
def facB {α : Type} (k : α → PySem.W.Frag) (fa : List (List Fk)) (s : α) : Bool := fa.all (fun l => l.all (fun f => f (k s)))
theorem facs {α : Type} {E : Option α} {k : α → PySem.W.Frag} {fa fb : List (List Fk)} (h1 : E.map (facB k fa) = some true) (h2 : E.map (facB k fb) = some true) : E.map (facB k (fa ++ fb)) = some true := by
  cases E with
  | none => cases h1
  | some x =>
    have e1 : facB k fa x = true := Option.some.inj h1
    have e2 : facB k fb x = true := Option.some.inj h2
    show some ((fa ++ fb).all fun l => l.all fun f => f (k x)) = some true
    rw [List.all_append]
    unfold facB at e1 e2
    rw [e1, e2]
    rfl
def defB {α : Type} (k : α → PySem.W.Frag) (fn : List FnD) (s : α) : List FnV := fn.map (fun d => fnObs (k s) d.at_)
theorem defs {α : Type} {E : Option α} {k : α → PySem.W.Frag} {fa fb : List FnD} (h1 : E.map (defB k fa) = some (fa.map FnD.val)) (h2 : E.map (defB k fb) = some (fb.map FnD.val)) : E.map (defB k (fa ++ fb)) = some ((fa ++ fb).map FnD.val) := by
  cases E with
  | none => cases h1
  | some x =>
    have e1 : defB k fa x = fa.map FnD.val := Option.some.inj h1
    have e2 : defB k fb x = fb.map FnD.val := Option.some.inj h2
    show some ((fa ++ fb).map fun d => fnObs (k x) d.at_) = some ((fa ++ fb).map FnD.val)
    unfold defB at e1 e2
    rw [List.map_append, List.map_append, e1, e2]
/-- as walk_ofE, of a promise that holds where nothing is being shown -/
theorem walk_ofEG {l : PySem.W.OpenLaw} {n k : Nat} {q : Program} {loose : List Str} {XP : (Str → Option Value) → Heap → Prop} {YP : World → Heap → Prop} {d : DefRec} {CX : CXT} {x : Str}
    (hn : l.most = some n) (hn2 : n ≤ sizeLine) (hdf : d.params.defaults = []) (hr : Room k callerA)
    (F : ∀ (w : World) (mg : Str → Option Value) (fa : Addr) (h : Heap), YP w h → h.Ns mainGlobals mg → mg d.name = some (.ref fa) →
      ∃ (K : PySem.W.Frag) (fd : FuncData) (sp : Sp), K.In h ∧ (∀ (s : Shared) (u : Value), BindsTo s fd ⟨[u], []⟩ [(x, u)]) ∧
        (∀ (H : Hp) (a : Addr) (ns : List Int), ns.length ≤ n → Only H → SqL K H a (ns.map V.int) → sp [.ref a] H (fun v _ => v = .bl true) fun _ _ _ => False) ∧
        ∀ base : Heap, K.In base → base.Ns mainGlobals mg → BX.FnOkG l.prog w K mg base CX k fa fd [x] sp)
    (hCX : ∀ (H : Hp) (s : Shared) (e : Value) (s' : Shared), CX [] H s (fun _ _ _ => False) e s' → False) :
    PySem.W.WalkO q loose XP YP l.row.toRowW d [] (fun f vs => PySem.call f vs) := by
  refine Att.attach_call hn hdf fun w s0 s1 mg mb fa o pm cd doc a vs ns G Y ho hd hcd hmg hobj hints hlen hg => ?_
  obtain ⟨K, fd, sp, KX, hb, hsp, hF⟩ := F w mg fa _ Y G.T.g hmg
  exact BX.law_callG KX G.T.g G.T.b G.T.builtins G.T.nolimit hg hobj hints (Nat.le_trans hlen hn2) hr hF hb (fun H hO hS => hsp H a ns hlen hO hS) fun H e s' => hCX H s1 e s'
end Hk

set_option Elab.async false
set_option linter.all false
set_option maxRecDepth 100000
set_option maxHeartbeats 8000000
namespace K06
open PySem PySem.Spec PyProof.Rows L2 BX EXB Co Ru
open Dz Cs Hr
theorem all_mk {l : PySem.W.OpenLaw} {w : World} {K : PySem.W.Frag} {h : Heap} {mg : Str → Option Value} {fa f_d_is_whole f_d_is_ratio f_d_plus f_d_lowest f_d_divisor f_d_is_list_of f_d_is_share f_d_is_ratio_row f_d_wrong_row f_d_copied_rows f_d_check_shares f_d_check_gains f_d_law_left f_d_law_digit f_d_law_low f_d_law_plus f_d_law_shares f_d_law_gain f_d_law_gains f_d_law_parts f_d_law_changed f_d_law_text f_d_law_copy f_d_law_is f_d_law_shared f_d_law_later f_d_law f_d_total C_N f_i_N C_C f_m_C_init f_m_C_eq f_m_C_worlds f_m_C_deeds f_m_C_shares f_m_C_hearer f_m_C_teller f_m_C_with_shares f_m_C_len f_m_C_str f_m_C_repr : Addr} (X : K.In h) (G : h.Ns mainGlobals mg) (hfa : mg "law" = some (.ref fa)) {fd_d_total : FuncData} {nm_N q_N : Str} {N_N : Addr} {bs_N : List Value} {sn_N : List Str} {su_N : List Value} {ab_N : Bool} {co_N : Option Bool} {dd_N : Option Addr} {m0_N m1_N m2_N m3_N m5_N : Option Value} {nm_C q_C : Str} {nw_C : String} {N_C : Addr} {bs_C : List Value} {hc_C : Bool} {sn_C : List Str} {su_C : List Value} {ab_C : Bool} {co_C : Option Bool} {dd_C : Option Addr} {m0_C m1_C m2_C m3_C m5_C : Option Value} {tk5 : Tok} {tk6 : Tok}
    {od_d_is_whole an_d_is_whole : Option Addr} {sl_d_is_whole : Array (Option Value)} {oc_d_is_whole kV_d_is_whole dc_d_is_whole pm_d_is_whole cd_d_is_whole ct_d_is_whole : Value}
    {od_d_is_ratio an_d_is_ratio : Option Addr} {sl_d_is_ratio : Array (Option Value)} {oc_d_is_ratio kV_d_is_ratio dc_d_is_ratio pm_d_is_ratio cd_d_is_ratio ct_d_is_ratio : Value}
    {od_d_plus an_d_plus : Option Addr} {sl_d_plus : Array (Option Value)} {oc_d_plus kV_d_plus dc_d_plus pm_d_plus cd_d_plus ct_d_plus : Value}
    {od_d_lowest an_d_lowest : Option Addr} {sl_d_lowest : Array (Option Value)} {oc_d_lowest kV_d_lowest dc_d_lowest pm_d_lowest cd_d_lowest ct_d_lowest : Value}
    {od_d_divisor an_d_divisor : Option Addr} {sl_d_divisor : Array (Option Value)} {oc_d_divisor kV_d_divisor dc_d_divisor pm_d_divisor cd_d_divisor ct_d_divisor : Value}
    {od_d_is_list_of an_d_is_list_of : Option Addr} {sl_d_is_list_of : Array (Option Value)} {oc_d_is_list_of kV_d_is_list_of dc_d_is_list_of pm_d_is_list_of cd_d_is_list_of ct_d_is_list_of : Value}
    {od_d_is_share an_d_is_share : Option Addr} {sl_d_is_share : Array (Option Value)} {oc_d_is_share kV_d_is_share dc_d_is_share pm_d_is_share cd_d_is_share ct_d_is_share : Value}
    {od_d_is_ratio_row an_d_is_ratio_row : Option Addr} {sl_d_is_ratio_row : Array (Option Value)} {oc_d_is_ratio_row kV_d_is_ratio_row dc_d_is_ratio_row pm_d_is_ratio_row cd_d_is_ratio_row ct_d_is_ratio_row : Value}
    {od_d_wrong_row an_d_wrong_row : Option Addr} {sl_d_wrong_row : Array (Option Value)} {oc_d_wrong_row kV_d_wrong_row dc_d_wrong_row pm_d_wrong_row cd_d_wrong_row ct_d_wrong_row : Value}
    {od_d_copied_rows an_d_copied_rows : Option Addr} {sl_d_copied_rows : Array (Option Value)} {oc_d_copied_rows kV_d_copied_rows dc_d_copied_rows pm_d_copied_rows cd_d_copied_rows ct_d_copied_rows : Value}
    {od_d_check_shares an_d_check_shares : Option Addr} {sl_d_check_shares : Array (Option Value)} {oc_d_check_shares kV_d_check_shares dc_d_check_shares pm_d_check_shares cd_d_check_shares ct_d_check_shares : Value}
    {od_d_check_gains an_d_check_gains : Option Addr} {sl_d_check_gains : Array (Option Value)} {oc_d_check_gains kV_d_check_gains dc_d_check_gains pm_d_check_gains cd_d_check_gains ct_d_check_gains : Value}
    {od_d_law_left an_d_law_left : Option Addr} {sl_d_law_left : Array (Option Value)} {oc_d_law_left kV_d_law_left dc_d_law_left pm_d_law_left cd_d_law_left ct_d_law_left : Value}
    {od_d_law_digit an_d_law_digit : Option Addr} {sl_d_law_digit : Array (Option Value)} {oc_d_law_digit kV_d_law_digit dc_d_law_digit pm_d_law_digit cd_d_law_digit ct_d_law_digit : Value}
    {od_d_law_low an_d_law_low : Option Addr} {sl_d_law_low : Array (Option Value)} {oc_d_law_low kV_d_law_low dc_d_law_low pm_d_law_low cd_d_law_low ct_d_law_low : Value}
    {od_d_law_plus an_d_law_plus : Option Addr} {sl_d_law_plus : Array (Option Value)} {oc_d_law_plus kV_d_law_plus dc_d_law_plus pm_d_law_plus cd_d_law_plus ct_d_law_plus : Value}
    {od_d_law_shares an_d_law_shares : Option Addr} {sl_d_law_shares : Array (Option Value)} {oc_d_law_shares kV_d_law_shares dc_d_law_shares pm_d_law_shares cd_d_law_shares ct_d_law_shares : Value}
    {od_d_law_gain an_d_law_gain : Option Addr} {sl_d_law_gain : Array (Option Value)} {oc_d_law_gain kV_d_law_gain dc_d_law_gain pm_d_law_gain cd_d_law_gain ct_d_law_gain : Value}
    {od_d_law_gains an_d_law_gains : Option Addr} {sl_d_law_gains : Array (Option Value)} {oc_d_law_gains kV_d_law_gains dc_d_law_gains pm_d_law_gains cd_d_law_gains ct_d_law_gains : Value}
    {od_d_law_parts an_d_law_parts : Option Addr} {sl_d_law_parts : Array (Option Value)} {oc_d_law_parts kV_d_law_parts dc_d_law_parts pm_d_law_parts cd_d_law_parts ct_d_law_parts : Value}
    {od_d_law_changed an_d_law_changed : Option Addr} {sl_d_law_changed : Array (Option Value)} {oc_d_law_changed kV_d_law_changed dc_d_law_changed pm_d_law_changed cd_d_law_changed ct_d_law_changed : Value}
    {od_d_law_text an_d_law_text : Option Addr} {sl_d_law_text : Array (Option Value)} {oc_d_law_text kV_d_law_text dc_d_law_text pm_d_law_text cd_d_law_text ct_d_law_text : Value}
    {od_d_law_copy an_d_law_copy : Option Addr} {sl_d_law_copy : Array (Option Value)} {oc_d_law_copy kV_d_law_copy dc_d_law_copy pm_d_law_copy cd_d_law_copy ct_d_law_copy : Value}
    {od_d_law_is an_d_law_is : Option Addr} {sl_d_law_is : Array (Option Value)} {oc_d_law_is kV_d_law_is dc_d_law_is pm_d_law_is cd_d_law_is ct_d_law_is : Value}
    {od_d_law_shared an_d_law_shared : Option Addr} {sl_d_law_shared : Array (Option Value)} {oc_d_law_shared kV_d_law_shared dc_d_law_shared pm_d_law_shared cd_d_law_shared ct_d_law_shared : Value}
    {od_d_law_later an_d_law_later : Option Addr} {sl_d_law_later : Array (Option Value)} {oc_d_law_later kV_d_law_later dc_d_law_later pm_d_law_later cd_d_law_later ct_d_law_later : Value}
    {od_d_law an_d_law : Option Addr} {sl_d_law : Array (Option Value)} {oc_d_law kV_d_law dc_d_law pm_d_law cd_d_law ct_d_law : Value}
    {od_i_N an_i_N : Option Addr} {sl_i_N : Array (Option Value)} {oc_i_N kV_i_N dc_i_N pm_i_N cd_i_N ct_i_N : Value}
    {od_m_C_init an_m_C_init : Option Addr} {sl_m_C_init : Array (Option Value)} {oc_m_C_init kV_m_C_init dc_m_C_init pm_m_C_init cd_m_C_init ct_m_C_init : Value}
    {od_m_C_eq an_m_C_eq : Option Addr} {sl_m_C_eq : Array (Option Value)} {oc_m_C_eq kV_m_C_eq dc_m_C_eq pm_m_C_eq cd_m_C_eq ct_m_C_eq : Value}
    {od_m_C_worlds an_m_C_worlds : Option Addr} {sl_m_C_worlds : Array (Option Value)} {oc_m_C_worlds kV_m_C_worlds dc_m_C_worlds pm_m_C_worlds cd_m_C_worlds ct_m_C_worlds : Value}
    {od_m_C_deeds an_m_C_deeds : Option Addr} {sl_m_C_deeds : Array (Option Value)} {oc_m_C_deeds kV_m_C_deeds dc_m_C_deeds pm_m_C_deeds cd_m_C_deeds ct_m_C_deeds : Value}
    {od_m_C_shares an_m_C_shares : Option Addr} {sl_m_C_shares : Array (Option Value)} {oc_m_C_shares kV_m_C_shares dc_m_C_shares pm_m_C_shares cd_m_C_shares ct_m_C_shares : Value}
    {od_m_C_hearer an_m_C_hearer : Option Addr} {sl_m_C_hearer : Array (Option Value)} {oc_m_C_hearer kV_m_C_hearer dc_m_C_hearer pm_m_C_hearer cd_m_C_hearer ct_m_C_hearer : Value}
    {od_m_C_teller an_m_C_teller : Option Addr} {sl_m_C_teller : Array (Option Value)} {oc_m_C_teller kV_m_C_teller dc_m_C_teller pm_m_C_teller cd_m_C_teller ct_m_C_teller : Value}
    {od_m_C_with_shares an_m_C_with_shares : Option Addr} {sl_m_C_with_shares : Array (Option Value)} {oc_m_C_with_shares kV_m_C_with_shares dc_m_C_with_shares pm_m_C_with_shares cd_m_C_with_shares ct_m_C_with_shares : Value}
    {od_m_C_len an_m_C_len : Option Addr} {sl_m_C_len : Array (Option Value)} {oc_m_C_len kV_m_C_len dc_m_C_len pm_m_C_len cd_m_C_len ct_m_C_len : Value}
    {od_m_C_str an_m_C_str : Option Addr} {sl_m_C_str : Array (Option Value)} {oc_m_C_str kV_m_C_str dc_m_C_str pm_m_C_str cd_m_C_str ct_m_C_str : Value}
    {od_m_C_repr an_m_C_repr : Option Addr} {sl_m_C_repr : Array (Option Value)} {oc_m_C_repr kV_m_C_repr dc_m_C_repr pm_m_C_repr cd_m_C_repr ct_m_C_repr : Value}
    (a_d_is_whole : PySem.W.nsIn K mainGlobals "is_whole" = some (some (.ref f_d_is_whole)))
    (l_d_is_whole : K.lookup f_d_is_whole = some ⟨oc_d_is_whole, od_d_is_whole, .func (PySem.W.fnOf "is_whole" "is_whole" (defArgs sWhole) (defBody sWhole) (defScope sWhole) .none kV_d_is_whole dc_d_is_whole pm_d_is_whole an_d_is_whole cd_d_is_whole ct_d_is_whole), sl_d_is_whole⟩)
    (c_d_is_whole : PySem.W.codeIn K cd_d_is_whole "is_whole" = true)
    (k_d_is_whole : PySem.W.keepIn K (.ref f_d_is_whole) = true)
    (a_d_is_ratio : PySem.W.nsIn K mainGlobals "is_ratio" = some (some (.ref f_d_is_ratio)))
    (l_d_is_ratio : K.lookup f_d_is_ratio = some ⟨oc_d_is_ratio, od_d_is_ratio, .func (PySem.W.fnOf "is_ratio" "is_ratio" (defArgs sIsR) (defBody sIsR) (defScope sIsR) .none kV_d_is_ratio dc_d_is_ratio pm_d_is_ratio an_d_is_ratio cd_d_is_ratio ct_d_is_ratio), sl_d_is_ratio⟩)
    (c_d_is_ratio : PySem.W.codeIn K cd_d_is_ratio "is_ratio" = true)
    (k_d_is_ratio : PySem.W.keepIn K (.ref f_d_is_ratio) = true)
    (a_d_plus : PySem.W.nsIn K mainGlobals "plus" = some (some (.ref f_d_plus)))
    (l_d_plus : K.lookup f_d_plus = some ⟨oc_d_plus, od_d_plus, .func (PySem.W.fnOf "plus" "plus" (defArgs sPlus) (defBody sPlus) (defScope sPlus) .none kV_d_plus dc_d_plus pm_d_plus an_d_plus cd_d_plus ct_d_plus), sl_d_plus⟩)
    (c_d_plus : PySem.W.codeIn K cd_d_plus "plus" = true)
    (k_d_plus : PySem.W.keepIn K (.ref f_d_plus) = true)
    (a_d_lowest : PySem.W.nsIn K mainGlobals "lowest" = some (some (.ref f_d_lowest)))
    (l_d_lowest : K.lookup f_d_lowest = some ⟨oc_d_lowest, od_d_lowest, .func (PySem.W.fnOf "lowest" "lowest" (defArgs sLowest) (defBody sLowest) (defScope sLowest) .none kV_d_lowest dc_d_lowest pm_d_lowest an_d_lowest cd_d_lowest ct_d_lowest), sl_d_lowest⟩)
    (c_d_lowest : PySem.W.codeIn K cd_d_lowest "lowest" = true)
    (k_d_lowest : PySem.W.keepIn K (.ref f_d_lowest) = true)
    (a_d_divisor : PySem.W.nsIn K mainGlobals "divisor" = some (some (.ref f_d_divisor)))
    (l_d_divisor : K.lookup f_d_divisor = some ⟨oc_d_divisor, od_d_divisor, .func (PySem.W.fnOf "divisor" "divisor" (defArgs sDiv) (defBody sDiv) (defScope sDiv) .none kV_d_divisor dc_d_divisor pm_d_divisor an_d_divisor cd_d_divisor ct_d_divisor), sl_d_divisor⟩)
    (c_d_divisor : PySem.W.codeIn K cd_d_divisor "divisor" = true)
    (k_d_divisor : PySem.W.keepIn K (.ref f_d_divisor) = true)
    (a_d_is_list_of : PySem.W.nsIn K mainGlobals "is_list_of" = some (some (.ref f_d_is_list_of)))
    (l_d_is_list_of : K.lookup f_d_is_list_of = some ⟨oc_d_is_list_of, od_d_is_list_of, .func (PySem.W.fnOf "is_list_of" "is_list_of" (defArgs sListOf) (defBody sListOf) (defScope sListOf) .none kV_d_is_list_of dc_d_is_list_of pm_d_is_list_of an_d_is_list_of cd_d_is_list_of ct_d_is_list_of), sl_d_is_list_of⟩)
    (c_d_is_list_of : PySem.W.codeIn K cd_d_is_list_of "is_list_of" = true)
    (k_d_is_list_of : PySem.W.keepIn K (.ref f_d_is_list_of) = true)
    (a_d_is_share : PySem.W.nsIn K mainGlobals "is_share" = some (some (.ref f_d_is_share)))
    (l_d_is_share : K.lookup f_d_is_share = some ⟨oc_d_is_share, od_d_is_share, .func (PySem.W.fnOf "is_share" "is_share" (defArgs sShare) (defBody sShare) (defScope sShare) .none kV_d_is_share dc_d_is_share pm_d_is_share an_d_is_share cd_d_is_share ct_d_is_share), sl_d_is_share⟩)
    (c_d_is_share : PySem.W.codeIn K cd_d_is_share "is_share" = true)
    (k_d_is_share : PySem.W.keepIn K (.ref f_d_is_share) = true)
    (a_d_is_ratio_row : PySem.W.nsIn K mainGlobals "is_ratio_row" = some (some (.ref f_d_is_ratio_row)))
    (l_d_is_ratio_row : K.lookup f_d_is_ratio_row = some ⟨oc_d_is_ratio_row, od_d_is_ratio_row, .func (PySem.W.fnOf "is_ratio_row" "is_ratio_row" (defArgs sRRow) (defBody sRRow) (defScope sRRow) .none kV_d_is_ratio_row dc_d_is_ratio_row pm_d_is_ratio_row an_d_is_ratio_row cd_d_is_ratio_row ct_d_is_ratio_row), sl_d_is_ratio_row⟩)
    (c_d_is_ratio_row : PySem.W.codeIn K cd_d_is_ratio_row "is_ratio_row" = true)
    (k_d_is_ratio_row : PySem.W.keepIn K (.ref f_d_is_ratio_row) = true)
    (a_d_wrong_row : PySem.W.nsIn K mainGlobals "wrong_row" = some (some (.ref f_d_wrong_row)))
    (l_d_wrong_row : K.lookup f_d_wrong_row = some ⟨oc_d_wrong_row, od_d_wrong_row, .func (PySem.W.fnOf "wrong_row" "wrong_row" (defArgs sWrong) (defBody sWrong) (defScope sWrong) .none kV_d_wrong_row dc_d_wrong_row pm_d_wrong_row an_d_wrong_row cd_d_wrong_row ct_d_wrong_row), sl_d_wrong_row⟩)
    (c_d_wrong_row : PySem.W.codeIn K cd_d_wrong_row "wrong_row" = true)
    (k_d_wrong_row : PySem.W.keepIn K (.ref f_d_wrong_row) = true)
    (a_d_copied_rows : PySem.W.nsIn K mainGlobals "copied_rows" = some (some (.ref f_d_copied_rows)))
    (l_d_copied_rows : K.lookup f_d_copied_rows = some ⟨oc_d_copied_rows, od_d_copied_rows, .func (PySem.W.fnOf "copied_rows" "copied_rows" (defArgs sCopied) (defBody sCopied) (defScope sCopied) .none kV_d_copied_rows dc_d_copied_rows pm_d_copied_rows an_d_copied_rows cd_d_copied_rows ct_d_copied_rows), sl_d_copied_rows⟩)
    (c_d_copied_rows : PySem.W.codeIn K cd_d_copied_rows "copied_rows" = true)
    (k_d_copied_rows : PySem.W.keepIn K (.ref f_d_copied_rows) = true)
    (a_d_check_shares : PySem.W.nsIn K mainGlobals "check_shares" = some (some (.ref f_d_check_shares)))
    (l_d_check_shares : K.lookup f_d_check_shares = some ⟨oc_d_check_shares, od_d_check_shares, .func (PySem.W.fnOf "check_shares" "check_shares" (defArgs sChkS) (defBody sChkS) (defScope sChkS) .none kV_d_check_shares dc_d_check_shares pm_d_check_shares an_d_check_shares cd_d_check_shares ct_d_check_shares), sl_d_check_shares⟩)
    (c_d_check_shares : PySem.W.codeIn K cd_d_check_shares "check_shares" = true)
    (k_d_check_shares : PySem.W.keepIn K (.ref f_d_check_shares) = true)
    (a_d_check_gains : PySem.W.nsIn K mainGlobals "check_gains" = some (some (.ref f_d_check_gains)))
    (l_d_check_gains : K.lookup f_d_check_gains = some ⟨oc_d_check_gains, od_d_check_gains, .func (PySem.W.fnOf "check_gains" "check_gains" (defArgs sChkG) (defBody sChkG) (defScope sChkG) .none kV_d_check_gains dc_d_check_gains pm_d_check_gains an_d_check_gains cd_d_check_gains ct_d_check_gains), sl_d_check_gains⟩)
    (c_d_check_gains : PySem.W.codeIn K cd_d_check_gains "check_gains" = true)
    (k_d_check_gains : PySem.W.keepIn K (.ref f_d_check_gains) = true)
    (a_d_law_left : PySem.W.nsIn K mainGlobals "_law_left" = some (some (.ref f_d_law_left)))
    (l_d_law_left : K.lookup f_d_law_left = some ⟨oc_d_law_left, od_d_law_left, .func (PySem.W.fnOf "_law_left" "_law_left" (defArgs sLeft) (defBody sLeft) (defScope sLeft) .none kV_d_law_left dc_d_law_left pm_d_law_left an_d_law_left cd_d_law_left ct_d_law_left), sl_d_law_left⟩)
    (c_d_law_left : PySem.W.codeIn K cd_d_law_left "_law_left" = true)
    (k_d_law_left : PySem.W.keepIn K (.ref f_d_law_left) = true)
    (a_d_law_digit : PySem.W.nsIn K mainGlobals "_law_digit" = some (some (.ref f_d_law_digit)))
    (l_d_law_digit : K.lookup f_d_law_digit = some ⟨oc_d_law_digit, od_d_law_digit, .func (PySem.W.fnOf "_law_digit" "_law_digit" (defArgs sDigit) (defBody sDigit) (defScope sDigit) .none kV_d_law_digit dc_d_law_digit pm_d_law_digit an_d_law_digit cd_d_law_digit ct_d_law_digit), sl_d_law_digit⟩)
    (c_d_law_digit : PySem.W.codeIn K cd_d_law_digit "_law_digit" = true)
    (k_d_law_digit : PySem.W.keepIn K (.ref f_d_law_digit) = true)
    (a_d_law_low : PySem.W.nsIn K mainGlobals "_law_low" = some (some (.ref f_d_law_low)))
    (l_d_law_low : K.lookup f_d_law_low = some ⟨oc_d_law_low, od_d_law_low, .func (PySem.W.fnOf "_law_low" "_law_low" (defArgs sLow) (defBody sLow) (defScope sLow) .none kV_d_law_low dc_d_law_low pm_d_law_low an_d_law_low cd_d_law_low ct_d_law_low), sl_d_law_low⟩)
    (c_d_law_low : PySem.W.codeIn K cd_d_law_low "_law_low" = true)
    (k_d_law_low : PySem.W.keepIn K (.ref f_d_law_low) = true)
    (a_d_law_plus : PySem.W.nsIn K mainGlobals "_law_plus" = some (some (.ref f_d_law_plus)))
    (l_d_law_plus : K.lookup f_d_law_plus = some ⟨oc_d_law_plus, od_d_law_plus, .func (PySem.W.fnOf "_law_plus" "_law_plus" (defArgs sLPlus) (defBody sLPlus) (defScope sLPlus) .none kV_d_law_plus dc_d_law_plus pm_d_law_plus an_d_law_plus cd_d_law_plus ct_d_law_plus), sl_d_law_plus⟩)
    (c_d_law_plus : PySem.W.codeIn K cd_d_law_plus "_law_plus" = true)
    (k_d_law_plus : PySem.W.keepIn K (.ref f_d_law_plus) = true)
    (a_d_law_shares : PySem.W.nsIn K mainGlobals "_law_shares" = some (some (.ref f_d_law_shares)))
    (l_d_law_shares : K.lookup f_d_law_shares = some ⟨oc_d_law_shares, od_d_law_shares, .func (PySem.W.fnOf "_law_shares" "_law_shares" (defArgs sShares) (defBody sShares) (defScope sShares) .none kV_d_law_shares dc_d_law_shares pm_d_law_shares an_d_law_shares cd_d_law_shares ct_d_law_shares), sl_d_law_shares⟩)
    (c_d_law_shares : PySem.W.codeIn K cd_d_law_shares "_law_shares" = true)
    (k_d_law_shares : PySem.W.keepIn K (.ref f_d_law_shares) = true)
    (a_d_law_gain : PySem.W.nsIn K mainGlobals "_law_gain" = some (some (.ref f_d_law_gain)))
    (l_d_law_gain : K.lookup f_d_law_gain = some ⟨oc_d_law_gain, od_d_law_gain, .func (PySem.W.fnOf "_law_gain" "_law_gain" (defArgs sGain) (defBody sGain) (defScope sGain) .none kV_d_law_gain dc_d_law_gain pm_d_law_gain an_d_law_gain cd_d_law_gain ct_d_law_gain), sl_d_law_gain⟩)
    (c_d_law_gain : PySem.W.codeIn K cd_d_law_gain "_law_gain" = true)
    (k_d_law_gain : PySem.W.keepIn K (.ref f_d_law_gain) = true)
    (a_d_law_gains : PySem.W.nsIn K mainGlobals "_law_gains" = some (some (.ref f_d_law_gains)))
    (l_d_law_gains : K.lookup f_d_law_gains = some ⟨oc_d_law_gains, od_d_law_gains, .func (PySem.W.fnOf "_law_gains" "_law_gains" (defArgs sGains) (defBody sGains) (defScope sGains) .none kV_d_law_gains dc_d_law_gains pm_d_law_gains an_d_law_gains cd_d_law_gains ct_d_law_gains), sl_d_law_gains⟩)
    (c_d_law_gains : PySem.W.codeIn K cd_d_law_gains "_law_gains" = true)
    (k_d_law_gains : PySem.W.keepIn K (.ref f_d_law_gains) = true)
    (a_d_law_parts : PySem.W.nsIn K mainGlobals "_law_parts" = some (some (.ref f_d_law_parts)))
    (l_d_law_parts : K.lookup f_d_law_parts = some ⟨oc_d_law_parts, od_d_law_parts, .func (PySem.W.fnOf "_law_parts" "_law_parts" (defArgs sParts) (defBody sParts) (defScope sParts) .none kV_d_law_parts dc_d_law_parts pm_d_law_parts an_d_law_parts cd_d_law_parts ct_d_law_parts), sl_d_law_parts⟩)
    (c_d_law_parts : PySem.W.codeIn K cd_d_law_parts "_law_parts" = true)
    (k_d_law_parts : PySem.W.keepIn K (.ref f_d_law_parts) = true)
    (a_d_law_changed : PySem.W.nsIn K mainGlobals "_law_changed" = some (some (.ref f_d_law_changed)))
    (l_d_law_changed : K.lookup f_d_law_changed = some ⟨oc_d_law_changed, od_d_law_changed, .func (PySem.W.fnOf "_law_changed" "_law_changed" (defArgs sChg06) (defBody sChg06) (defScope sChg06) .none kV_d_law_changed dc_d_law_changed pm_d_law_changed an_d_law_changed cd_d_law_changed ct_d_law_changed), sl_d_law_changed⟩)
    (c_d_law_changed : PySem.W.codeIn K cd_d_law_changed "_law_changed" = true)
    (k_d_law_changed : PySem.W.keepIn K (.ref f_d_law_changed) = true)
    (a_d_law_text : PySem.W.nsIn K mainGlobals "_law_text" = some (some (.ref f_d_law_text)))
    (l_d_law_text : K.lookup f_d_law_text = some ⟨oc_d_law_text, od_d_law_text, .func (PySem.W.fnOf "_law_text" "_law_text" (defArgs sTxt06) (defBody sTxt06) (defScope sTxt06) .none kV_d_law_text dc_d_law_text pm_d_law_text an_d_law_text cd_d_law_text ct_d_law_text), sl_d_law_text⟩)
    (c_d_law_text : PySem.W.codeIn K cd_d_law_text "_law_text" = true)
    (k_d_law_text : PySem.W.keepIn K (.ref f_d_law_text) = true)
    (a_d_law_copy : PySem.W.nsIn K mainGlobals "_law_copy" = some (some (.ref f_d_law_copy)))
    (l_d_law_copy : K.lookup f_d_law_copy = some ⟨oc_d_law_copy, od_d_law_copy, .func (PySem.W.fnOf "_law_copy" "_law_copy" (defArgs sCopy06) (defBody sCopy06) (defScope sCopy06) .none kV_d_law_copy dc_d_law_copy pm_d_law_copy an_d_law_copy cd_d_law_copy ct_d_law_copy), sl_d_law_copy⟩)
    (c_d_law_copy : PySem.W.codeIn K cd_d_law_copy "_law_copy" = true)
    (k_d_law_copy : PySem.W.keepIn K (.ref f_d_law_copy) = true)
    (a_d_law_is : PySem.W.nsIn K mainGlobals "_law_is" = some (some (.ref f_d_law_is)))
    (l_d_law_is : K.lookup f_d_law_is = some ⟨oc_d_law_is, od_d_law_is, .func (PySem.W.fnOf "_law_is" "_law_is" (defArgs sIs06) (defBody sIs06) (defScope sIs06) .none kV_d_law_is dc_d_law_is pm_d_law_is an_d_law_is cd_d_law_is ct_d_law_is), sl_d_law_is⟩)
    (c_d_law_is : PySem.W.codeIn K cd_d_law_is "_law_is" = true)
    (k_d_law_is : PySem.W.keepIn K (.ref f_d_law_is) = true)
    (a_d_law_shared : PySem.W.nsIn K mainGlobals "_law_shared" = some (some (.ref f_d_law_shared)))
    (l_d_law_shared : K.lookup f_d_law_shared = some ⟨oc_d_law_shared, od_d_law_shared, .func (PySem.W.fnOf "_law_shared" "_law_shared" (defArgs sShd06) (defBody sShd06) (defScope sShd06) .none kV_d_law_shared dc_d_law_shared pm_d_law_shared an_d_law_shared cd_d_law_shared ct_d_law_shared), sl_d_law_shared⟩)
    (c_d_law_shared : PySem.W.codeIn K cd_d_law_shared "_law_shared" = true)
    (k_d_law_shared : PySem.W.keepIn K (.ref f_d_law_shared) = true)
    (a_d_law_later : PySem.W.nsIn K mainGlobals "_law_later" = some (some (.ref f_d_law_later)))
    (l_d_law_later : K.lookup f_d_law_later = some ⟨oc_d_law_later, od_d_law_later, .func (PySem.W.fnOf "_law_later" "_law_later" (defArgs sLtr06) (defBody sLtr06) (defScope sLtr06) .none kV_d_law_later dc_d_law_later pm_d_law_later an_d_law_later cd_d_law_later ct_d_law_later), sl_d_law_later⟩)
    (c_d_law_later : PySem.W.codeIn K cd_d_law_later "_law_later" = true)
    (k_d_law_later : PySem.W.keepIn K (.ref f_d_law_later) = true)
    (a_d_law : PySem.W.nsIn K mainGlobals "law" = some (some (.ref f_d_law)))
    (l_d_law : K.lookup f_d_law = some ⟨oc_d_law, od_d_law, .func (PySem.W.fnOf "law" "law" (defArgs sLaw) (defBody sLaw) (defScope sLaw) .none kV_d_law dc_d_law pm_d_law an_d_law cd_d_law ct_d_law), sl_d_law⟩)
    (c_d_law : PySem.W.codeIn K cd_d_law "law" = true)
    (k_d_law : PySem.W.keepIn K (.ref f_d_law) = true)
    (a_d_total : PySem.W.nsIn K mainGlobals "total" = some (some (.ref f_d_total)))
    (FD_d_total : FunD K "total" "total" (defArgs sTotal) (defBody sTotal) (defScope sTotal) [V.non] [] f_d_total fd_d_total)
    (aC_N : PySem.W.nsIn K mainGlobals "NoCase" = some (some (.ref C_N)))
    (xC_N : K.lookup C_N = some (excClassObj nm_N q_N C_N N_N bs_N [.type "ValueError", .type "Exception", .type "BaseException", .type "object"] true sn_N su_N ab_N co_N dd_N m0_N m1_N m2_N m3_N m5_N "ValueError.__new__"))
    (sa_N : PySem.W.findIn K (.ref C_N) "__setattr__" = some (some (.builtin "object.__setattr__")))
    (ga_N : PySem.W.findIn K (.ref C_N) "__getattribute__" = some (some (.builtin "BaseException.__getattribute__")))
    (gg_N : PySem.W.findIn K (.ref C_N) "__getattr__" = some none)
    (cl_N : PySem.W.findIn K (.ref C_N) "__class__" = some (some (.builtin "object.__class__")))
    (mo_N : PySem.W.mroIn K C_N (.type "object") = some true)
    (kC_N : PySem.W.keepIn K (.ref C_N) = true)
    (eC_N : PySem.W.subIn K (.ref C_N) (.type "BaseException") = some true)
    (tC_N : PySem.W.typeIn K (.ref C_N) = some (.type "type"))
    (hd_N : PySem.W.hasDictIn K C_N = true)
    (vV_N : PySem.W.findCls K (.type "ValueError") (.type "type") "__init__" = some (.val (.builtin "ValueError.__init__")))
    (sp_ : PySem.W.specialIn K (.builtin "object.__class__") "__get__" = some (some (.builtin "getset_descriptor.__get__")))
    (tk_ : PySem.W.takesIn K (.builtin "object.__class__") = some true)
    (i_i_N : PySem.W.findIn K (.ref C_N) "__init__" = some (some (.ref f_i_N)))
    (ty_i_N : PySem.W.typeIn K (.ref f_i_N) = some (.type "function"))
    (l_i_N : K.lookup f_i_N = some ⟨oc_i_N, od_i_N, .func (PySem.W.fnOf "__init__" "NoCase.__init__" (defArgs sNcInit) (defBody sNcInit) (defScope sNcInit) .none kV_i_N dc_i_N pm_i_N an_i_N cd_i_N ct_i_N), sl_i_N⟩)
    (c_i_N : PySem.W.codeIn K cd_i_N "NoCase.__init__" = true)
    (k_i_N : PySem.W.keepIn K (.ref f_i_N) = true)
    (no_N_part : PySem.W.findIn K (.ref C_N) "part" = some none)
    (no_N_number : PySem.W.findIn K (.ref C_N) "number" = some none)
    (sb_N_N : PySem.W.subIn K (.ref C_N) (.ref C_N) = some true)
    (kt_N_ValueError : PySem.W.kitOne K (.ref C_N) (.type "ValueError") = some true)
    (aC_C : PySem.W.nsIn K mainGlobals "Case" = some (some (.ref C_C)))
    (pg_C : PySem.W.plainGet K C_C Str.empty = true)
    (hd_C : PySem.W.hasDictIn K C_C = true)
    (po_C : PySem.W.plainOver K C_C = true)
    (sa_C : PySem.W.findIn K (.ref C_C) "__setattr__" = some (some (.builtin "object.__setattr__")))
    (mk_C : PySem.W.makesIn K C_C = true)
    (kC_C : PySem.W.keepIn K (.ref C_C) = true)
    (xC_C : K.lookup C_C = some (excClassObj nm_C q_C C_C N_C bs_C [.type "object"] hc_C sn_C su_C ab_C co_C dd_C m0_C m1_C m2_C m3_C m5_C nw_C))
    (ne_C : PySem.W.nsIn K N_C "__ne__" = some none)
    (ha_C : PySem.W.findIn K (.ref C_C) "__class__" = some (some (.builtin "object.__class__")))
    (hm_C : PySem.W.mroIn K C_C (.type "object") = some true)
    (kt_C : PySem.W.kitOne K (.ref C_C) (.ref C_C) = some true)
    (no_C : PySem.W.nsOkIn K N_C = true)
    (i_m_C_init : PySem.W.findIn K (.ref C_C) "__init__" = some (some (.ref f_m_C_init)))
    (fn_m_C_init : PySem.W.isFn K (.ref f_m_C_init) = true)
    (l_m_C_init : K.lookup f_m_C_init = some ⟨oc_m_C_init, od_m_C_init, .func (PySem.W.fnOf "__init__" "Case.__init__" (defArgs sCInit) (defBody sCInit) (defScope sCInit) .none kV_m_C_init dc_m_C_init pm_m_C_init an_m_C_init cd_m_C_init ct_m_C_init), sl_m_C_init⟩)
    (c_m_C_init : PySem.W.codeIn K cd_m_C_init "Case.__init__" = true)
    (k_m_C_init : PySem.W.keepIn K (.ref f_m_C_init) = true)
    (no_own_shares : PySem.W.findIn K (.ref C_C) "own_shares" = some none)
    (no_own_hearer : PySem.W.findIn K (.ref C_C) "own_hearer" = some none)
    (no_own_teller : PySem.W.findIn K (.ref C_C) "own_teller" = some none)
    (g5_ : PySem.W.nsIn K mainGlobals "MOST_WORLDS" = some (some (.int 5 tk5)))
    (g6_ : PySem.W.nsIn K mainGlobals "MOST_DEEDS" = some (some (.int 6 tk6)))
    (i_m_C_eq : PySem.W.findIn K (.ref C_C) "__eq__" = some (some (.ref f_m_C_eq)))
    (fn_m_C_eq : PySem.W.isFn K (.ref f_m_C_eq) = true)
    (l_m_C_eq : K.lookup f_m_C_eq = some ⟨oc_m_C_eq, od_m_C_eq, .func (PySem.W.fnOf "__eq__" "Case.__eq__" (defArgs sCEq) (defBody sCEq) (defScope sCEq) .none kV_m_C_eq dc_m_C_eq pm_m_C_eq an_m_C_eq cd_m_C_eq ct_m_C_eq), sl_m_C_eq⟩)
    (c_m_C_eq : PySem.W.codeIn K cd_m_C_eq "Case.__eq__" = true)
    (k_m_C_eq : PySem.W.keepIn K (.ref f_m_C_eq) = true)
    (nq_m_C_eq : PySem.W.nsIn K N_C "__eq__" = some (some (.ref f_m_C_eq)))
    (oq_m_C_eq : oc_m_C_eq = .type "function")
    (i_m_C_worlds : PySem.W.findIn K (.ref C_C) "worlds" = some (some (.ref f_m_C_worlds)))
    (fn_m_C_worlds : PySem.W.isFn K (.ref f_m_C_worlds) = true)
    (l_m_C_worlds : K.lookup f_m_C_worlds = some ⟨oc_m_C_worlds, od_m_C_worlds, .func (PySem.W.fnOf "worlds" "Case.worlds" (defArgs sCWorlds) (defBody sCWorlds) (defScope sCWorlds) .none kV_m_C_worlds dc_m_C_worlds pm_m_C_worlds an_m_C_worlds cd_m_C_worlds ct_m_C_worlds), sl_m_C_worlds⟩)
    (c_m_C_worlds : PySem.W.codeIn K cd_m_C_worlds "Case.worlds" = true)
    (k_m_C_worlds : PySem.W.keepIn K (.ref f_m_C_worlds) = true)
    (i_m_C_deeds : PySem.W.findIn K (.ref C_C) "deeds" = some (some (.ref f_m_C_deeds)))
    (fn_m_C_deeds : PySem.W.isFn K (.ref f_m_C_deeds) = true)
    (l_m_C_deeds : K.lookup f_m_C_deeds = some ⟨oc_m_C_deeds, od_m_C_deeds, .func (PySem.W.fnOf "deeds" "Case.deeds" (defArgs sCDeeds) (defBody sCDeeds) (defScope sCDeeds) .none kV_m_C_deeds dc_m_C_deeds pm_m_C_deeds an_m_C_deeds cd_m_C_deeds ct_m_C_deeds), sl_m_C_deeds⟩)
    (c_m_C_deeds : PySem.W.codeIn K cd_m_C_deeds "Case.deeds" = true)
    (k_m_C_deeds : PySem.W.keepIn K (.ref f_m_C_deeds) = true)
    (i_m_C_shares : PySem.W.findIn K (.ref C_C) "shares" = some (some (.ref f_m_C_shares)))
    (fn_m_C_shares : PySem.W.isFn K (.ref f_m_C_shares) = true)
    (l_m_C_shares : K.lookup f_m_C_shares = some ⟨oc_m_C_shares, od_m_C_shares, .func (PySem.W.fnOf "shares" "Case.shares" (defArgs sCShares) (defBody sCShares) (defScope sCShares) .none kV_m_C_shares dc_m_C_shares pm_m_C_shares an_m_C_shares cd_m_C_shares ct_m_C_shares), sl_m_C_shares⟩)
    (c_m_C_shares : PySem.W.codeIn K cd_m_C_shares "Case.shares" = true)
    (k_m_C_shares : PySem.W.keepIn K (.ref f_m_C_shares) = true)
    (i_m_C_hearer : PySem.W.findIn K (.ref C_C) "hearer" = some (some (.ref f_m_C_hearer)))
    (fn_m_C_hearer : PySem.W.isFn K (.ref f_m_C_hearer) = true)
    (l_m_C_hearer : K.lookup f_m_C_hearer = some ⟨oc_m_C_hearer, od_m_C_hearer, .func (PySem.W.fnOf "hearer" "Case.hearer" (defArgs sCHearer) (defBody sCHearer) (defScope sCHearer) .none kV_m_C_hearer dc_m_C_hearer pm_m_C_hearer an_m_C_hearer cd_m_C_hearer ct_m_C_hearer), sl_m_C_hearer⟩)
    (c_m_C_hearer : PySem.W.codeIn K cd_m_C_hearer "Case.hearer" = true)
    (k_m_C_hearer : PySem.W.keepIn K (.ref f_m_C_hearer) = true)
    (i_m_C_teller : PySem.W.findIn K (.ref C_C) "teller" = some (some (.ref f_m_C_teller)))
    (fn_m_C_teller : PySem.W.isFn K (.ref f_m_C_teller) = true)
    (l_m_C_teller : K.lookup f_m_C_teller = some ⟨oc_m_C_teller, od_m_C_teller, .func (PySem.W.fnOf "teller" "Case.teller" (defArgs sCTeller) (defBody sCTeller) (defScope sCTeller) .none kV_m_C_teller dc_m_C_teller pm_m_C_teller an_m_C_teller cd_m_C_teller ct_m_C_teller), sl_m_C_teller⟩)
    (c_m_C_teller : PySem.W.codeIn K cd_m_C_teller "Case.teller" = true)
    (k_m_C_teller : PySem.W.keepIn K (.ref f_m_C_teller) = true)
    (i_m_C_with_shares : PySem.W.findIn K (.ref C_C) "with_shares" = some (some (.ref f_m_C_with_shares)))
    (fn_m_C_with_shares : PySem.W.isFn K (.ref f_m_C_with_shares) = true)
    (l_m_C_with_shares : K.lookup f_m_C_with_shares = some ⟨oc_m_C_with_shares, od_m_C_with_shares, .func (PySem.W.fnOf "with_shares" "Case.with_shares" (defArgs sCWith) (defBody sCWith) (defScope sCWith) .none kV_m_C_with_shares dc_m_C_with_shares pm_m_C_with_shares an_m_C_with_shares cd_m_C_with_shares ct_m_C_with_shares), sl_m_C_with_shares⟩)
    (c_m_C_with_shares : PySem.W.codeIn K cd_m_C_with_shares "Case.with_shares" = true)
    (k_m_C_with_shares : PySem.W.keepIn K (.ref f_m_C_with_shares) = true)
    (i_m_C_len : PySem.W.findIn K (.ref C_C) "__len__" = some (some (.ref f_m_C_len)))
    (fn_m_C_len : PySem.W.isFn K (.ref f_m_C_len) = true)
    (l_m_C_len : K.lookup f_m_C_len = some ⟨oc_m_C_len, od_m_C_len, .func (PySem.W.fnOf "__len__" "Case.__len__" (defArgs sCLen) (defBody sCLen) (defScope sCLen) .none kV_m_C_len dc_m_C_len pm_m_C_len an_m_C_len cd_m_C_len ct_m_C_len), sl_m_C_len⟩)
    (c_m_C_len : PySem.W.codeIn K cd_m_C_len "Case.__len__" = true)
    (k_m_C_len : PySem.W.keepIn K (.ref f_m_C_len) = true)
    (i_m_C_str : PySem.W.findIn K (.ref C_C) "__str__" = some (some (.ref f_m_C_str)))
    (fn_m_C_str : PySem.W.isFn K (.ref f_m_C_str) = true)
    (l_m_C_str : K.lookup f_m_C_str = some ⟨oc_m_C_str, od_m_C_str, .func (PySem.W.fnOf "__str__" "Case.__str__" (defArgs sCStr) (defBody sCStr) (defScope sCStr) .none kV_m_C_str dc_m_C_str pm_m_C_str an_m_C_str cd_m_C_str ct_m_C_str), sl_m_C_str⟩)
    (c_m_C_str : PySem.W.codeIn K cd_m_C_str "Case.__str__" = true)
    (k_m_C_str : PySem.W.keepIn K (.ref f_m_C_str) = true)
    (i_m_C_repr : PySem.W.findIn K (.ref C_C) "__repr__" = some (some (.ref f_m_C_repr)))
    (fn_m_C_repr : PySem.W.isFn K (.ref f_m_C_repr) = true)
    (l_m_C_repr : K.lookup f_m_C_repr = some ⟨oc_m_C_repr, od_m_C_repr, .func (PySem.W.fnOf "__repr__" "Case.__repr__" (defArgs sCRepr) (defBody sCRepr) (defScope sCRepr) .none kV_m_C_repr dc_m_C_repr pm_m_C_repr an_m_C_repr cd_m_C_repr ct_m_C_repr), sl_m_C_repr⟩)
    (c_m_C_repr : PySem.W.codeIn K cd_m_C_repr "Case.__repr__" = true)
    (k_m_C_repr : PySem.W.keepIn K (.ref f_m_C_repr) = true)
    (kC_NoneType : PySem.W.kitOne K (.type "NoneType") (.ref C_C) = some false)
    (kC_int : PySem.W.kitOne K (.type "int") (.ref C_C) = some false)
    (kC_list : PySem.W.kitOne K (.type "list") (.ref C_C) = some false)
    (kC_bool : PySem.W.kitOne K (.type "bool") (.ref C_C) = some false)
    (kC_str : PySem.W.kitOne K (.type "str") (.ref C_C) = some false)
    (kC_tuple : PySem.W.kitOne K (.type "tuple") (.ref C_C) = some false)
    (nn_C : PySem.W.mroIn K C_C (.type "NoneType") = some false)
    (z_abs : PySem.W.nsIn K mainGlobals "abs" = some none)
    (z_isinstance : PySem.W.nsIn K mainGlobals "isinstance" = some none)
    (z_int : PySem.W.nsIn K mainGlobals "int" = some none)
    (z_bool : PySem.W.nsIn K mainGlobals "bool" = some none)
    (z_tuple : PySem.W.nsIn K mainGlobals "tuple" = some none)
    (z_list : PySem.W.nsIn K mainGlobals "list" = some none)
    (z_len : PySem.W.nsIn K mainGlobals "len" = some none)
    (z_range : PySem.W.nsIn K mainGlobals "range" = some none)
    (z_str : PySem.W.nsIn K mainGlobals "str" = some none)
    (z_repr : PySem.W.nsIn K mainGlobals "repr" = some none)
    (z_sum : PySem.W.nsIn K mainGlobals "sum" = some none)
    (z_all : PySem.W.nsIn K mainGlobals "all" = some none)
    (z_any : PySem.W.nsIn K mainGlobals "any" = some none)
    (z_enumerate : PySem.W.nsIn K mainGlobals "enumerate" = some none)
    (z_zip : PySem.W.nsIn K mainGlobals "zip" = some none)
    (z_min : PySem.W.nsIn K mainGlobals "min" = some none)
    (z_max : PySem.W.nsIn K mainGlobals "max" = some none)
    (z_sorted : PySem.W.nsIn K mainGlobals "sorted" = some none)
    (z_ValueError : PySem.W.nsIn K mainGlobals "ValueError" = some none)
    (z_ZeroDivisionError : PySem.W.nsIn K mainGlobals "ZeroDivisionError" = some none)
    (z_OverflowError : PySem.W.nsIn K mainGlobals "OverflowError" = some none)
    (z_IndexError : PySem.W.nsIn K mainGlobals "IndexError" = some none)
    (z_LookupError : PySem.W.nsIn K mainGlobals "LookupError" = some none)
    (z_ArithmeticError : PySem.W.nsIn K mainGlobals "ArithmeticError" = some none)
    (z_KeyError : PySem.W.nsIn K mainGlobals "KeyError" = some none)
    (z_RuntimeError : PySem.W.nsIn K mainGlobals "RuntimeError" = some none) :
    ∃ fd : FuncData, (∀ (s : Shared) (v : Value), BindsTo s fd ⟨[v], []⟩ [("_law_script", v)]) ∧ ∀ base : Heap, K.In base → base.Ns mainGlobals mg → FnOkG l.prog w K mg base CX0 15 fa fd ["_law_script"] (spLaw K) := by
  have e := hfa.symm.trans (PySem.W.mg_of X G a_d_law)
  cases e
  have B : Blt mg := ⟨PySem.W.mg_none_of X G z_abs, PySem.W.mg_none_of X G z_isinstance, PySem.W.mg_none_of X G z_int, PySem.W.mg_none_of X G z_bool, PySem.W.mg_none_of X G z_tuple, PySem.W.mg_none_of X G z_list, PySem.W.mg_none_of X G z_len, PySem.W.mg_none_of X G z_range, PySem.W.mg_none_of X G z_str, PySem.W.mg_none_of X G z_repr, PySem.W.mg_none_of X G z_sum, PySem.W.mg_none_of X G z_all, PySem.W.mg_none_of X G z_any, PySem.W.mg_none_of X G z_enumerate, PySem.W.mg_none_of X G z_zip, PySem.W.mg_none_of X G z_min, PySem.W.mg_none_of X G z_max, PySem.W.mg_none_of X G z_sorted, PySem.W.mg_none_of X G z_ValueError, PySem.W.mg_none_of X G z_ZeroDivisionError, PySem.W.mg_none_of X G z_OverflowError, PySem.W.mg_none_of X G z_IndexError, PySem.W.mg_none_of X G z_LookupError, PySem.W.mg_none_of X G z_ArithmeticError, PySem.W.mg_none_of X G z_KeyError, PySem.W.mg_none_of X G z_RuntimeError⟩
  have F_d_is_whole := fun_mk (st := sWhole) l_d_is_whole c_d_is_whole k_d_is_whole
  have b_d_is_whole := F_d_is_whole.binds (ps := ["thing"]) fun _ _ _ _ _ _ us hl => match us, hl with | [_], _ => rfl
  have g_d_is_whole := PySem.W.mg_of X G a_d_is_whole
  have F_d_is_ratio := fun_mk (st := sIsR) l_d_is_ratio c_d_is_ratio k_d_is_ratio
  have b_d_is_ratio := F_d_is_ratio.binds (ps := ["thing"]) fun _ _ _ _ _ _ us hl => match us, hl with | [_], _ => rfl
  have g_d_is_ratio := PySem.W.mg_of X G a_d_is_ratio
  have F_d_plus := fun_mk (st := sPlus) l_d_plus c_d_plus k_d_plus
  have b_d_plus := F_d_plus.binds (ps := ["one", "other"]) fun _ _ _ _ _ _ us hl => match us, hl with | [_, _], _ => rfl
  have g_d_plus := PySem.W.mg_of X G a_d_plus
  have F_d_lowest := fun_mk (st := sLowest) l_d_lowest c_d_lowest k_d_lowest
  have b_d_lowest := F_d_lowest.binds (ps := ["top", "bottom"]) fun _ _ _ _ _ _ us hl => match us, hl with | [_, _], _ => rfl
  have g_d_lowest := PySem.W.mg_of X G a_d_lowest
  have F_d_divisor := fun_mk (st := sDiv) l_d_divisor c_d_divisor k_d_divisor
  have b_d_divisor := F_d_divisor.binds (ps := ["one", "other"]) fun _ _ _ _ _ _ us hl => match us, hl with | [_, _], _ => rfl
  have g_d_divisor := PySem.W.mg_of X G a_d_divisor
  have F_d_is_list_of := fun_mk (st := sListOf) l_d_is_list_of c_d_is_list_of k_d_is_list_of
  have b_d_is_list_of := F_d_is_list_of.binds (ps := ["thing", "least", "most"]) fun _ _ _ _ _ _ us hl => match us, hl with | [_, _, _], _ => rfl
  have g_d_is_list_of := PySem.W.mg_of X G a_d_is_list_of
  have F_d_is_share := fun_mk (st := sShare) l_d_is_share c_d_is_share k_d_is_share
  have b_d_is_share := F_d_is_share.binds (ps := ["thing"]) fun _ _ _ _ _ _ us hl => match us, hl with | [_], _ => rfl
  have g_d_is_share := PySem.W.mg_of X G a_d_is_share
  have F_d_is_ratio_row := fun_mk (st := sRRow) l_d_is_ratio_row c_d_is_ratio_row k_d_is_ratio_row
  have b_d_is_ratio_row := F_d_is_ratio_row.binds (ps := ["thing", "least", "most"]) fun _ _ _ _ _ _ us hl => match us, hl with | [_, _, _], _ => rfl
  have g_d_is_ratio_row := PySem.W.mg_of X G a_d_is_ratio_row
  have F_d_wrong_row := fun_mk (st := sWrong) l_d_wrong_row c_d_wrong_row k_d_wrong_row
  have b_d_wrong_row := F_d_wrong_row.binds (ps := ["rows", "is_row", "least", "most"]) fun _ _ _ _ _ _ us hl => match us, hl with | [_, _, _, _], _ => rfl
  have g_d_wrong_row := PySem.W.mg_of X G a_d_wrong_row
  have F_d_copied_rows := fun_mk (st := sCopied) l_d_copied_rows c_d_copied_rows k_d_copied_rows
  have b_d_copied_rows := F_d_copied_rows.binds (ps := ["rows"]) fun _ _ _ _ _ _ us hl => match us, hl with | [_], _ => rfl
  have g_d_copied_rows := PySem.W.mg_of X G a_d_copied_rows
  have F_d_check_shares := fun_mk (st := sChkS) l_d_check_shares c_d_check_shares k_d_check_shares
  have b_d_check_shares := F_d_check_shares.binds (ps := ["shares"]) fun _ _ _ _ _ _ us hl => match us, hl with | [_], _ => rfl
  have g_d_check_shares := PySem.W.mg_of X G a_d_check_shares
  have F_d_check_gains := fun_mk (st := sChkG) l_d_check_gains c_d_check_gains k_d_check_gains
  have b_d_check_gains := F_d_check_gains.binds (ps := ["part", "rows", "worlds", "least", "most"]) fun _ _ _ _ _ _ us hl => match us, hl with | [_, _, _, _, _], _ => rfl
  have g_d_check_gains := PySem.W.mg_of X G a_d_check_gains
  have F_d_law_left := fun_mk (st := sLeft) l_d_law_left c_d_law_left k_d_law_left
  have b_d_law_left := F_d_law_left.binds (ps := ["_law_cell"]) fun _ _ _ _ _ _ us hl => match us, hl with | [_], _ => rfl
  have g_d_law_left := PySem.W.mg_of X G a_d_law_left
  have F_d_law_digit := fun_mk (st := sDigit) l_d_law_digit c_d_law_digit k_d_law_digit
  have b_d_law_digit := F_d_law_digit.binds (ps := ["_law_left_here", "_law_many"]) fun _ _ _ _ _ _ us hl => match us, hl with | [_, _], _ => rfl
  have g_d_law_digit := PySem.W.mg_of X G a_d_law_digit
  have F_d_law_low := fun_mk (st := sLow) l_d_law_low c_d_law_low k_d_law_low
  have b_d_law_low := F_d_law_low.binds (ps := ["_law_top", "_law_bottom"]) fun _ _ _ _ _ _ us hl => match us, hl with | [_, _], _ => rfl
  have g_d_law_low := PySem.W.mg_of X G a_d_law_low
  have F_d_law_plus := fun_mk (st := sLPlus) l_d_law_plus c_d_law_plus k_d_law_plus
  have b_d_law_plus := F_d_law_plus.binds (ps := ["_law_one", "_law_other"]) fun _ _ _ _ _ _ us hl => match us, hl with | [_, _], _ => rfl
  have g_d_law_plus := PySem.W.mg_of X G a_d_law_plus
  have F_d_law_shares := fun_mk (st := sShares) l_d_law_shares c_d_law_shares k_d_law_shares
  have b_d_law_shares := F_d_law_shares.binds (ps := ["_law_left_here", "_law_many"]) fun _ _ _ _ _ _ us hl => match us, hl with | [_, _], _ => rfl
  have g_d_law_shares := PySem.W.mg_of X G a_d_law_shares
  have F_d_law_gain := fun_mk (st := sGain) l_d_law_gain c_d_law_gain k_d_law_gain
  have b_d_law_gain := F_d_law_gain.binds (ps := ["_law_left_here"]) fun _ _ _ _ _ _ us hl => match us, hl with | [_], _ => rfl
  have g_d_law_gain := PySem.W.mg_of X G a_d_law_gain
  have F_d_law_gains := fun_mk (st := sGains) l_d_law_gains c_d_law_gains k_d_law_gains
  have b_d_law_gains := F_d_law_gains.binds (ps := ["_law_left_here", "_law_worlds", "_law_deeds"]) fun _ _ _ _ _ _ us hl => match us, hl with | [_, _, _], _ => rfl
  have g_d_law_gains := PySem.W.mg_of X G a_d_law_gains
  have F_d_law_parts := fun_mk (st := sParts) l_d_law_parts c_d_law_parts k_d_law_parts
  have b_d_law_parts := F_d_law_parts.binds (ps := ["_law_left_here", "_law_most_worlds", "_law_most_deeds"]) fun _ _ _ _ _ _ us hl => match us, hl with | [_, _, _], _ => rfl
  have g_d_law_parts := PySem.W.mg_of X G a_d_law_parts
  have F_d_law_changed := fun_mk (st := sChg06) l_d_law_changed c_d_law_changed k_d_law_changed
  have b_d_law_changed := F_d_law_changed.binds (ps := ["_law_left_here", "_law_parts_here"]) fun _ _ _ _ _ _ us hl => match us, hl with | [_, _], _ => rfl
  have g_d_law_changed := PySem.W.mg_of X G a_d_law_changed
  have F_d_law_text := fun_mk (st := sTxt06) l_d_law_text c_d_law_text k_d_law_text
  have b_d_law_text := F_d_law_text.binds (ps := ["_law_parts_here"]) fun _ _ _ _ _ _ us hl => match us, hl with | [_], _ => rfl
  have g_d_law_text := PySem.W.mg_of X G a_d_law_text
  have F_d_law_copy := fun_mk (st := sCopy06) l_d_law_copy c_d_law_copy k_d_law_copy
  have b_d_law_copy := F_d_law_copy.binds (ps := ["_law_parts_here"]) fun _ _ _ _ _ _ us hl => match us, hl with | [_], _ => rfl
  have g_d_law_copy := PySem.W.mg_of X G a_d_law_copy
  have F_d_law_is := fun_mk (st := sIs06) l_d_law_is c_d_law_is k_d_law_is
  have b_d_law_is := F_d_law_is.binds (ps := ["_law_case", "_law_parts_here"]) fun _ _ _ _ _ _ us hl => match us, hl with | [_, _], _ => rfl
  have g_d_law_is := PySem.W.mg_of X G a_d_law_is
  have F_d_law_shared := fun_mk (st := sShd06) l_d_law_shared c_d_law_shared k_d_law_shared
  have b_d_law_shared := F_d_law_shared.binds (ps := ["_law_kept"]) fun _ _ _ _ _ _ us hl => match us, hl with | [_], _ => rfl
  have g_d_law_shared := PySem.W.mg_of X G a_d_law_shared
  have F_d_law_later := fun_mk (st := sLtr06) l_d_law_later c_d_law_later k_d_law_later
  have b_d_law_later := F_d_law_later.binds (ps := ["_law_left_here", "_law_case", "_law_kept"]) fun _ _ _ _ _ _ us hl => match us, hl with | [_, _, _], _ => rfl
  have g_d_law_later := PySem.W.mg_of X G a_d_law_later
  have F_d_law := fun_mk (st := sLaw) l_d_law c_d_law k_d_law
  have g_d_law := PySem.W.mg_of X G a_d_law
  have g_d_total := PySem.W.mg_of X G a_d_total
  have k_d_total := FD_d_total.kp
  have FM := FD_d_total
  have bM1 := FM.binds1 (ps := ["some", "start"]) 1 0 (by simp) rfl fun T kV doc pm an cdv ct us its hl hi => match us, its, hl, hi with | [_], [_], _, _ => ⟨_, rfl, rfl⟩
  have ex_N : ExcC K C_N := ⟨ga_N, gg_N, eC_N, hd_N, cl_N, sp_, tk_, mo_N⟩
  have xf_N : XfC K C_N := ⟨ga_N, gg_N, eC_N, hd_N⟩
  have gC_N := PySem.W.mg_of X G aC_N
  have oex_N : OexC K C_N := ⟨⟨nm_N, q_N, N_N, bs_N, _, sn_N, su_N, ab_N, co_N, dd_N, m0_N, m1_N, m2_N, m3_N, m5_N, xC_N, by decide +kernel⟩, sa_N, eC_N, tC_N, kC_N⟩
  have exc_N : ExC K C_N "ValueError.__new__" [.type "ValueError", .type "Exception", .type "BaseException", .type "object"] := ⟨⟨nm_N, q_N, N_N, bs_N, sn_N, su_N, ab_N, co_N, dd_N, m0_N, m1_N, m2_N, m3_N, m5_N, xC_N⟩, eC_N, tC_N, kC_N⟩
  have F_i_N := fun_mk (st := sNcInit) l_i_N c_i_N k_i_N
  have b_i_N := F_i_N.binds (ps := ["self", "part", "number"]) fun _ _ _ _ _ _ us hl => match us, hl with | [_, _, _], _ => rfl
  have em_N_N := PySem.W.exm_ref eC_N hd_N tC_N sb_N_N
  have cl_C : Cls K C_C := ⟨pg_C, hd_C, po_C, sa_C⟩
  have gC_C := PySem.W.mg_of X G aC_C
  have F_m_C_init := fun_mk (st := sCInit) l_m_C_init c_m_C_init k_m_C_init
  have b_m_C_init := F_m_C_init.binds (ps := ["self", "shares", "hearer", "teller"]) fun _ _ _ _ _ _ us hl => match us, hl with | [_, _, _, _], _ => rfl
  have N0 : NcT K mg C_N f_i_N := ⟨gC_N, i_i_N, ty_i_N, xf_N, ex_N, oex_N, no_N_part, no_N_number, vV_N, em_N_N, kt_N_ValueError⟩
  have C0 : CaT K mg C_C f_m_C_init := ⟨cl_C, gC_C, no_own_shares, no_own_hearer, no_own_teller, ⟨mk_C, i_m_C_init, fn_m_C_init, kC_C⟩, ⟨_, PySem.W.mg_of X G g5_⟩, ⟨_, PySem.W.mg_of X G g6_⟩⟩
  have F_m_C_eq := fun_mk (st := sCEq) l_m_C_eq c_m_C_eq k_m_C_eq
  have b_m_C_eq := F_m_C_eq.binds (ps := ["self", "other"]) fun _ _ _ _ _ _ us hl => match us, hl with | [_, _], _ => rfl
  have I_C : IsT K C_C := ⟨ha_C, sp_, tk_, hm_C, kt_C⟩
  have NE_C : NeC K C_C f_m_C_eq := ⟨⟨_, _, _, _, _, _, _, _, _, _, _, _, _, _, _, _, xC_C, no_C, nq_m_C_eq, ne_C⟩, ⟨_, l_m_C_eq, oq_m_C_eq⟩⟩
  have F_m_C_worlds := fun_mk (st := sCWorlds) l_m_C_worlds c_m_C_worlds k_m_C_worlds
  have b_m_C_worlds := F_m_C_worlds.binds (ps := ["self"]) fun _ _ _ _ _ _ us hl => match us, hl with | [_], _ => rfl
  have mt_worlds : Meth K C_C "worlds" f_m_C_worlds := ⟨i_m_C_worlds, fn_m_C_worlds, k_m_C_worlds⟩
  have F_m_C_deeds := fun_mk (st := sCDeeds) l_m_C_deeds c_m_C_deeds k_m_C_deeds
  have b_m_C_deeds := F_m_C_deeds.binds (ps := ["self"]) fun _ _ _ _ _ _ us hl => match us, hl with | [_], _ => rfl
  have mt_deeds : Meth K C_C "deeds" f_m_C_deeds := ⟨i_m_C_deeds, fn_m_C_deeds, k_m_C_deeds⟩
  have F_m_C_shares := fun_mk (st := sCShares) l_m_C_shares c_m_C_shares k_m_C_shares
  have b_m_C_shares := F_m_C_shares.binds (ps := ["self"]) fun _ _ _ _ _ _ us hl => match us, hl with | [_], _ => rfl
  have mt_shares : Meth K C_C "shares" f_m_C_shares := ⟨i_m_C_shares, fn_m_C_shares, k_m_C_shares⟩
  have F_m_C_hearer := fun_mk (st := sCHearer) l_m_C_hearer c_m_C_hearer k_m_C_hearer
  have b_m_C_hearer := F_m_C_hearer.binds (ps := ["self"]) fun _ _ _ _ _ _ us hl => match us, hl with | [_], _ => rfl
  have mt_hearer : Meth K C_C "hearer" f_m_C_hearer := ⟨i_m_C_hearer, fn_m_C_hearer, k_m_C_hearer⟩
  have F_m_C_teller := fun_mk (st := sCTeller) l_m_C_teller c_m_C_teller k_m_C_teller
  have b_m_C_teller := F_m_C_teller.binds (ps := ["self"]) fun _ _ _ _ _ _ us hl => match us, hl with | [_], _ => rfl
  have mt_teller : Meth K C_C "teller" f_m_C_teller := ⟨i_m_C_teller, fn_m_C_teller, k_m_C_teller⟩
  have F_m_C_with_shares := fun_mk (st := sCWith) l_m_C_with_shares c_m_C_with_shares k_m_C_with_shares
  have b_m_C_with_shares := F_m_C_with_shares.binds (ps := ["self", "shares"]) fun _ _ _ _ _ _ us hl => match us, hl with | [_, _], _ => rfl
  have F_m_C_len := fun_mk (st := sCLen) l_m_C_len c_m_C_len k_m_C_len
  have b_m_C_len := F_m_C_len.binds (ps := ["self"]) fun _ _ _ _ _ _ us hl => match us, hl with | [_], _ => rfl
  have F_m_C_str := fun_mk (st := sCStr) l_m_C_str c_m_C_str k_m_C_str
  have b_m_C_str := F_m_C_str.binds (ps := ["self"]) fun _ _ _ _ _ _ us hl => match us, hl with | [_], _ => rfl
  have F_m_C_repr := fun_mk (st := sCRepr) l_m_C_repr c_m_C_repr k_m_C_repr
  have b_m_C_repr := F_m_C_repr.binds (ps := ["self"]) fun _ _ _ _ _ _ us hl => match us, hl with | [_], _ => rfl
  have mt_with : Meth K C_C "with_shares" f_m_C_with_shares := ⟨i_m_C_with_shares, fn_m_C_with_shares, k_m_C_with_shares⟩
  have kT_ : ∀ n : String, n ∈ ["NoneType", "int", "list", "bool", "str", "tuple"] → PySem.W.kitOne K (.type n) (.ref C_C) = some false := fun n h => by
    simp only [List.mem_cons, List.not_mem_nil, or_false] at h
    rcases h with rfl | rfl | rfl | rfl | rfl | rfl
    · exact kC_NoneType
    · exact kC_int
    · exact kC_list
    · exact kC_bool
    · exact kC_str
    · exact kC_tuple
  have kbI_ : KBn K _ ["self", "shares", "hearer", "teller"] 2 ["hearer", "teller"] gA gA := kbn_of (n := 2) (ks := ["hearer", "teller"]) gA F_m_C_init gA_rel fun _ _ _ _ _ _ us ws h1 h2 => match us, ws, h1, h2 with | [_, _], [_, _], _, _ => rfl
  have kbW_ : KBn K _ ["self", "shares"] 1 ["shares"] gA gA := kbn_of (n := 1) (ks := ["shares"]) gA F_m_C_with_shares gA_rel fun _ _ _ _ _ _ us ws h1 h2 => match us, ws, h1, h2 with | [_], [_], _, _ => rfl
  refine ⟨PySem.W.fnOf "law" "law" (defArgs sLaw) (defBody sLaw) (defScope sLaw) .none kV_d_law dc_d_law pm_d_law an_d_law cd_d_law ct_d_law, fun s v => .of_eq rfl, fun base _ _ => ?_⟩
  have G_d_divisor : FnOk l.prog w K mg base CX0 1 f_d_divisor _ ["one", "other"] spDiv := ok_div F_d_divisor  B
  have G_d_lowest : FnOk l.prog w K mg base CX0 2 f_d_lowest _ ["top", "bottom"] spLow := ok_lowest F_d_lowest (G_d_divisor.mono (by decide)) k_d_divisor b_d_divisor g_d_divisor
  have G_d_plus : FnOk l.prog w K mg base CX0 3 f_d_plus _ ["one", "other"] (spBin K (· + ·)) := ok_Plus F_d_plus (G_d_lowest.mono (by decide)) k_d_lowest b_d_lowest g_d_lowest
  have G_d_is_whole : FnOk l.prog w K mg base CX0 1 f_d_is_whole _ ["thing"] (spWholeZ K) := ok_WholeZ F_d_is_whole  B
  have G_d_is_ratio : FnOk l.prog w K mg base CX0 2 f_d_is_ratio _ ["thing"] (spIsRZ K) := ok_IsRZ F_d_is_ratio (G_d_is_whole.mono (by decide)) k_d_is_whole b_d_is_whole g_d_is_whole (G_d_divisor.mono (by decide)) k_d_divisor b_d_divisor g_d_divisor B
  have G_d_is_list_of : FnOk l.prog w K mg base CX0 1 f_d_is_list_of _ ["thing", "least", "most"] (spListOfZ K) := ok_ListOfZ F_d_is_list_of  B
  have G_d_is_share : FnOk l.prog w K mg base CX0 3 f_d_is_share _ ["thing"] (spShareZ K) := ok_ShareZ F_d_is_share (G_d_is_ratio.mono (by decide)) k_d_is_ratio b_d_is_ratio g_d_is_ratio
  have G_d_total : FnOk l.prog w K mg base CX0 4 f_d_total _ ["some", "start"] (Rs.spTotal K) := ok_Total FM (G_d_plus.mono (by decide)) k_d_plus b_d_plus g_d_plus
  have G_d_is_ratio_row : FnOk l.prog w K mg base CX0 3 f_d_is_ratio_row _ ["thing", "least", "most"] (spRowZ K) := ok_RRowZ F_d_is_ratio_row (G_d_is_list_of.mono (by decide)) k_d_is_list_of b_d_is_list_of g_d_is_list_of (G_d_is_ratio.mono (by decide)) k_d_is_ratio b_d_is_ratio g_d_is_ratio B
  have G_d_wrong_row : FnOk l.prog w K mg base CX0 4 f_d_wrong_row _ ["rows", "is_row", "least", "most"] (spWrongZ K f_d_is_ratio_row) := ok_WrongZ F_d_wrong_row (G_d_is_ratio_row.mono (by decide)) k_d_is_ratio_row b_d_is_ratio_row  B
  have G_d_copied_rows : FnOk l.prog w K mg base CX0 1 f_d_copied_rows _ ["rows"] (Rs.spCopied K) := ok_Copied F_d_copied_rows  B
  have G_i_N : FnOk l.prog w K mg base CX0 1 f_i_N _ ["self", "part", "number"] (spE2 C_N "part" "number") := ok_NcInit F_i_N N0 B
  have G_d_check_shares : FnOk l.prog w K mg base (L2.CX l.prog w) 7 f_d_check_shares _ ["shares"] (spChkS K C_N) := ok_ChkS F_d_check_shares C0 N0 (G_i_N.mono (by decide)) b_i_N (G_d_is_list_of.mono (by decide)) k_d_is_list_of b_d_is_list_of g_d_is_list_of (G_d_is_share.mono (by decide)) k_d_is_share b_d_is_share g_d_is_share (G_d_total.mono (by decide)) k_d_total bM1 g_d_total B
  have G_d_check_gains : FnOk l.prog w K mg base (L2.CX l.prog w) 7 f_d_check_gains _ ["part", "rows", "worlds", "least", "most"] (spChkG K C_N) := ok_ChkG F_d_check_gains N0 (G_i_N.mono (by decide)) b_i_N (G_d_is_list_of.mono (by decide)) k_d_is_list_of b_d_is_list_of g_d_is_list_of (G_d_wrong_row.mono (by decide)) k_d_wrong_row b_d_wrong_row g_d_wrong_row g_d_is_ratio_row
  have G_m_C_init : FnOk l.prog w K mg base (L2.CX l.prog w) 8 f_m_C_init _ ["self", "shares", "hearer", "teller"] (spCInit K C_C C_N) := ok_CInit F_m_C_init C0 (G_d_check_shares.mono (by decide)) k_d_check_shares b_d_check_shares g_d_check_shares (G_d_check_gains.mono (by decide)) k_d_check_gains b_d_check_gains g_d_check_gains (G_d_copied_rows.mono (by decide)) k_d_copied_rows b_d_copied_rows g_d_copied_rows B
  have GF_m_C_init : FnOk l.prog w K mg base (L2.CX l.prog w) 8 f_m_C_init _ ["self", "shares", "hearer", "teller"] (spCInitF K C_C C_N) := ok_CInitF F_m_C_init C0 (G_d_check_shares.mono (by decide)) k_d_check_shares b_d_check_shares g_d_check_shares (G_d_check_gains.mono (by decide)) k_d_check_gains b_d_check_gains g_d_check_gains (G_d_copied_rows.mono (by decide)) k_d_copied_rows b_d_copied_rows g_d_copied_rows B
  have GG_d_is_list_of : FnOk l.prog w K mg base CX0 1 f_d_is_list_of _ ["thing", "least", "most"] (Hr.spListOf K) := ok_ListOf F_d_is_list_of  B
  have G_m_C_worlds : FnOk l.prog w K mg base CX0 1 f_m_C_worlds _ ["self"] (spCWorlds K C_C) := ok_CWorlds F_m_C_worlds C0 B
  have G_m_C_deeds : FnOk l.prog w K mg base CX0 1 f_m_C_deeds _ ["self"] (spCDeeds K C_C) := ok_CDeeds F_m_C_deeds C0 B
  have G_m_C_shares : FnOk l.prog w K mg base CX0 1 f_m_C_shares _ ["self"] (spCShares K C_C) := ok_CShares F_m_C_shares C0 B
  have G_m_C_hearer : FnOk l.prog w K mg base CX0 2 f_m_C_hearer _ ["self"] (spCHearer K C_C) := ok_CHearer F_m_C_hearer C0 (G_d_copied_rows.mono (by decide)) k_d_copied_rows b_d_copied_rows g_d_copied_rows
  have G_m_C_teller : FnOk l.prog w K mg base CX0 2 f_m_C_teller _ ["self"] (spCTeller K C_C) := ok_CTeller F_m_C_teller C0 (G_d_copied_rows.mono (by decide)) k_d_copied_rows b_d_copied_rows g_d_copied_rows
  have G_m_C_eq : FnOk l.prog w K mg base CX0 1 f_m_C_eq _ ["self", "other"] (spCEq K C_C) := ok_CEq F_m_C_eq C0 I_C B
  have G_m_C_with_shares : FnOk l.prog w K mg base CX0 10 f_m_C_with_shares _ ["self", "shares"] (spCWithF K C_C) := ok_CWith F_m_C_with_shares C0 mt_worlds (GF_m_C_init.mono (by decide)) b_m_C_init (G_m_C_worlds.mono (by decide)) b_m_C_worlds (GG_d_is_list_of.mono (by decide)) k_d_is_list_of b_d_is_list_of g_d_is_list_of
  have G_m_C_len : FnOk l.prog w K mg base CX0 1 f_m_C_len _ ["self"] (spCWorlds K C_C) := ok_CLen F_m_C_len C0 B
  have G_m_C_str : FnOk l.prog w K mg base CX0 2 f_m_C_str _ ["self"] (spCStr K C_C) := ok_CStr F_m_C_str C0 mt_worlds mt_deeds (G_m_C_worlds.mono (by decide)) b_m_C_worlds (G_m_C_deeds.mono (by decide)) b_m_C_deeds
  have G_m_C_repr : FnOkG l.prog w K mg base CX0 1 f_m_C_repr _ ["self"] (spCRepr K C_C) := ok_CRepr F_m_C_repr C0
  have G_d_law_left : FnOk l.prog w K mg base CX0 1 f_d_law_left _ ["_law_cell"] spLeft := ok_left F_d_law_left  B
  have G_d_law_digit : FnOk l.prog w K mg base CX0 1 f_d_law_digit _ ["_law_left_here", "_law_many"] spDigit := ok_digit F_d_law_digit 
  have G_d_law_low : FnOk l.prog w K mg base CX0 1 f_d_law_low _ ["_law_top", "_law_bottom"] spLow := ok_low F_d_law_low  B
  have G_d_law_plus : FnOk l.prog w K mg base CX0 2 f_d_law_plus _ ["_law_one", "_law_other"] (spPlusR K) := ok_LPlusR F_d_law_plus (G_d_law_low.mono (by decide)) k_d_law_low b_d_law_low g_d_law_low
  have G_d_law_shares : FnOk l.prog w K mg base CX0 2 f_d_law_shares _ ["_law_left_here", "_law_many"] (Rs.spShares K) := ok_Shares F_d_law_shares (G_d_law_digit.mono (by decide)) k_d_law_digit b_d_law_digit g_d_law_digit (G_d_law_low.mono (by decide)) k_d_law_low b_d_law_low g_d_law_low B
  have G_d_law_gain : FnOk l.prog w K mg base CX0 2 f_d_law_gain _ ["_law_left_here"] (Lw.spGain K) := ok_Gain F_d_law_gain (G_d_law_digit.mono (by decide)) k_d_law_digit b_d_law_digit g_d_law_digit (G_d_law_low.mono (by decide)) k_d_law_low b_d_law_low g_d_law_low
  have G_d_law_gains : FnOk l.prog w K mg base CX0 3 f_d_law_gains _ ["_law_left_here", "_law_worlds", "_law_deeds"] (Lw.spGains K) := ok_Gains F_d_law_gains (G_d_law_gain.mono (by decide)) k_d_law_gain b_d_law_gain g_d_law_gain B
  have G_d_law_parts : FnOk l.prog w K mg base CX0 4 f_d_law_parts _ ["_law_left_here", "_law_most_worlds", "_law_most_deeds"] (Lw.spParts K) := ok_Parts F_d_law_parts (G_d_law_digit.mono (by decide)) k_d_law_digit b_d_law_digit g_d_law_digit (G_d_law_gains.mono (by decide)) k_d_law_gains b_d_law_gains g_d_law_gains (G_d_law_shares.mono (by decide)) k_d_law_shares b_d_law_shares g_d_law_shares B
  have G_d_law_copy : FnOk l.prog w K mg base CX0 1 f_d_law_copy _ ["_law_parts_here"] (spCopy06 K) := ok_Copy06 F_d_law_copy  B
  have G_d_law_text : FnOk l.prog w K mg base CX0 1 f_d_law_text _ ["_law_parts_here"] (spTxt06 K) := ok_Txt06 F_d_law_text  B
  have G_d_law_changed : FnOk l.prog w K mg base CX0 5 f_d_law_changed _ ["_law_left_here", "_law_parts_here"] (spChg06 K) := ok_Chg06 F_d_law_changed (G_d_law_digit.mono (by decide)) k_d_law_digit b_d_law_digit g_d_law_digit (G_d_law_shares.mono (by decide)) k_d_law_shares b_d_law_shares g_d_law_shares (G_d_law_plus.mono (by decide)) k_d_law_plus b_d_law_plus g_d_law_plus (G_d_law_parts.mono (by decide)) k_d_law_parts b_d_law_parts g_d_law_parts B
  have G_d_law_is : FnOkG l.prog w K mg base CX0 6 f_d_law_is _ ["_law_case", "_law_parts_here"] (spIs06 K C_C) := ok_Is06 F_d_law_is C0 mt_worlds mt_deeds mt_shares mt_hearer mt_teller i_m_C_str fn_m_C_str (G_m_C_str.mono (by decide)) b_m_C_str i_m_C_repr fn_m_C_repr (G_m_C_repr.mono (by decide)) b_m_C_repr i_m_C_len fn_m_C_len (G_m_C_len.mono (by decide)) b_m_C_len (G_m_C_worlds.mono (by decide)) b_m_C_worlds (G_m_C_deeds.mono (by decide)) b_m_C_deeds (G_m_C_shares.mono (by decide)) b_m_C_shares (G_m_C_hearer.mono (by decide)) b_m_C_hearer (G_m_C_teller.mono (by decide)) b_m_C_teller (G_d_law_text.mono (by decide)) k_d_law_text b_d_law_text g_d_law_text B
  have G_d_law_shared : FnOkG l.prog w K mg base CX0 10 f_d_law_shared _ ["_law_kept"] (spShd06 K) := ok_Shd06 F_d_law_shared C0 mt_hearer (GF_m_C_init.mono (by decide)) b_m_C_init (G_m_C_hearer.mono (by decide)) b_m_C_hearer (G_d_law_is.mono (by decide)) k_d_law_is b_d_law_is g_d_law_is B
  have G_d_law_later : FnOkG l.prog w K mg base CX0 12 f_d_law_later _ ["_law_left_here", "_law_case", "_law_kept"] (spLtr06 K C_C) := ok_Ltr06 F_d_law_later C0 mt_with (G_m_C_with_shares.mono (by decide)) b_m_C_with_shares kbW_ (G_d_law_shares.mono (by decide)) k_d_law_shares b_d_law_shares g_d_law_shares (G_d_law_is.mono (by decide)) k_d_law_is b_d_law_is g_d_law_is B
  exact ok_law (k := 12) F_d_law C0 mt_shares mt_hearer mt_teller (GF_m_C_init.mono (by decide)) b_m_C_init I_C NE_C nn_C (G_m_C_eq.mono (by decide)) b_m_C_eq kT_ i_m_C_repr fn_m_C_repr (G_m_C_repr.mono (by decide)) b_m_C_repr kbI_ (G_m_C_shares.mono (by decide)) b_m_C_shares (G_m_C_hearer.mono (by decide)) b_m_C_hearer (G_m_C_teller.mono (by decide)) b_m_C_teller (G_d_law_left.mono (by decide)) k_d_law_left b_d_law_left g_d_law_left (G_d_law_parts.mono (by decide)) k_d_law_parts b_d_law_parts g_d_law_parts (G_d_law_changed.mono (by decide)) k_d_law_changed b_d_law_changed g_d_law_changed (G_d_law_copy.mono (by decide)) k_d_law_copy b_d_law_copy g_d_law_copy (G_d_law_is.mono (by decide)) k_d_law_is b_d_law_is g_d_law_is (G_d_law_shared.mono (by decide)) k_d_law_shared b_d_law_shared g_d_law_shared (G_d_law_later.mono (by decide)) k_d_law_later b_d_law_later g_d_law_later B
def fa0 : List Hk.Fk := [
  fun K => (He.Fa.code ("is_whole", none) "is_whole").ok K,
  fun K => (He.Fa.code ("is_ratio", none) "is_ratio").ok K,
  fun K => (He.Fa.code ("plus", none) "plus").ok K,
  fun K => (He.Fa.code ("lowest", none) "lowest").ok K,
  fun K => (He.Fa.code ("divisor", none) "divisor").ok K,
  fun K => (He.Fa.code ("is_list_of", none) "is_list_of").ok K,
  fun K => (He.Fa.code ("is_share", none) "is_share").ok K,
  fun K => (He.Fa.code ("is_ratio_row", none) "is_ratio_row").ok K,
  fun K => (He.Fa.code ("wrong_row", none) "wrong_row").ok K,
  fun K => (He.Fa.code ("copied_rows", none) "copied_rows").ok K,
  fun K => (He.Fa.code ("check_shares", none) "check_shares").ok K,
  fun K => (He.Fa.code ("check_gains", none) "check_gains").ok K,
  fun K => (He.Fa.code ("_law_left", none) "_law_left").ok K,
  fun K => (He.Fa.code ("_law_digit", none) "_law_digit").ok K,
  fun K => (He.Fa.code ("_law_low", none) "_law_low").ok K,
  fun K => (He.Fa.code ("_law_plus", none) "_law_plus").ok K]
def fa1 : List Hk.Fk := [
  fun K => (He.Fa.code ("_law_shares", none) "_law_shares").ok K,
  fun K => (He.Fa.code ("_law_gain", none) "_law_gain").ok K,
  fun K => (He.Fa.code ("_law_gains", none) "_law_gains").ok K,
  fun K => (He.Fa.code ("_law_parts", none) "_law_parts").ok K,
  fun K => (He.Fa.code ("_law_changed", none) "_law_changed").ok K,
  fun K => (He.Fa.code ("_law_text", none) "_law_text").ok K,
  fun K => (He.Fa.code ("_law_copy", none) "_law_copy").ok K,
  fun K => (He.Fa.code ("_law_is", none) "_law_is").ok K,
  fun K => (He.Fa.code ("_law_shared", none) "_law_shared").ok K,
  fun K => (He.Fa.code ("_law_later", none) "_law_later").ok K,
  fun K => (He.Fa.code ("law", none) "law").ok K,
  fun K => (He.Fa.code ("NoCase", some "__init__") "NoCase.__init__").ok K,
  fun K => (He.Fa.code ("Case", some "__init__") "Case.__init__").ok K,
  fun K => (He.Fa.code ("Case", some "__eq__") "Case.__eq__").ok K,
  fun K => (He.Fa.code ("Case", some "worlds") "Case.worlds").ok K,
  fun K => (He.Fa.code ("Case", some "deeds") "Case.deeds").ok K]
def fa2 : List Hk.Fk := [
  fun K => (He.Fa.code ("Case", some "shares") "Case.shares").ok K,
  fun K => (He.Fa.code ("Case", some "hearer") "Case.hearer").ok K,
  fun K => (He.Fa.code ("Case", some "teller") "Case.teller").ok K,
  fun K => (He.Fa.code ("Case", some "with_shares") "Case.with_shares").ok K,
  fun K => (He.Fa.code ("Case", some "__len__") "Case.__len__").ok K,
  fun K => (He.Fa.code ("Case", some "__str__") "Case.__str__").ok K,
  fun K => (He.Fa.code ("Case", some "__repr__") "Case.__repr__").ok K,
  fun K => He.DefD.ok K ⟨("total", none), "total", "total", defArgs sTotal, defBody sTotal, defScope sTotal, [.non], []⟩,
  Hk.clsB (fun K => He.ga K "NoCase") [.type "ValueError", .type "Exception", .type "BaseException", .type "object"] true "ValueError.__new__",
  Hk.clsB (fun K => He.ga K "Case") [.type "object"] false "object.__new__",
  Hk.intB "MOST_WORLDS" 5,
  Hk.intB "MOST_DEEDS" 6,
  Hk.tyB (fun K => (He.ma K (He.ga K "Case") "__eq__")) "function",
  fun K => decide (PySem.W.nsIn K mainGlobals "is_whole" = some (some (.ref (He.ga K "is_whole")))),
  fun K => decide (PySem.W.keepIn K (.ref (He.ga K "is_whole")) = true),
  fun K => decide (PySem.W.nsIn K mainGlobals "is_ratio" = some (some (.ref (He.ga K "is_ratio"))))]
def fa3 : List Hk.Fk := [
  fun K => decide (PySem.W.keepIn K (.ref (He.ga K "is_ratio")) = true),
  fun K => decide (PySem.W.nsIn K mainGlobals "plus" = some (some (.ref (He.ga K "plus")))),
  fun K => decide (PySem.W.keepIn K (.ref (He.ga K "plus")) = true),
  fun K => decide (PySem.W.nsIn K mainGlobals "lowest" = some (some (.ref (He.ga K "lowest")))),
  fun K => decide (PySem.W.keepIn K (.ref (He.ga K "lowest")) = true),
  fun K => decide (PySem.W.nsIn K mainGlobals "divisor" = some (some (.ref (He.ga K "divisor")))),
  fun K => decide (PySem.W.keepIn K (.ref (He.ga K "divisor")) = true),
  fun K => decide (PySem.W.nsIn K mainGlobals "is_list_of" = some (some (.ref (He.ga K "is_list_of")))),
  fun K => decide (PySem.W.keepIn K (.ref (He.ga K "is_list_of")) = true),
  fun K => decide (PySem.W.nsIn K mainGlobals "is_share" = some (some (.ref (He.ga K "is_share")))),
  fun K => decide (PySem.W.keepIn K (.ref (He.ga K "is_share")) = true),
  fun K => decide (PySem.W.nsIn K mainGlobals "is_ratio_row" = some (some (.ref (He.ga K "is_ratio_row")))),
  fun K => decide (PySem.W.keepIn K (.ref (He.ga K "is_ratio_row")) = true),
  fun K => decide (PySem.W.nsIn K mainGlobals "wrong_row" = some (some (.ref (He.ga K "wrong_row")))),
  fun K => decide (PySem.W.keepIn K (.ref (He.ga K "wrong_row")) = true),
  fun K => decide (PySem.W.nsIn K mainGlobals "copied_rows" = some (some (.ref (He.ga K "copied_rows"))))]
def fa4 : List Hk.Fk := [
  fun K => decide (PySem.W.keepIn K (.ref (He.ga K "copied_rows")) = true),
  fun K => decide (PySem.W.nsIn K mainGlobals "check_shares" = some (some (.ref (He.ga K "check_shares")))),
  fun K => decide (PySem.W.keepIn K (.ref (He.ga K "check_shares")) = true),
  fun K => decide (PySem.W.nsIn K mainGlobals "check_gains" = some (some (.ref (He.ga K "check_gains")))),
  fun K => decide (PySem.W.keepIn K (.ref (He.ga K "check_gains")) = true),
  fun K => decide (PySem.W.nsIn K mainGlobals "_law_left" = some (some (.ref (He.ga K "_law_left")))),
  fun K => decide (PySem.W.keepIn K (.ref (He.ga K "_law_left")) = true),
  fun K => decide (PySem.W.nsIn K mainGlobals "_law_digit" = some (some (.ref (He.ga K "_law_digit")))),
  fun K => decide (PySem.W.keepIn K (.ref (He.ga K "_law_digit")) = true),
  fun K => decide (PySem.W.nsIn K mainGlobals "_law_low" = some (some (.ref (He.ga K "_law_low")))),
  fun K => decide (PySem.W.keepIn K (.ref (He.ga K "_law_low")) = true),
  fun K => decide (PySem.W.nsIn K mainGlobals "_law_plus" = some (some (.ref (He.ga K "_law_plus")))),
  fun K => decide (PySem.W.keepIn K (.ref (He.ga K "_law_plus")) = true),
  fun K => decide (PySem.W.nsIn K mainGlobals "_law_shares" = some (some (.ref (He.ga K "_law_shares")))),
  fun K => decide (PySem.W.keepIn K (.ref (He.ga K "_law_shares")) = true),
  fun K => decide (PySem.W.nsIn K mainGlobals "_law_gain" = some (some (.ref (He.ga K "_law_gain"))))]
def fa5 : List Hk.Fk := [
  fun K => decide (PySem.W.keepIn K (.ref (He.ga K "_law_gain")) = true),
  fun K => decide (PySem.W.nsIn K mainGlobals "_law_gains" = some (some (.ref (He.ga K "_law_gains")))),
  fun K => decide (PySem.W.keepIn K (.ref (He.ga K "_law_gains")) = true),
  fun K => decide (PySem.W.nsIn K mainGlobals "_law_parts" = some (some (.ref (He.ga K "_law_parts")))),
  fun K => decide (PySem.W.keepIn K (.ref (He.ga K "_law_parts")) = true),
  fun K => decide (PySem.W.nsIn K mainGlobals "_law_changed" = some (some (.ref (He.ga K "_law_changed")))),
  fun K => decide (PySem.W.keepIn K (.ref (He.ga K "_law_changed")) = true),
  fun K => decide (PySem.W.nsIn K mainGlobals "_law_text" = some (some (.ref (He.ga K "_law_text")))),
  fun K => decide (PySem.W.keepIn K (.ref (He.ga K "_law_text")) = true),
  fun K => decide (PySem.W.nsIn K mainGlobals "_law_copy" = some (some (.ref (He.ga K "_law_copy")))),
  fun K => decide (PySem.W.keepIn K (.ref (He.ga K "_law_copy")) = true),
  fun K => decide (PySem.W.nsIn K mainGlobals "_law_is" = some (some (.ref (He.ga K "_law_is")))),
  fun K => decide (PySem.W.keepIn K (.ref (He.ga K "_law_is")) = true),
  fun K => decide (PySem.W.nsIn K mainGlobals "_law_shared" = some (some (.ref (He.ga K "_law_shared")))),
  fun K => decide (PySem.W.keepIn K (.ref (He.ga K "_law_shared")) = true),
  fun K => decide (PySem.W.nsIn K mainGlobals "_law_later" = some (some (.ref (He.ga K "_law_later"))))]
def fa6 : List Hk.Fk := [
  fun K => decide (PySem.W.keepIn K (.ref (He.ga K "_law_later")) = true),
  fun K => decide (PySem.W.nsIn K mainGlobals "law" = some (some (.ref (He.ga K "law")))),
  fun K => decide (PySem.W.keepIn K (.ref (He.ga K "law")) = true),
  fun K => decide (PySem.W.nsIn K mainGlobals "total" = some (some (.ref (He.ga K "total")))),
  fun K => decide (PySem.W.nsIn K mainGlobals "NoCase" = some (some (.ref (He.ga K "NoCase")))),
  fun K => decide (PySem.W.findIn K (.ref (He.ga K "NoCase")) "__setattr__" = some (some (.builtin "object.__setattr__"))),
  fun K => decide (PySem.W.findIn K (.ref (He.ga K "NoCase")) "__getattribute__" = some (some (.builtin "BaseException.__getattribute__"))),
  fun K => decide (PySem.W.findIn K (.ref (He.ga K "NoCase")) "__getattr__" = some none),
  fun K => decide (PySem.W.findIn K (.ref (He.ga K "NoCase")) "__class__" = some (some (.builtin "object.__class__"))),
  fun K => decide (PySem.W.mroIn K (He.ga K "NoCase") (.type "object") = some true),
  fun K => decide (PySem.W.keepIn K (.ref (He.ga K "NoCase")) = true),
  fun K => decide (PySem.W.subIn K (.ref (He.ga K "NoCase")) (.type "BaseException") = some true),
  fun K => decide (PySem.W.typeIn K (.ref (He.ga K "NoCase")) = some (.type "type")),
  fun K => decide (PySem.W.hasDictIn K (He.ga K "NoCase") = true),
  fun K => decide (PySem.W.findIn K (.ref (He.ga K "NoCase")) "__init__" = some (some (.ref (He.ma K (He.ga K "NoCase") "__init__")))),
  fun K => decide (PySem.W.typeIn K (.ref (He.ma K (He.ga K "NoCase") "__init__")) = some (.type "function"))]
def fa7 : List Hk.Fk := [
  fun K => decide (PySem.W.keepIn K (.ref (He.ma K (He.ga K "NoCase") "__init__")) = true),
  fun K => decide (PySem.W.findIn K (.ref (He.ga K "NoCase")) "part" = some none),
  fun K => decide (PySem.W.findIn K (.ref (He.ga K "NoCase")) "number" = some none),
  fun K => decide (PySem.W.subIn K (.ref (He.ga K "NoCase")) (.ref (He.ga K "NoCase")) = some true),
  fun K => decide (PySem.W.kitOne K (.ref (He.ga K "NoCase")) (.type "ValueError") = some true),
  fun K => decide (PySem.W.nsIn K mainGlobals "Case" = some (some (.ref (He.ga K "Case")))),
  fun K => decide (PySem.W.plainGet K (He.ga K "Case") Str.empty = true),
  fun K => decide (PySem.W.hasDictIn K (He.ga K "Case") = true),
  fun K => decide (PySem.W.plainOver K (He.ga K "Case") = true),
  fun K => decide (PySem.W.findIn K (.ref (He.ga K "Case")) "__setattr__" = some (some (.builtin "object.__setattr__"))),
  fun K => decide (PySem.W.makesIn K (He.ga K "Case") = true),
  fun K => decide (PySem.W.keepIn K (.ref (He.ga K "Case")) = true),
  fun K => decide (PySem.W.nsIn K (Hk.nsA K (He.ga K "Case")) "__ne__" = some none),
  fun K => decide (PySem.W.findIn K (.ref (He.ga K "Case")) "__class__" = some (some (.builtin "object.__class__"))),
  fun K => decide (PySem.W.mroIn K (He.ga K "Case") (.type "object") = some true),
  fun K => decide (PySem.W.kitOne K (.ref (He.ga K "Case")) (.ref (He.ga K "Case")) = some true)]
def fa8 : List Hk.Fk := [
  fun K => decide (PySem.W.nsOkIn K (Hk.nsA K (He.ga K "Case")) = true),
  fun K => decide (PySem.W.findIn K (.ref (He.ga K "Case")) "__init__" = some (some (.ref (He.ma K (He.ga K "Case") "__init__")))),
  fun K => decide (PySem.W.isFn K (.ref (He.ma K (He.ga K "Case") "__init__")) = true),
  fun K => decide (PySem.W.keepIn K (.ref (He.ma K (He.ga K "Case") "__init__")) = true),
  fun K => decide (PySem.W.findIn K (.ref (He.ga K "Case")) "own_shares" = some none),
  fun K => decide (PySem.W.findIn K (.ref (He.ga K "Case")) "own_hearer" = some none),
  fun K => decide (PySem.W.findIn K (.ref (He.ga K "Case")) "own_teller" = some none),
  fun K => decide (PySem.W.findIn K (.ref (He.ga K "Case")) "__eq__" = some (some (.ref (He.ma K (He.ga K "Case") "__eq__")))),
  fun K => decide (PySem.W.isFn K (.ref (He.ma K (He.ga K "Case") "__eq__")) = true),
  fun K => decide (PySem.W.keepIn K (.ref (He.ma K (He.ga K "Case") "__eq__")) = true),
  fun K => decide (PySem.W.nsIn K (Hk.nsA K (He.ga K "Case")) "__eq__" = some (some (.ref (He.ma K (He.ga K "Case") "__eq__")))),
  fun K => decide (PySem.W.findIn K (.ref (He.ga K "Case")) "worlds" = some (some (.ref (He.ma K (He.ga K "Case") "worlds")))),
  fun K => decide (PySem.W.isFn K (.ref (He.ma K (He.ga K "Case") "worlds")) = true),
  fun K => decide (PySem.W.keepIn K (.ref (He.ma K (He.ga K "Case") "worlds")) = true),
  fun K => decide (PySem.W.findIn K (.ref (He.ga K "Case")) "deeds" = some (some (.ref (He.ma K (He.ga K "Case") "deeds")))),
  fun K => decide (PySem.W.isFn K (.ref (He.ma K (He.ga K "Case") "deeds")) = true)]
def fa9 : List Hk.Fk := [
  fun K => decide (PySem.W.keepIn K (.ref (He.ma K (He.ga K "Case") "deeds")) = true),
  fun K => decide (PySem.W.findIn K (.ref (He.ga K "Case")) "shares" = some (some (.ref (He.ma K (He.ga K "Case") "shares")))),
  fun K => decide (PySem.W.isFn K (.ref (He.ma K (He.ga K "Case") "shares")) = true),
  fun K => decide (PySem.W.keepIn K (.ref (He.ma K (He.ga K "Case") "shares")) = true),
  fun K => decide (PySem.W.findIn K (.ref (He.ga K "Case")) "hearer" = some (some (.ref (He.ma K (He.ga K "Case") "hearer")))),
  fun K => decide (PySem.W.isFn K (.ref (He.ma K (He.ga K "Case") "hearer")) = true),
  fun K => decide (PySem.W.keepIn K (.ref (He.ma K (He.ga K "Case") "hearer")) = true),
  fun K => decide (PySem.W.findIn K (.ref (He.ga K "Case")) "teller" = some (some (.ref (He.ma K (He.ga K "Case") "teller")))),
  fun K => decide (PySem.W.isFn K (.ref (He.ma K (He.ga K "Case") "teller")) = true),
  fun K => decide (PySem.W.keepIn K (.ref (He.ma K (He.ga K "Case") "teller")) = true),
  fun K => decide (PySem.W.findIn K (.ref (He.ga K "Case")) "with_shares" = some (some (.ref (He.ma K (He.ga K "Case") "with_shares")))),
  fun K => decide (PySem.W.isFn K (.ref (He.ma K (He.ga K "Case") "with_shares")) = true),
  fun K => decide (PySem.W.keepIn K (.ref (He.ma K (He.ga K "Case") "with_shares")) = true),
  fun K => decide (PySem.W.findIn K (.ref (He.ga K "Case")) "__len__" = some (some (.ref (He.ma K (He.ga K "Case") "__len__")))),
  fun K => decide (PySem.W.isFn K (.ref (He.ma K (He.ga K "Case") "__len__")) = true),
  fun K => decide (PySem.W.keepIn K (.ref (He.ma K (He.ga K "Case") "__len__")) = true)]
def fa10 : List Hk.Fk := [
  fun K => decide (PySem.W.findIn K (.ref (He.ga K "Case")) "__str__" = some (some (.ref (He.ma K (He.ga K "Case") "__str__")))),
  fun K => decide (PySem.W.isFn K (.ref (He.ma K (He.ga K "Case") "__str__")) = true),
  fun K => decide (PySem.W.keepIn K (.ref (He.ma K (He.ga K "Case") "__str__")) = true),
  fun K => decide (PySem.W.findIn K (.ref (He.ga K "Case")) "__repr__" = some (some (.ref (He.ma K (He.ga K "Case") "__repr__")))),
  fun K => decide (PySem.W.isFn K (.ref (He.ma K (He.ga K "Case") "__repr__")) = true),
  fun K => decide (PySem.W.keepIn K (.ref (He.ma K (He.ga K "Case") "__repr__")) = true),
  fun K => decide (PySem.W.kitOne K (.type "NoneType") (.ref (He.ga K "Case")) = some false),
  fun K => decide (PySem.W.kitOne K (.type "int") (.ref (He.ga K "Case")) = some false),
  fun K => decide (PySem.W.kitOne K (.type "list") (.ref (He.ga K "Case")) = some false),
  fun K => decide (PySem.W.kitOne K (.type "bool") (.ref (He.ga K "Case")) = some false),
  fun K => decide (PySem.W.kitOne K (.type "str") (.ref (He.ga K "Case")) = some false),
  fun K => decide (PySem.W.kitOne K (.type "tuple") (.ref (He.ga K "Case")) = some false),
  fun K => decide (PySem.W.mroIn K (He.ga K "Case") (.type "NoneType") = some false),
  fun K => decide (PySem.W.nsIn K mainGlobals "abs" = some none),
  fun K => decide (PySem.W.nsIn K mainGlobals "isinstance" = some none),
  fun K => decide (PySem.W.nsIn K mainGlobals "int" = some none)]
def fa11 : List Hk.Fk := [
  fun K => decide (PySem.W.nsIn K mainGlobals "bool" = some none),
  fun K => decide (PySem.W.nsIn K mainGlobals "tuple" = some none),
  fun K => decide (PySem.W.nsIn K mainGlobals "list" = some none),
  fun K => decide (PySem.W.nsIn K mainGlobals "len" = some none),
  fun K => decide (PySem.W.nsIn K mainGlobals "range" = some none),
  fun K => decide (PySem.W.nsIn K mainGlobals "str" = some none),
  fun K => decide (PySem.W.nsIn K mainGlobals "repr" = some none),
  fun K => decide (PySem.W.nsIn K mainGlobals "sum" = some none),
  fun K => decide (PySem.W.nsIn K mainGlobals "all" = some none),
  fun K => decide (PySem.W.nsIn K mainGlobals "any" = some none),
  fun K => decide (PySem.W.nsIn K mainGlobals "enumerate" = some none),
  fun K => decide (PySem.W.nsIn K mainGlobals "zip" = some none),
  fun K => decide (PySem.W.nsIn K mainGlobals "min" = some none),
  fun K => decide (PySem.W.nsIn K mainGlobals "max" = some none),
  fun K => decide (PySem.W.nsIn K mainGlobals "sorted" = some none),
  fun K => decide (PySem.W.nsIn K mainGlobals "ValueError" = some none)]
def fa12 : List Hk.Fk := [
  fun K => decide (PySem.W.nsIn K mainGlobals "ZeroDivisionError" = some none),
  fun K => decide (PySem.W.nsIn K mainGlobals "OverflowError" = some none),
  fun K => decide (PySem.W.nsIn K mainGlobals "IndexError" = some none),
  fun K => decide (PySem.W.nsIn K mainGlobals "LookupError" = some none),
  fun K => decide (PySem.W.nsIn K mainGlobals "ArithmeticError" = some none),
  fun K => decide (PySem.W.nsIn K mainGlobals "KeyError" = some none),
  fun K => decide (PySem.W.nsIn K mainGlobals "RuntimeError" = some none)]
def pk0 : List (List Hk.Fk) := [fa0, fa1, fa2, fa3, fa4, fa5, fa6, fa7, fa8, fa9]
def pk1 : List (List Hk.Fk) := [fa10, fa11, fa12]
def faa : List (List Hk.Fk) := pk0 ++ (pk1)
def fns0 : List He.FnD := [
  ⟨("is_whole", none), "is_whole", "is_whole", defArgs sWhole, defBody sWhole, defScope sWhole⟩,
  ⟨("is_ratio", none), "is_ratio", "is_ratio", defArgs sIsR, defBody sIsR, defScope sIsR⟩,
  ⟨("plus", none), "plus", "plus", defArgs sPlus, defBody sPlus, defScope sPlus⟩,
  ⟨("lowest", none), "lowest", "lowest", defArgs sLowest, defBody sLowest, defScope sLowest⟩,
  ⟨("divisor", none), "divisor", "divisor", defArgs sDiv, defBody sDiv, defScope sDiv⟩,
  ⟨("is_list_of", none), "is_list_of", "is_list_of", defArgs sListOf, defBody sListOf, defScope sListOf⟩,
  ⟨("is_share", none), "is_share", "is_share", defArgs sShare, defBody sShare, defScope sShare⟩,
  ⟨("is_ratio_row", none), "is_ratio_row", "is_ratio_row", defArgs sRRow, defBody sRRow, defScope sRRow⟩,
  ⟨("wrong_row", none), "wrong_row", "wrong_row", defArgs sWrong, defBody sWrong, defScope sWrong⟩,
  ⟨("copied_rows", none), "copied_rows", "copied_rows", defArgs sCopied, defBody sCopied, defScope sCopied⟩,
  ⟨("check_shares", none), "check_shares", "check_shares", defArgs sChkS, defBody sChkS, defScope sChkS⟩,
  ⟨("check_gains", none), "check_gains", "check_gains", defArgs sChkG, defBody sChkG, defScope sChkG⟩,
  ⟨("_law_left", none), "_law_left", "_law_left", defArgs sLeft, defBody sLeft, defScope sLeft⟩,
  ⟨("_law_digit", none), "_law_digit", "_law_digit", defArgs sDigit, defBody sDigit, defScope sDigit⟩,
  ⟨("_law_low", none), "_law_low", "_law_low", defArgs sLow, defBody sLow, defScope sLow⟩,
  ⟨("_law_plus", none), "_law_plus", "_law_plus", defArgs sLPlus, defBody sLPlus, defScope sLPlus⟩,
  ⟨("_law_shares", none), "_law_shares", "_law_shares", defArgs sShares, defBody sShares, defScope sShares⟩,
  ⟨("_law_gain", none), "_law_gain", "_law_gain", defArgs sGain, defBody sGain, defScope sGain⟩,
  ⟨("_law_gains", none), "_law_gains", "_law_gains", defArgs sGains, defBody sGains, defScope sGains⟩,
  ⟨("_law_parts", none), "_law_parts", "_law_parts", defArgs sParts, defBody sParts, defScope sParts⟩,
  ⟨("_law_changed", none), "_law_changed", "_law_changed", defArgs sChg06, defBody sChg06, defScope sChg06⟩,
  ⟨("_law_text", none), "_law_text", "_law_text", defArgs sTxt06, defBody sTxt06, defScope sTxt06⟩,
  ⟨("_law_copy", none), "_law_copy", "_law_copy", defArgs sCopy06, defBody sCopy06, defScope sCopy06⟩,
  ⟨("_law_is", none), "_law_is", "_law_is", defArgs sIs06, defBody sIs06, defScope sIs06⟩,
  ⟨("_law_shared", none), "_law_shared", "_law_shared", defArgs sShd06, defBody sShd06, defScope sShd06⟩,
  ⟨("_law_later", none), "_law_later", "_law_later", defArgs sLtr06, defBody sLtr06, defScope sLtr06⟩,
  ⟨("law", none), "law", "law", defArgs sLaw, defBody sLaw, defScope sLaw⟩,
  ⟨("NoCase", some "__init__"), "__init__", "NoCase.__init__", defArgs sNcInit, defBody sNcInit, defScope sNcInit⟩,
  ⟨("Case", some "__init__"), "__init__", "Case.__init__", defArgs sCInit, defBody sCInit, defScope sCInit⟩,
  ⟨("Case", some "__eq__"), "__eq__", "Case.__eq__", defArgs sCEq, defBody sCEq, defScope sCEq⟩]
def fns1 : List He.FnD := [
  ⟨("Case", some "worlds"), "worlds", "Case.worlds", defArgs sCWorlds, defBody sCWorlds, defScope sCWorlds⟩,
  ⟨("Case", some "deeds"), "deeds", "Case.deeds", defArgs sCDeeds, defBody sCDeeds, defScope sCDeeds⟩,
  ⟨("Case", some "shares"), "shares", "Case.shares", defArgs sCShares, defBody sCShares, defScope sCShares⟩,
  ⟨("Case", some "hearer"), "hearer", "Case.hearer", defArgs sCHearer, defBody sCHearer, defScope sCHearer⟩,
  ⟨("Case", some "teller"), "teller", "Case.teller", defArgs sCTeller, defBody sCTeller, defScope sCTeller⟩,
  ⟨("Case", some "with_shares"), "with_shares", "Case.with_shares", defArgs sCWith, defBody sCWith, defScope sCWith⟩,
  ⟨("Case", some "__len__"), "__len__", "Case.__len__", defArgs sCLen, defBody sCLen, defScope sCLen⟩,
  ⟨("Case", some "__str__"), "__str__", "Case.__str__", defArgs sCStr, defBody sCStr, defScope sCStr⟩,
  ⟨("Case", some "__repr__"), "__repr__", "Case.__repr__", defArgs sCRepr, defBody sCRepr, defScope sCRepr⟩]
def fns : List He.FnD := fns0 ++ (fns1)
def fds : List He.DefD := [⟨("total", none), "total", "total", defArgs sTotal, defBody sTotal, defScope sTotal, [.non], []⟩]
def nm0 : List PySem.Str := ["__name__", "NoCase", "is_whole", "is_ratio", "plus", "total", "lowest", "divisor", "MOST_WORLDS", "MOST_DEEDS", "is_list_of", "is_share", "is_ratio_row", "wrong_row", "copied_rows", "Case", "check_shares", "check_gains", "_law_left", "_law_digit", "_law_low", "_law_plus", "_law_less", "_law_times", "_law_under"]
def nm1 : List PySem.Str := ["_law_shares", "_law_gain", "_law_gains", "_law_parts", "_law_changed", "_law_text", "_law_copy", "_law_is", "_law_shared", "_law_later"]
def names : List PySem.Str := nm0 ++ nm1
def as0 : List Addr := [3, 6, 4, 31, 41, 48, 55, 63, 70, 77, 84, 91, 96, 103, 108, 195, 206, 213, 220, 227, 234, 241, 248, 255, 262]
def as1 : List Addr := [267, 274, 279, 284, 289, 296, 301, 306, 311, 318, 323, 0, 30, 40, 47, 54, 62, 56, 69, 76, 83, 90, 95, 102, 107]
def as2 : List Addr := [194, 205, 212, 219, 226, 233, 240, 247, 254, 261, 266, 273, 278, 283, 288, 295, 300, 305, 310, 317, 322, 28, 29, 32, 35]
def as3 : List Addr := [36, 37, 38, 39, 42, 43, 44, 45, 46, 49, 50, 51, 52, 53, 57, 58, 59, 60, 61, 64, 65, 66, 67, 68, 71]
def as4 : List Addr := [72, 73, 74, 75, 78, 79, 80, 81, 82, 85, 86, 87, 88, 89, 92, 93, 94, 97, 98, 99, 100, 101, 104, 105, 106]
def as5 : List Addr := [122, 129, 136, 143, 150, 157, 164, 171, 178, 185, 192, 193, 196, 197, 200, 201, 202, 203, 204, 207, 208, 209, 210, 211, 214]
def as6 : List Addr := [215, 216, 217, 218, 221, 222, 223, 224, 225, 228, 229, 230, 231, 232, 235, 236, 237, 238, 239, 242, 243, 244, 245, 246, 249]
def as7 : List Addr := [250, 251, 252, 253, 256, 257, 258, 259, 260, 263, 264, 265, 268, 269, 270, 271, 272, 275, 276, 277, 280, 281, 282, 285, 286]
def as8 : List Addr := [287, 290, 291, 292, 293, 294, 297, 298, 299, 302, 303, 304, 307, 308, 309, 312, 313, 314, 315, 316, 319, 320, 321, 27, 121]
def as9 : List Addr := [128, 135, 142, 149, 156, 163, 170, 177, 184, 191, 22, 23, 24, 25, 26, 116, 117, 118, 119, 120, 123, 124, 125, 126, 127]
def as10 : List Addr := [130, 131, 132, 133, 134, 137, 138, 139, 140, 141, 144, 145, 146, 147, 148, 151, 152, 153, 154, 155, 158, 159, 160, 161, 162]
def as11 : List Addr := [165, 166, 167, 168, 169, 172, 173, 174, 175, 176, 179, 180, 181, 182, 183, 186, 187, 188, 189, 190]
def as : List Addr := as0 ++ (as1 ++ (as2 ++ (as3 ++ (as4 ++ (as5 ++ (as6 ++ (as7 ++ (as8 ++ (as9 ++ (as10 ++ (as11)))))))))))
abbrev R : PySem.W.OpenRow := PySem.W.OpenLaw.row PySem.Challenge.rw_besttelling_k06_cases_told
abbrev hkx : PySem.W.Hook := Hk.hook as faa fns fds
def ob (s : PySem.W.SharedT) : Hk.Ao := Hk.seeG as faa fns fds (HandSHeadRun.getT s)
theorem ob_eq (s : PySem.W.SharedT) : ob s = hkx.obs s.abs := Hk.seeG_eq (HandSHeadRun.getT_eq s)
abbrev kf (s : PySem.W.SharedT) : PySem.W.Frag := He.frG (HandSHeadRun.getT s) as
abbrev qv : Program := PySem.W.view R.prog [39]
noncomputable abbrev Ev (w : World) (os : OsState) : Option PySem.W.SharedT := HandSHeadRun.endF (HandSHeadRun.stepQ (HandSHeadRun.denQ HandSHeadRun.tabQ) R.prog w) 12000 R.prog w os
set_option maxHeartbeats 0
theorem run_a (w : World) (os : OsState) : (Ev w os).map (fun s => HandSHeadRun.looksF R.prog (PySem.W.boot_heap w.params) s.abs) = some true := by
  kernel_rfl
theorem run_b (w : World) (os : OsState) : (Ev w os).map (fun s => HandSHeadRun.seenQ qv names (importedModules R.prog.main.body) (fun s => PySem.W.xlAt qv [] s && PySem.W.recOk R.toRowW.records s) s.abs) = some (PySem.W.openGood qv names) := by
  kernel_rfl
theorem run_f0 (w : World) (os : OsState) : (Ev w os).map (Hk.facB kf pk0) = some true := by
  kernel_rfl
theorem run_f1 (w : World) (os : OsState) : (Ev w os).map (Hk.facB kf pk1) = some true := by
  kernel_rfl
theorem run_d0 (w : World) (os : OsState) : (Ev w os).map (Hk.defB kf fns0) = some (fns0.map He.FnD.val) := by
  kernel_rfl
theorem run_d1 (w : World) (os : OsState) : (Ev w os).map (Hk.defB kf fns1) = some (fns1.map He.FnD.val) := by
  kernel_rfl
theorem run_e (w : World) (os : OsState) : (Ev w os).map (fun s => fds.map (fun d => He.fnW (kf s) d.at_)) = some (fds.map He.DefD.val) := by
  kernel_rfl
theorem run (w : World) : HandSHeadRun.RunEq R qv hkx ob 12000 names w := fun os => Hk.both (run_a w os) (Hk.both (run_b w os) (Hk.both (Hk.facs (run_f0 w os) (run_f1 w os)) (Hk.both (Hk.defs (run_d0 w os) (run_d1 w os)) (run_e w os))))
end K06
open PySem PySem.W PySem.Calls PyProof.Rows
set_option maxRecDepth 100000 in
set_option maxHeartbeats 0 in
theorem PySem.Challenge.cw_besttelling_k06_cases_told_holds : PySem.Challenge.rw_besttelling_k06_cases_told.Holds := by
  w_on; o_law
  refine HandSHeadRun.head_any (r := OpenLaw.row PySem.Challenge.rw_besttelling_k06_cases_told) (q := view (OpenLaw.row PySem.Challenge.rw_besttelling_k06_cases_told).prog [39]) (H := K06.hkx) (ob := K06.ob) (M := 12000) (loose := K06.names) (d := HandSHeadRun.topDef (OpenLaw.row PySem.Challenge.rw_besttelling_k06_cases_told).prog 39) (kwd := []) K06.ob_eq
    (by kernel_rfl) (fun s => by kernel_rfl) K06.run (by kernel_rfl) (by kernel_rfl) (by kernel_rfl) (by rfl) (by first | assumption | decide +kernel) (by decide +kernel) ⟨rfl, rfl, rfl, rfl, rfl, by decide +kernel⟩ ?hw ?hc
  case hw => w_witness2
  case hc =>
    refine Hk.walk_ofEG (l := PySem.Challenge.rw_besttelling_k06_cases_told) (n := 63) (k := 15) (x := "_law_script") (CX := L2.CX0) rfl (by decide) (by kernel_rfl) ⟨rfl, by decide, by decide⟩ ?F (fun _ _ _ _ z => z)
    intro w mg fa h Y G hmg0
    obtain ⟨K, KX, c⟩ := Y
    have hmg : mg ("law" : PySem.Str) = some (.ref fa) := by
      have e : (HandSHeadRun.topDef (OpenLaw.row PySem.Challenge.rw_besttelling_k06_cases_told).prog 39).name = ("law" : PySem.Str) := by kernel_rfl
      rw [← e]
      exact hmg0
    obtain ⟨oc_d_is_whole, od_d_is_whole, sl_d_is_whole, kV_d_is_whole, dc_d_is_whole, pm_d_is_whole, an_d_is_whole, cd_d_is_whole, ct_d_is_whole, l_d_is_whole, c_d_is_whole⟩ := c.fnAt 0 rfl (c.fact 0 0 rfl rfl)
    obtain ⟨oc_d_is_ratio, od_d_is_ratio, sl_d_is_ratio, kV_d_is_ratio, dc_d_is_ratio, pm_d_is_ratio, an_d_is_ratio, cd_d_is_ratio, ct_d_is_ratio, l_d_is_ratio, c_d_is_ratio⟩ := c.fnAt 1 rfl (c.fact 0 1 rfl rfl)
    obtain ⟨oc_d_plus, od_d_plus, sl_d_plus, kV_d_plus, dc_d_plus, pm_d_plus, an_d_plus, cd_d_plus, ct_d_plus, l_d_plus, c_d_plus⟩ := c.fnAt 2 rfl (c.fact 0 2 rfl rfl)
    obtain ⟨oc_d_lowest, od_d_lowest, sl_d_lowest, kV_d_lowest, dc_d_lowest, pm_d_lowest, an_d_lowest, cd_d_lowest, ct_d_lowest, l_d_lowest, c_d_lowest⟩ := c.fnAt 3 rfl (c.fact 0 3 rfl rfl)
    obtain ⟨oc_d_divisor, od_d_divisor, sl_d_divisor, kV_d_divisor, dc_d_divisor, pm_d_divisor, an_d_divisor, cd_d_divisor, ct_d_divisor, l_d_divisor, c_d_divisor⟩ := c.fnAt 4 rfl (c.fact 0 4 rfl rfl)
    obtain ⟨oc_d_is_list_of, od_d_is_list_of, sl_d_is_list_of, kV_d_is_list_of, dc_d_is_list_of, pm_d_is_list_of, an_d_is_list_of, cd_d_is_list_of, ct_d_is_list_of, l_d_is_list_of, c_d_is_list_of⟩ := c.fnAt 5 rfl (c.fact 0 5 rfl rfl)
    obtain ⟨oc_d_is_share, od_d_is_share, sl_d_is_share, kV_d_is_share, dc_d_is_share, pm_d_is_share, an_d_is_share, cd_d_is_share, ct_d_is_share, l_d_is_share, c_d_is_share⟩ := c.fnAt 6 rfl (c.fact 0 6 rfl rfl)
    obtain ⟨oc_d_is_ratio_row, od_d_is_ratio_row, sl_d_is_ratio_row, kV_d_is_ratio_row, dc_d_is_ratio_row, pm_d_is_ratio_row, an_d_is_ratio_row, cd_d_is_ratio_row, ct_d_is_ratio_row, l_d_is_ratio_row, c_d_is_ratio_row⟩ := c.fnAt 7 rfl (c.fact 0 7 rfl rfl)
    obtain ⟨oc_d_wrong_row, od_d_wrong_row, sl_d_wrong_row, kV_d_wrong_row, dc_d_wrong_row, pm_d_wrong_row, an_d_wrong_row, cd_d_wrong_row, ct_d_wrong_row, l_d_wrong_row, c_d_wrong_row⟩ := c.fnAt 8 rfl (c.fact 0 8 rfl rfl)
    obtain ⟨oc_d_copied_rows, od_d_copied_rows, sl_d_copied_rows, kV_d_copied_rows, dc_d_copied_rows, pm_d_copied_rows, an_d_copied_rows, cd_d_copied_rows, ct_d_copied_rows, l_d_copied_rows, c_d_copied_rows⟩ := c.fnAt 9 rfl (c.fact 0 9 rfl rfl)
    obtain ⟨oc_d_check_shares, od_d_check_shares, sl_d_check_shares, kV_d_check_shares, dc_d_check_shares, pm_d_check_shares, an_d_check_shares, cd_d_check_shares, ct_d_check_shares, l_d_check_shares, c_d_check_shares⟩ := c.fnAt 10 rfl (c.fact 0 10 rfl rfl)
    obtain ⟨oc_d_check_gains, od_d_check_gains, sl_d_check_gains, kV_d_check_gains, dc_d_check_gains, pm_d_check_gains, an_d_check_gains, cd_d_check_gains, ct_d_check_gains, l_d_check_gains, c_d_check_gains⟩ := c.fnAt 11 rfl (c.fact 0 11 rfl rfl)
    obtain ⟨oc_d_law_left, od_d_law_left, sl_d_law_left, kV_d_law_left, dc_d_law_left, pm_d_law_left, an_d_law_left, cd_d_law_left, ct_d_law_left, l_d_law_left, c_d_law_left⟩ := c.fnAt 12 rfl (c.fact 0 12 rfl rfl)
    obtain ⟨oc_d_law_digit, od_d_law_digit, sl_d_law_digit, kV_d_law_digit, dc_d_law_digit, pm_d_law_digit, an_d_law_digit, cd_d_law_digit, ct_d_law_digit, l_d_law_digit, c_d_law_digit⟩ := c.fnAt 13 rfl (c.fact 0 13 rfl rfl)
    obtain ⟨oc_d_law_low, od_d_law_low, sl_d_law_low, kV_d_law_low, dc_d_law_low, pm_d_law_low, an_d_law_low, cd_d_law_low, ct_d_law_low, l_d_law_low, c_d_law_low⟩ := c.fnAt 14 rfl (c.fact 0 14 rfl rfl)
    obtain ⟨oc_d_law_plus, od_d_law_plus, sl_d_law_plus, kV_d_law_plus, dc_d_law_plus, pm_d_law_plus, an_d_law_plus, cd_d_law_plus, ct_d_law_plus, l_d_law_plus, c_d_law_plus⟩ := c.fnAt 15 rfl (c.fact 0 15 rfl rfl)
    obtain ⟨oc_d_law_shares, od_d_law_shares, sl_d_law_shares, kV_d_law_shares, dc_d_law_shares, pm_d_law_shares, an_d_law_shares, cd_d_law_shares, ct_d_law_shares, l_d_law_shares, c_d_law_shares⟩ := c.fnAt 16 rfl (c.fact 1 0 rfl rfl)
    obtain ⟨oc_d_law_gain, od_d_law_gain, sl_d_law_gain, kV_d_law_gain, dc_d_law_gain, pm_d_law_gain, an_d_law_gain, cd_d_law_gain, ct_d_law_gain, l_d_law_gain, c_d_law_gain⟩ := c.fnAt 17 rfl (c.fact 1 1 rfl rfl)
    obtain ⟨oc_d_law_gains, od_d_law_gains, sl_d_law_gains, kV_d_law_gains, dc_d_law_gains, pm_d_law_gains, an_d_law_gains, cd_d_law_gains, ct_d_law_gains, l_d_law_gains, c_d_law_gains⟩ := c.fnAt 18 rfl (c.fact 1 2 rfl rfl)
    obtain ⟨oc_d_law_parts, od_d_law_parts, sl_d_law_parts, kV_d_law_parts, dc_d_law_parts, pm_d_law_parts, an_d_law_parts, cd_d_law_parts, ct_d_law_parts, l_d_law_parts, c_d_law_parts⟩ := c.fnAt 19 rfl (c.fact 1 3 rfl rfl)
    obtain ⟨oc_d_law_changed, od_d_law_changed, sl_d_law_changed, kV_d_law_changed, dc_d_law_changed, pm_d_law_changed, an_d_law_changed, cd_d_law_changed, ct_d_law_changed, l_d_law_changed, c_d_law_changed⟩ := c.fnAt 20 rfl (c.fact 1 4 rfl rfl)
    obtain ⟨oc_d_law_text, od_d_law_text, sl_d_law_text, kV_d_law_text, dc_d_law_text, pm_d_law_text, an_d_law_text, cd_d_law_text, ct_d_law_text, l_d_law_text, c_d_law_text⟩ := c.fnAt 21 rfl (c.fact 1 5 rfl rfl)
    obtain ⟨oc_d_law_copy, od_d_law_copy, sl_d_law_copy, kV_d_law_copy, dc_d_law_copy, pm_d_law_copy, an_d_law_copy, cd_d_law_copy, ct_d_law_copy, l_d_law_copy, c_d_law_copy⟩ := c.fnAt 22 rfl (c.fact 1 6 rfl rfl)
    obtain ⟨oc_d_law_is, od_d_law_is, sl_d_law_is, kV_d_law_is, dc_d_law_is, pm_d_law_is, an_d_law_is, cd_d_law_is, ct_d_law_is, l_d_law_is, c_d_law_is⟩ := c.fnAt 23 rfl (c.fact 1 7 rfl rfl)
    obtain ⟨oc_d_law_shared, od_d_law_shared, sl_d_law_shared, kV_d_law_shared, dc_d_law_shared, pm_d_law_shared, an_d_law_shared, cd_d_law_shared, ct_d_law_shared, l_d_law_shared, c_d_law_shared⟩ := c.fnAt 24 rfl (c.fact 1 8 rfl rfl)
    obtain ⟨oc_d_law_later, od_d_law_later, sl_d_law_later, kV_d_law_later, dc_d_law_later, pm_d_law_later, an_d_law_later, cd_d_law_later, ct_d_law_later, l_d_law_later, c_d_law_later⟩ := c.fnAt 25 rfl (c.fact 1 9 rfl rfl)
    obtain ⟨oc_d_law, od_d_law, sl_d_law, kV_d_law, dc_d_law, pm_d_law, an_d_law, cd_d_law, ct_d_law, l_d_law, c_d_law⟩ := c.fnAt 26 rfl (c.fact 1 10 rfl rfl)
    obtain ⟨oc_i_N, od_i_N, sl_i_N, kV_i_N, dc_i_N, pm_i_N, an_i_N, cd_i_N, ct_i_N, l_i_N, c_i_N⟩ := c.fnAt 27 rfl (c.fact 1 11 rfl rfl)
    obtain ⟨oc_m_C_init, od_m_C_init, sl_m_C_init, kV_m_C_init, dc_m_C_init, pm_m_C_init, an_m_C_init, cd_m_C_init, ct_m_C_init, l_m_C_init, c_m_C_init⟩ := c.fnAt 28 rfl (c.fact 1 12 rfl rfl)
    obtain ⟨oc_m_C_eq, od_m_C_eq, sl_m_C_eq, kV_m_C_eq, dc_m_C_eq, pm_m_C_eq, an_m_C_eq, cd_m_C_eq, ct_m_C_eq, l_m_C_eq, c_m_C_eq⟩ := c.fnAt 29 rfl (c.fact 1 13 rfl rfl)
    obtain ⟨oc_m_C_worlds, od_m_C_worlds, sl_m_C_worlds, kV_m_C_worlds, dc_m_C_worlds, pm_m_C_worlds, an_m_C_worlds, cd_m_C_worlds, ct_m_C_worlds, l_m_C_worlds, c_m_C_worlds⟩ := c.fnAt 30 rfl (c.fact 1 14 rfl rfl)
    obtain ⟨oc_m_C_deeds, od_m_C_deeds, sl_m_C_deeds, kV_m_C_deeds, dc_m_C_deeds, pm_m_C_deeds, an_m_C_deeds, cd_m_C_deeds, ct_m_C_deeds, l_m_C_deeds, c_m_C_deeds⟩ := c.fnAt 31 rfl (c.fact 1 15 rfl rfl)
    obtain ⟨oc_m_C_shares, od_m_C_shares, sl_m_C_shares, kV_m_C_shares, dc_m_C_shares, pm_m_C_shares, an_m_C_shares, cd_m_C_shares, ct_m_C_shares, l_m_C_shares, c_m_C_shares⟩ := c.fnAt 32 rfl (c.fact 2 0 rfl rfl)
    obtain ⟨oc_m_C_hearer, od_m_C_hearer, sl_m_C_hearer, kV_m_C_hearer, dc_m_C_hearer, pm_m_C_hearer, an_m_C_hearer, cd_m_C_hearer, ct_m_C_hearer, l_m_C_hearer, c_m_C_hearer⟩ := c.fnAt 33 rfl (c.fact 2 1 rfl rfl)
    obtain ⟨oc_m_C_teller, od_m_C_teller, sl_m_C_teller, kV_m_C_teller, dc_m_C_teller, pm_m_C_teller, an_m_C_teller, cd_m_C_teller, ct_m_C_teller, l_m_C_teller, c_m_C_teller⟩ := c.fnAt 34 rfl (c.fact 2 2 rfl rfl)
    obtain ⟨oc_m_C_with_shares, od_m_C_with_shares, sl_m_C_with_shares, kV_m_C_with_shares, dc_m_C_with_shares, pm_m_C_with_shares, an_m_C_with_shares, cd_m_C_with_shares, ct_m_C_with_shares, l_m_C_with_shares, c_m_C_with_shares⟩ := c.fnAt 35 rfl (c.fact 2 3 rfl rfl)
    obtain ⟨oc_m_C_len, od_m_C_len, sl_m_C_len, kV_m_C_len, dc_m_C_len, pm_m_C_len, an_m_C_len, cd_m_C_len, ct_m_C_len, l_m_C_len, c_m_C_len⟩ := c.fnAt 36 rfl (c.fact 2 4 rfl rfl)
    obtain ⟨oc_m_C_str, od_m_C_str, sl_m_C_str, kV_m_C_str, dc_m_C_str, pm_m_C_str, an_m_C_str, cd_m_C_str, ct_m_C_str, l_m_C_str, c_m_C_str⟩ := c.fnAt 37 rfl (c.fact 2 5 rfl rfl)
    obtain ⟨oc_m_C_repr, od_m_C_repr, sl_m_C_repr, kV_m_C_repr, dc_m_C_repr, pm_m_C_repr, an_m_C_repr, cd_m_C_repr, ct_m_C_repr, l_m_C_repr, c_m_C_repr⟩ := c.fnAt 38 rfl (c.fact 2 6 rfl rfl)
    obtain ⟨fd_d_total, FD_d_total⟩ := c.fdAt 0 rfl (c.fact 2 7 rfl rfl)
    obtain ⟨nm_N, q_N, N_N, bs_N, sn_N, su_N, ab_N, co_N, dd_N, m0_N, m1_N, m2_N, m3_N, m5_N, xC_N⟩ := Hk.clsT (c.fact 2 8 rfl rfl)
    obtain ⟨nm_C, q_C, bs_C, hc_C, sn_C, su_C, ab_C, co_C, dd_C, m0_C, m1_C, m2_C, m3_C, m5_C, xC_C, _⟩ := Hk.clsB_ok (c.fact 2 9 rfl rfl)
    obtain ⟨tk_5, g5_⟩ := Hk.intB_ok (c.fact 2 10 rfl rfl)
    obtain ⟨tk_6, g6_⟩ := Hk.intB_ok (c.fact 2 11 rfl rfl)
    obtain ⟨fd, hb, hF⟩ := K06.all_mk (l := PySem.Challenge.rw_besttelling_k06_cases_told) (w := w) KX G hmg
      (of_decide_eq_true (c.fact 2 13 rfl rfl))
      l_d_is_whole
      c_d_is_whole
      (of_decide_eq_true (c.fact 2 14 rfl rfl))
      (of_decide_eq_true (c.fact 2 15 rfl rfl))
      l_d_is_ratio
      c_d_is_ratio
      (of_decide_eq_true (c.fact 3 0 rfl rfl))
      (of_decide_eq_true (c.fact 3 1 rfl rfl))
      l_d_plus
      c_d_plus
      (of_decide_eq_true (c.fact 3 2 rfl rfl))
      (of_decide_eq_true (c.fact 3 3 rfl rfl))
      l_d_lowest
      c_d_lowest
      (of_decide_eq_true (c.fact 3 4 rfl rfl))
      (of_decide_eq_true (c.fact 3 5 rfl rfl))
      l_d_divisor
      c_d_divisor
      (of_decide_eq_true (c.fact 3 6 rfl rfl))
      (of_decide_eq_true (c.fact 3 7 rfl rfl))
      l_d_is_list_of
      c_d_is_list_of
      (of_decide_eq_true (c.fact 3 8 rfl rfl))
      (of_decide_eq_true (c.fact 3 9 rfl rfl))
      l_d_is_share
      c_d_is_share
      (of_decide_eq_true (c.fact 3 10 rfl rfl))
      (of_decide_eq_true (c.fact 3 11 rfl rfl))
      l_d_is_ratio_row
      c_d_is_ratio_row
      (of_decide_eq_true (c.fact 3 12 rfl rfl))
      (of_decide_eq_true (c.fact 3 13 rfl rfl))
      l_d_wrong_row
      c_d_wrong_row
      (of_decide_eq_true (c.fact 3 14 rfl rfl))
      (of_decide_eq_true (c.fact 3 15 rfl rfl))
      l_d_copied_rows
      c_d_copied_rows
      (of_decide_eq_true (c.fact 4 0 rfl rfl))
      (of_decide_eq_true (c.fact 4 1 rfl rfl))
      l_d_check_shares
      c_d_check_shares
      (of_decide_eq_true (c.fact 4 2 rfl rfl))
      (of_decide_eq_true (c.fact 4 3 rfl rfl))
      l_d_check_gains
      c_d_check_gains
      (of_decide_eq_true (c.fact 4 4 rfl rfl))
      (of_decide_eq_true (c.fact 4 5 rfl rfl))
      l_d_law_left
      c_d_law_left
      (of_decide_eq_true (c.fact 4 6 rfl rfl))
      (of_decide_eq_true (c.fact 4 7 rfl rfl))
      l_d_law_digit
      c_d_law_digit
      (of_decide_eq_true (c.fact 4 8 rfl rfl))
      (of_decide_eq_true (c.fact 4 9 rfl rfl))
      l_d_law_low
      c_d_law_low
      (of_decide_eq_true (c.fact 4 10 rfl rfl))
      (of_decide_eq_true (c.fact 4 11 rfl rfl))
      l_d_law_plus
      c_d_law_plus
      (of_decide_eq_true (c.fact 4 12 rfl rfl))
      (of_decide_eq_true (c.fact 4 13 rfl rfl))
      l_d_law_shares
      c_d_law_shares
      (of_decide_eq_true (c.fact 4 14 rfl rfl))
      (of_decide_eq_true (c.fact 4 15 rfl rfl))
      l_d_law_gain
      c_d_law_gain
      (of_decide_eq_true (c.fact 5 0 rfl rfl))
      (of_decide_eq_true (c.fact 5 1 rfl rfl))
      l_d_law_gains
      c_d_law_gains
      (of_decide_eq_true (c.fact 5 2 rfl rfl))
      (of_decide_eq_true (c.fact 5 3 rfl rfl))
      l_d_law_parts
      c_d_law_parts
      (of_decide_eq_true (c.fact 5 4 rfl rfl))
      (of_decide_eq_true (c.fact 5 5 rfl rfl))
      l_d_law_changed
      c_d_law_changed
      (of_decide_eq_true (c.fact 5 6 rfl rfl))
      (of_decide_eq_true (c.fact 5 7 rfl rfl))
      l_d_law_text
      c_d_law_text
      (of_decide_eq_true (c.fact 5 8 rfl rfl))
      (of_decide_eq_true (c.fact 5 9 rfl rfl))
      l_d_law_copy
      c_d_law_copy
      (of_decide_eq_true (c.fact 5 10 rfl rfl))
      (of_decide_eq_true (c.fact 5 11 rfl rfl))
      l_d_law_is
      c_d_law_is
      (of_decide_eq_true (c.fact 5 12 rfl rfl))
      (of_decide_eq_true (c.fact 5 13 rfl rfl))
      l_d_law_shared
      c_d_law_shared
      (of_decide_eq_true (c.fact 5 14 rfl rfl))
      (of_decide_eq_true (c.fact 5 15 rfl rfl))
      l_d_law_later
      c_d_law_later
      (of_decide_eq_true (c.fact 6 0 rfl rfl))
      (of_decide_eq_true (c.fact 6 1 rfl rfl))
      l_d_law
      c_d_law
      (of_decide_eq_true (c.fact 6 2 rfl rfl))
      (of_decide_eq_true (c.fact 6 3 rfl rfl))
      FD_d_total
      (of_decide_eq_true (c.fact 6 4 rfl rfl))
      xC_N
      (of_decide_eq_true (c.fact 6 5 rfl rfl))
      (of_decide_eq_true (c.fact 6 6 rfl rfl))
      (of_decide_eq_true (c.fact 6 7 rfl rfl))
      (of_decide_eq_true (c.fact 6 8 rfl rfl))
      (of_decide_eq_true (c.fact 6 9 rfl rfl))
      (of_decide_eq_true (c.fact 6 10 rfl rfl))
      (of_decide_eq_true (c.fact 6 11 rfl rfl))
      (of_decide_eq_true (c.fact 6 12 rfl rfl))
      (of_decide_eq_true (c.fact 6 13 rfl rfl))
      (by first | rfl | decide +kernel)
      (by first | rfl | decide +kernel)
      (by first | rfl | decide +kernel)
      (of_decide_eq_true (c.fact 6 14 rfl rfl))
      (of_decide_eq_true (c.fact 6 15 rfl rfl))
      l_i_N
      c_i_N
      (of_decide_eq_true (c.fact 7 0 rfl rfl))
      (of_decide_eq_true (c.fact 7 1 rfl rfl))
      (of_decide_eq_true (c.fact 7 2 rfl rfl))
      (of_decide_eq_true (c.fact 7 3 rfl rfl))
      (of_decide_eq_true (c.fact 7 4 rfl rfl))
      (of_decide_eq_true (c.fact 7 5 rfl rfl))
      (of_decide_eq_true (c.fact 7 6 rfl rfl))
      (of_decide_eq_true (c.fact 7 7 rfl rfl))
      (of_decide_eq_true (c.fact 7 8 rfl rfl))
      (of_decide_eq_true (c.fact 7 9 rfl rfl))
      (of_decide_eq_true (c.fact 7 10 rfl rfl))
      (of_decide_eq_true (c.fact 7 11 rfl rfl))
      xC_C
      (of_decide_eq_true (c.fact 7 12 rfl rfl))
      (of_decide_eq_true (c.fact 7 13 rfl rfl))
      (of_decide_eq_true (c.fact 7 14 rfl rfl))
      (of_decide_eq_true (c.fact 7 15 rfl rfl))
      (of_decide_eq_true (c.fact 8 0 rfl rfl))
      (of_decide_eq_true (c.fact 8 1 rfl rfl))
      (of_decide_eq_true (c.fact 8 2 rfl rfl))
      l_m_C_init
      c_m_C_init
      (of_decide_eq_true (c.fact 8 3 rfl rfl))
      (of_decide_eq_true (c.fact 8 4 rfl rfl))
      (of_decide_eq_true (c.fact 8 5 rfl rfl))
      (of_decide_eq_true (c.fact 8 6 rfl rfl))
      g5_
      g6_
      (of_decide_eq_true (c.fact 8 7 rfl rfl))
      (of_decide_eq_true (c.fact 8 8 rfl rfl))
      l_m_C_eq
      c_m_C_eq
      (of_decide_eq_true (c.fact 8 9 rfl rfl))
      (of_decide_eq_true (c.fact 8 10 rfl rfl))
      (Hk.tyB_ok (c.fact 2 12 rfl rfl) l_m_C_eq)
      (of_decide_eq_true (c.fact 8 11 rfl rfl))
      (of_decide_eq_true (c.fact 8 12 rfl rfl))
      l_m_C_worlds
      c_m_C_worlds
      (of_decide_eq_true (c.fact 8 13 rfl rfl))
      (of_decide_eq_true (c.fact 8 14 rfl rfl))
      (of_decide_eq_true (c.fact 8 15 rfl rfl))
      l_m_C_deeds
      c_m_C_deeds
      (of_decide_eq_true (c.fact 9 0 rfl rfl))
      (of_decide_eq_true (c.fact 9 1 rfl rfl))
      (of_decide_eq_true (c.fact 9 2 rfl rfl))
      l_m_C_shares
      c_m_C_shares
      (of_decide_eq_true (c.fact 9 3 rfl rfl))
      (of_decide_eq_true (c.fact 9 4 rfl rfl))
      (of_decide_eq_true (c.fact 9 5 rfl rfl))
      l_m_C_hearer
      c_m_C_hearer
      (of_decide_eq_true (c.fact 9 6 rfl rfl))
      (of_decide_eq_true (c.fact 9 7 rfl rfl))
      (of_decide_eq_true (c.fact 9 8 rfl rfl))
      l_m_C_teller
      c_m_C_teller
      (of_decide_eq_true (c.fact 9 9 rfl rfl))
      (of_decide_eq_true (c.fact 9 10 rfl rfl))
      (of_decide_eq_true (c.fact 9 11 rfl rfl))
      l_m_C_with_shares
      c_m_C_with_shares
      (of_decide_eq_true (c.fact 9 12 rfl rfl))
      (of_decide_eq_true (c.fact 9 13 rfl rfl))
      (of_decide_eq_true (c.fact 9 14 rfl rfl))
      l_m_C_len
      c_m_C_len
      (of_decide_eq_true (c.fact 9 15 rfl rfl))
      (of_decide_eq_true (c.fact 10 0 rfl rfl))
      (of_decide_eq_true (c.fact 10 1 rfl rfl))
      l_m_C_str
      c_m_C_str
      (of_decide_eq_true (c.fact 10 2 rfl rfl))
      (of_decide_eq_true (c.fact 10 3 rfl rfl))
      (of_decide_eq_true (c.fact 10 4 rfl rfl))
      l_m_C_repr
      c_m_C_repr
      (of_decide_eq_true (c.fact 10 5 rfl rfl))
      (of_decide_eq_true (c.fact 10 6 rfl rfl))
      (of_decide_eq_true (c.fact 10 7 rfl rfl))
      (of_decide_eq_true (c.fact 10 8 rfl rfl))
      (of_decide_eq_true (c.fact 10 9 rfl rfl))
      (of_decide_eq_true (c.fact 10 10 rfl rfl))
      (of_decide_eq_true (c.fact 10 11 rfl rfl))
      (of_decide_eq_true (c.fact 10 12 rfl rfl))
      (of_decide_eq_true (c.fact 10 13 rfl rfl))
      (of_decide_eq_true (c.fact 10 14 rfl rfl))
      (of_decide_eq_true (c.fact 10 15 rfl rfl))
      (of_decide_eq_true (c.fact 11 0 rfl rfl))
      (of_decide_eq_true (c.fact 11 1 rfl rfl))
      (of_decide_eq_true (c.fact 11 2 rfl rfl))
      (of_decide_eq_true (c.fact 11 3 rfl rfl))
      (of_decide_eq_true (c.fact 11 4 rfl rfl))
      (of_decide_eq_true (c.fact 11 5 rfl rfl))
      (of_decide_eq_true (c.fact 11 6 rfl rfl))
      (of_decide_eq_true (c.fact 11 7 rfl rfl))
      (of_decide_eq_true (c.fact 11 8 rfl rfl))
      (of_decide_eq_true (c.fact 11 9 rfl rfl))
      (of_decide_eq_true (c.fact 11 10 rfl rfl))
      (of_decide_eq_true (c.fact 11 11 rfl rfl))
      (of_decide_eq_true (c.fact 11 12 rfl rfl))
      (of_decide_eq_true (c.fact 11 13 rfl rfl))
      (of_decide_eq_true (c.fact 11 14 rfl rfl))
      (of_decide_eq_true (c.fact 11 15 rfl rfl))
      (of_decide_eq_true (c.fact 12 0 rfl rfl))
      (of_decide_eq_true (c.fact 12 1 rfl rfl))
      (of_decide_eq_true (c.fact 12 2 rfl rfl))
      (of_decide_eq_true (c.fact 12 3 rfl rfl))
      (of_decide_eq_true (c.fact 12 4 rfl rfl))
      (of_decide_eq_true (c.fact 12 5 rfl rfl))
      (of_decide_eq_true (c.fact 12 6 rfl rfl))
    exact ⟨K, fd, K06.spLaw K, KX, hb, fun H a ns hl _ hS => ⟨a, ns, rfl, hS, hl, fun _ => rfl⟩, hF⟩
