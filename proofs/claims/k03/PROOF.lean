import PyProof.Rows.All
import Wide.All
import OpenK.AllK
import Wide.FinOn
import HandS.Base
import HandS.Call
import HandS.List
import HandS.Ends
import HandS.Words
import HandS.Exc
import HandS.ExcOwn
import HandS.ExcInit
import HandS.ExcField
import HandS.ExcIs
import HandS.WordsExc
import HandS.TryOnly
import HandS.TryMany
import KE.KExcIs
import PyProof.ReprRoads
import HandS.Wide
import HandS.IsInst
import HandS.Defaults
import HandS.Style
import HandS.Comp
import HandS.Flow
import HandS.Iter
import HandS.Zip
import HandS.CallLocal
import HandS.Dict
import HandS.Walk
import HandS.MakeKw
import HandS.Text
import HandS.Codes
import HandS.StrMore
import HandS.Deep
import PyProof.Rows.StrOr
import PyProof.StrOps2
import KE.KIntText
import PyProof.MeetsStr3
import PyProof.FitsReplace
import HandS.ReplaceLit
import PyProof.InstNe
import PyProof.InstEq
import HandS.FStr
import HandS.OwnEq
import KE.KCallOwn
import HandS.Records
import PyProof.TupleOfSeq
import PyProof.Rows.SortWalk
import HandS.ExcValue
import KE.KStateDown
import HandS.HeadEnd
import HandS.HeadHook1
import HandS.HeadHook2
import HandS.Head0
import HandS.Head1
import HandS.Head2
import PySem.Challenge.RW_besttelling_k03_fractions_written
set_option Elab.async false
set_option linter.all false
set_option maxRecDepth 100000
set_option maxHeartbeats 4000000
namespace BX
open PySem PySem.Spec PyProof.Rows L2
/-! ### several clauses «except x as n» -/
structure Clause where
  cls : Value
  slot : Nat
  ts : Addr → Value → Option Addr → TS
def wClauses (K : PySem.W.Frag) (Wout : WX) (D : Ends) : List Clause → WX
  | [] => Wout
  | c :: r => wAs K c.cls c.slot c.ts (wClauses K Wout D r) D
inductive ClausesOk (X : Cx) : List ExceptHandler → List Clause → Prop
  | nil : ClausesOk X [] []
  | cons {x n : Str} {c : Value} {i : Nat} {ts : Addr → Value → Option Addr → TS} {b₀ : Stmt} {suite : List Stmt} {np pos' : Pos} {hds : List ExceptHandler} {l : List Clause} (hi : X.N[i]? = some n) (hln : X.env.kindOf n = some .local) (hc : Names X x c)
      (hsu : ∀ (a : Addr) (oe : Obj) (cls : Value) (d : Option Addr) (pn : List (Addr × Obj)), Zc cls d oe → (∃ vs, oe.data = .fields vs) → PSs (X.suite a ((a, oe) :: pn)) (b₀ :: suite) (ts a cls d)) (r : ClausesOk X hds l) :
      ClausesOk X (.ExceptHandler (some (.Name x np)) (some n) (b₀ :: suite) pos' :: hds) (⟨c, i, ts⟩ :: l)
section
variable {X : Cx} {body : List Stmt} {h₀ : ExceptHandler} {hds : List ExceptHandler} {l : List Clause} {pos : Pos} {tb : WX → TS} {Wout : WX}
theorem ps_try_clauses (hs : X.stack = X.env :: X.outer) (hf : X.env.frame = some X.env.locals) (hN : X.N.Nodup) (tk : Takes X Wout)
    (hb : ∀ (W : WX) (pn : List (Addr × Obj)) (xe : Value → Shared → Prop), Takes (X.tr pn xe) W → PassesOwn (model X.prog X.w) X.A X.env xe → PSs (X.tr pn xe) body (tb W))
    (hh : ClausesOk X (h₀ :: hds) l) : PS X (.Try body (h₀ :: hds) [] [] pos) (fun D σ H => tb (wClauses X.K Wout D l) D σ H) := by
  refine ⟨fun pins s σ H D I h => ?_⟩
  have ok := I.ok
  have hfr : X.A.frames = some (X.env :: X.outer) := by rw [ok.frames, hs]
  refine wpAny_Try_except ?_
  refine wpAny_mono ((hb (wClauses X.K Wout D l) (X.pn ++ pins) (fun e s₁ => wpAny (model X.prog X.w) X.A (noteFrame e X.env) (fun _ s₂ => wpAny (model X.prog X.w) X.A (setFlight e none) (fun _ s₃ =>
    wpAny (model X.prog X.w) X.A (handleBy e X.env (h₀ :: hds)) (SP X pins D) X.xe s₃) X.xe s₂) X.xe s₁) (fun u s' xx => ?_) PassesOwn.looking).run [] s σ H D (I.toTry _) h) (fun f s1 hsp => ?_) (fun e s1 he => he)
  · obtain ⟨a, B, sI, pins', σ', H', cls, d, rfl, J', nb, up, sky, na, os, ag, ww⟩ := xx
    have J : Inv X pins σ' H' sI := J'.ofTry ok
    have sky' : Sky B (X.env :: X.outer) a (Zc cls d) X.env.locals s'.heap := by rw [← hs]; exact sky
    show wpAny (model X.prog X.w) X.A (noteFrame (.ref a) X.env) _ _ _
    refine Sky.land Zc.steady hfr hf sky' fun h3 fl3 up3 => ?_
    have J3 : Inv X pins σ' H' { s' with heap := h3 } := J.landed nb fl3.1 (up.trans up3) os ag
    obtain ⟨oe3, vs3, he3, hz3, hd3⟩ := fl3.there
    have nfr : a ∉ frs (X.env :: X.outer) := fun hm => by
      obtain ⟨_, o', e', hnf⟩ := fl3.2.2.1.mem hm
      rw [he3] at e'; cases e'
      exact hnf _ hd3
    have nL : a ≠ X.env.locals := fun z => nfr (List.mem_filterMap.mpr ⟨X.env, List.mem_cons_self, by rw [hf, z]⟩)
    have nF : a ∉ X.fs := fun hm => by
      obtain ⟨e, he, q⟩ := List.mem_filterMap.mp hm
      exact nfr (List.mem_filterMap.mpr ⟨e, List.mem_cons_of_mem _ he, q⟩)
    have S3 := J3.suite he3 hd3 na nL nF
    have go : ∀ {hds' : List ExceptHandler} {l' : List Clause}, ClausesOk X hds' l' → wClauses X.K Wout D l' cls d σ' H' →
        wpAny (model X.prog X.w) X.A (handleBy (.ref a) X.env hds') (SP X pins D) X.xe { s' with heap := h3 } := by
      intro hds' l' hk
      induction hk with
      | nil =>
        intro ww
        refine wpAny_handleBy_nil ?_
        obtain ⟨k1, k2, k3, oe, vs, T, oT, ts', he, hz, hd, h1, hr⟩ := id fl3
        unfold PySem.passOn
        refine wpAny_bind (wpAny_field he hd h1 ?_)
        rw [if_neg (show ¬ ((Value.ref T == Value.none) = true) from by simp)]
        have fin : wpAny (model X.prog X.w) X.A (setFlight (.ref a) X.env.frame) (fun _ s4 => wpAny (model X.prog X.w) X.A (throw (.ref a) : Sem Flow) (SP X pins D) X.xe s4) X.xe { s' with heap := h3 } := by
          rw [hf]
          refine HandSPX.setFlight_upZ fl3 fun h4 hh4 up4 => wpAny_throw (tk _ _ ?_)
          exact ⟨a, B, sI, pins, σ', H', cls, d, rfl, J, nb, (up.trans up3).trans up4, .inr (.inr (by rw [hs]; exact hh4)), na, os, ag, ww⟩
        first
          | exact wpAny_bind (wpAny_pure (wpAny_bind fin))
          | exact wpAny_bind fin
      | @cons x n c i ts b₀ suite np pos' hds2 l2 hi hln hc hsu r ih =>
        intro ww
        have hloc : Loc X.env.scope n := .inl hln
        obtain ⟨b, hb1, hyes, hno⟩ := ww
        refine wpAny_handleBy_cons (codeAny_handlers_test ?_) (by intro q; cases q)
        have LT : PySem.W.Looks (model X.prog X.w) h3 (typeOf (.ref a)) cls := fun A Q E s k q => wpAny_typeOf_ref (k _ _ he3) (by rw [hz3.1]; exact q)
        have LM := PySem.W.exm_one (M := model X.prog X.w) (J3.kIn) LT hb1
        have test : ∀ {Q : Value → Shared → Prop} {E : Value → Shared → Prop}, Q c { s' with heap := h3 } → wpAny (model X.prog X.w) (X.A.mark (some (.ref a))) (eval (.Name x np) X.env) Q E { s' with heap := h3 } := fun {Q E} q => by
          obtain ⟨hg, hdbg, hm | ⟨hm, hv, hnn⟩⟩ := hc
          · exact ld_glob (X := X.suite a ((a, oe3) :: (X.pn ++ pins))) S3 hg hm q hdbg
          · exact ld_blt (X := X.suite a ((a, oe3) :: (X.pn ++ pins))) S3 hg hm hv q hnn hdbg
        refine test (LM.here ?_)
        cases b with
        | true =>
          refine codeAny_handlers_suite_as ?_
          refine HandSPX.lands_againZ fl3 fun h4 fl4 up4 => ?_
          have J4 : Inv X pins σ' H' { s' with heap := h4 } := J.landed nb fl4.1 ((up.trans up3).trans up4) os ag
          obtain ⟨oe4, vs4, he4, hz4, hd4⟩ := fl4.there
          have S4 := J4.suite he4 hd4 na nL nF
          refine store_ok (X := X.suite a ((a, oe4) :: (X.pn ++ pins))) (v := .ref a) S4 hN hi hloc rfl (fun s5 S5 => ?_) (.inr hln)
          refine wpAny_mono ((hsu a oe4 cls d (X.pn ++ pins) hz4 ⟨_, hd4⟩).run [] s5 _ H' _ S5 (hyes rfl a na)) (fun f s6 hsp => ?_) (fun _ _ z => False.elim z)
          have end_ : ∀ {σ6 : L2.St} {H6 : Hp} {Q : Shared → Prop}, Inv (X.suite a ((a, oe4) :: (X.pn ++ pins))) [] σ6 H6 s6 → (∀ s7, Inv X pins (σ6.set i none) H6 s7 → Q s7) →
              wpAny (model X.prog X.w) X.A (do bindName X.env n .none; unbindBehindTheSuite X.env n pos') (fun _ s7 => Q s7) X.xe s6 := fun {σ6 H6 Q} S6 hq => gone_ok (S6.unsuite ok) hN hi hln hq
          cases f with
          | next =>
            obtain ⟨σ6, H6, S6, q6⟩ := hsp
            exact end_ S6 fun s7 J7 => ⟨_, _, J7, q6⟩
          | brk =>
            obtain ⟨σ6, H6, S6, q6⟩ := hsp
            exact end_ S6 fun s7 J7 => ⟨_, _, J7, q6⟩
          | cont =>
            obtain ⟨σ6, H6, S6, q6⟩ := hsp
            exact end_ S6 fun s7 J7 => ⟨_, _, J7, q6⟩
          | ret u =>
            obtain ⟨v6, σ6, H6, S6, r6, q6⟩ := hsp
            exact end_ S6 fun s7 J7 => ⟨_, _, _, J7, r6, q6⟩
        | false =>
          show wpAny _ X.A (handleBy (.ref a) X.env hds2) _ _ _
          exact ih (hno rfl)
    exact go hh ww
  · cases f with
    | next =>
      obtain ⟨σ', H', J', q⟩ := hsp
      exact wpAny_execs_nil ⟨σ', H', J'.ofTry ok, q⟩
    | brk =>
      obtain ⟨σ', H', J', q⟩ := hsp
      exact ⟨σ', H', J'.ofTry ok, q⟩
    | cont =>
      obtain ⟨σ', H', J', q⟩ := hsp
      exact ⟨σ', H', J'.ofTry ok, q⟩
    | ret u =>
      obtain ⟨v, σ', H', J', r, q⟩ := hsp
      exact ⟨v, σ', H', J'.ofTry ok, r, q⟩
end
/-! ### isinstance of a caught error, with or without fields -/
def rIsX (K : PySem.W.Frag) (D a : Addr) (cls : Value) (d : Option Addr) : List V → Hp → VK → Prop := fun xs H Q => ∃ (c : V) (u : Value) (b : Bool), xs = [.ref a, c] ∧ cls = .ref D ∧ ClsE c u ∧ (d = none ∨ ∃ dd fs, d = some dd ∧ H dd = some (.xd fs)) ∧ PySem.W.kitOne K (.ref D) u = some b ∧ Q (.bl b) H
where ClsE (c : V) (u : Value) : Prop := ∀ w, RelV c w → w = u
theorem call_isX {X : Cx} {a D : Addr} {oe : Obj} {cls : Value} {d : Option Addr} {pn : List (Addr × Obj)} (C : ExcC X.K D) (hz : Zc cls d oe) (hf : ∃ vs, oe.data = .fields vs) : CallR (X.suite a ((a, oe) :: pn)) (.builtin "isinstance") (rIsX X.K D a cls d) := by
  intro pins s σ H xs us Q I r h
  obtain ⟨c, u, b, rfl, rfl, hcv, hdd, e, q⟩ := h
  cases r with
  | cons rx rr =>
    cases rr with
    | cons rt rr =>
      cases rr
      cases rx
      have ec := hcv _ rt
      subst ec
      obtain ⟨hget, _⟩ := I.pin (a, oe) (List.mem_append.mpr (.inl List.mem_cons_self))
      obtain ⟨vs, hv⟩ := hf
      have hcl : (PySem.W.clsIn X.K D).isSome = true := by
        obtain ⟨cd, hc, _⟩ := PySem.W.any_some C.hd
        rw [hc]
        rfl
      have J : ∃ od, PySem.W.InstAt s.heap a oe D od := by
        obtain ⟨oc, od, oda, osl⟩ := oe
        obtain ⟨h1, h2⟩ := hz
        dsimp only at h1 h2 hv
        subst h1 h2 hv
        rcases hdd with rfl | ⟨dd, fs, rfl, hx⟩
        · exact ⟨none, hget, rfl, rfl, trivial⟩
        · obtain ⟨o, ho⟩ := objOk_get (I.hok dd _ hx)
          exact ⟨some o, hget, rfl, rfl, ho⟩
      obtain ⟨od, J⟩ := J
      exact PySem.W.kia_one (PySem.W.kitx_exc hcl C.hg C.hk C.hs C.ha C.hn C.ht C.hm) I.kIn J e (fun z => nomatch z) fun tk => ⟨.bl b, H, I.kept (t' := tk) fun _ _ z => z, rfl, q⟩
end BX

set_option Elab.async false
set_option linter.all false
set_option maxRecDepth 100000
set_option maxHeartbeats 4000000
namespace BX
open PySem PySem.Spec PyProof.Rows L2
/-! ### promises of defs that are called where nothing is being shown -/
structure FnOkG (P : Program) (w : World) (K : PySem.W.Frag) (mg : Str → Option Value) (base : Heap) (CX : CXT) (k : Nat) (f : Addr) (fd : FuncData) (ps : List Str) (sp : Sp) : Prop where
  len : ∀ vs H Q E, sp vs H Q E → vs.length = ps.length
  run : ∀ (A : Around) (outer : List Env) (s : Shared) (H : Hp) (args : Args) (us : List Value) (vs : List V) (Q : VK) (E : XK), Room k A → A.guards = some [] → Env0 P w K mg base A outer s H → BindsTo s fd args (ps.zip us) → Vals vs us → sp vs H Q E →
    codeAny (model P w) A (.call (.ref f) args) (CR CX outer P w H s Q E) s
section
variable {P : Program} {w : World} {K : PySem.W.Frag} {mg : Str → Option Value} {base : Heap} {CX : CXT} {k : Nat} {f : Addr} {fd : FuncData} {ps : List Str} {sp : Sp}
theorem FnOkG.of (F : FnOk P w K mg base CX k f fd ps sp) : FnOkG P w K mg base CX k f fd ps sp := ⟨F.len, fun A outer s H args us vs Q E hr _ e b r h => F.run A outer s H args us vs Q E hr e b r h⟩
theorem FnOkG.mono {j : Nat} (F : FnOkG P w K mg base CX j f fd ps sp) (h : j ≤ k) : FnOkG P w K mg base CX k f fd ps sp := ⟨F.len, fun A outer s H args us vs Q E hr => F.run A outer s H args us vs Q E (hr.mono h)⟩
/-- the body of such a def -/
theorem fn_ofG {name qual : Str} {params : Arguments} {body : List Stmt} {scope : Scope} {dV kV doc pm cdv ct oc : Value} {an od : Option Addr} {osl : Array (Option Value)} {N : List Str}
    (lk : K.lookup f = some ⟨oc, od, .func (PySem.W.fnOf name qual params body scope dV kV doc pm an cdv ct), osl⟩) (hcd : PySem.W.codeIn K cdv qual = true) (S : FnScope N ps scope) (len : ∀ vs H Q E, sp vs H Q E → vs.length = ps.length)
    (hbody : ∀ (A : Around) (outer : List Env) (s : Shared) (H : Hp) (vs : List V) (Q : VK) (E : XK), Room k (A.deeper (envOfC qual scope s.heap.objs.size f cdv)) → (A.deeper (envOfC qual scope s.heap.objs.size f cdv)).guards = some [] → sp vs H Q E →
      ∃ t, PSs (cxOf CX P w K mg base N qual scope f cdv A outer s H E) body t ∧ t { nx := fun _ H' => Q .non H', rt := Q } (start N vs) H) :
    FnOkG P w K mg base CX (k + 1) f (PySem.W.fnOf name qual params body scope dV kV doc pm an cdv ct) ps sp := by
  refine ⟨len, fun A outer s H args us vs Q E hr hgd e0 hb r hsp => ?_⟩
  have KX : K.In s.heap := e0.mod.kin.keeps fun b o e => (e0.bs b o e).1
  have lim : s.heap.NoLimit := e0.mod.nolimit.keeps fun b o e => (e0.bs b o e).1
  have hkind : ∀ y ∈ ps.zip us, scope.names.lookup y.1 = some .local ∨ (scope.names.lookup y.1 = some .cell ∧ ((cellsFrom (s.heap.objs.size + 1) scope.names []).lookup y.1).isSome = true) := fun ⟨n, v⟩ hy => by
    rcases S.par n (List.of_mem_zip hy).1 with q | q
    · exact .inl q
    · exact .inr ⟨q, PySem.W.cellsFrom_some _ _ _ (.inl q)⟩
  refine codeAny_call_function hr.depth (KX _ _ lk) rfl S.co S.gen rfl (PySem.W.codeRec_of KX hcd) (hb _ _ _ _ ?_)
  refine wpAny_newFunctionEnv_cells S.kind hkind fun env he s1 x => ?_
  subst he
  refine ⟨lim.keeps x.toInCall.keep, codeAny_func ?_⟩
  obtain ⟨t, ht, hq⟩ := hbody A outer s H vs Q E (hr.deeper _) hgd hsp
  have I : Inv (cxOf CX P w K mg base N qual scope f cdv A outer s H E) [] (start N vs) H s1 := inv_start S hr.hd e0 (len _ _ _ _ hsp) r x
  refine wpAny_mono (ht.run [] s1 (start N vs) H _ I hq) (fun fl s' hs => ?_) fun e s' hs => hs
  have fin : ∀ {σ' : L2.St} {H' : Hp} {v : V} {u : Value}, Inv (cxOf CX P w K mg base N qual scope f cdv A outer s H E) [] σ' H' s' → RelV v u → Q v H' → CE outer P w H s Q u s' :=
    fun {σ' H' v u} J rv q => ⟨v, H', J.os, J.bare, J.base, J.hok, rv, q⟩
  cases fl with
  | ret u =>
    obtain ⟨v, σ', H', J, rv, q⟩ := hs
    exact fin J rv q
  | next =>
    obtain ⟨σ', H', J, q⟩ := hs
    exact fin (v := V.non) (u := Value.none) J rfl q
  | brk =>
    obtain ⟨_, _, _, q⟩ := hs
    exact False.elim q
  | cont =>
    obtain ⟨_, _, _, q⟩ := hs
    exact False.elim q
theorem okG {x qual : Str} {st : Stmt} {N : List Str} (F : Fun K x qual st f fd) (S : FnScope N ps (defScope st)) (len : ∀ vs H Q E, sp vs H Q E → vs.length = ps.length)
    (hbody : ∀ (cdv : Value) (A : Around) (outer : List Env) (s : Shared) (H : Hp) (vs : List V) (Q : VK) (E : XK), Room k (A.deeper (envOfC qual (defScope st) s.heap.objs.size f cdv)) → (A.deeper (envOfC qual (defScope st) s.heap.objs.size f cdv)).guards = some [] → sp vs H Q E →
      ∃ t, PSs (cxOf CX0 P w K mg base N qual (defScope st) f cdv A outer s H E).nox (defBody st) t ∧ t { nx := fun _ H' => Q .non H', rt := Q } (start N vs) H) : FnOkG P w K mg base CX0 (k + 1) f fd ps sp := by
  obtain ⟨oc, od, kV, doc, pm, an, cdv, ct, osl, rfl, lk, hcd⟩ := F.ex
  refine fn_ofG lk hcd S len fun A outer s H vs Q E hr hgd hsp => ?_
  obtain ⟨t, h, q⟩ := hbody cdv A outer s H vs Q E hr hgd hsp
  exact ⟨t, h.nox, q⟩
end
section
variable {X : Cx} {CX : CXT} {k : Nat} {f : Addr} {fd : FuncData} {ps : List Str} {sp : Sp} {E : XK} {x : Str} {p pos : Pos} {e : Expr} {es : List Expr} {t : TA} {ds : List Value} {dvs : List V}
theorem run_fnG {pins : List (Addr × Obj)} {σ : L2.St} {H : Hp} {s : Shared} {Q : VK} {us : List Value} {vs : List V} (F : FnOkG X.prog X.w X.K X.mg X.base CX k f fd ps sp) (hr : Room k X.A) (hgd : X.A.guards = some []) (hb : Binds X.K fd ps ds) (hd : Vals dvs ds) (hx : Passes CX X E)
    (I : Inv X pins σ H s) (r : Vals vs us) (h : sp (vs ++ dvs) H Q E) : wpAny (model X.prog X.w) X.A (call (.ref f) us) (EP X pins σ Q) X.xe s := by
  have r2 : Vals (vs ++ dvs) (us ++ ds) := r.append hd
  have hl : (us ++ ds).length = ps.length := by rw [← r2.length]; exact F.len _ _ _ _ h
  refine wpAny_call (codeAny_mono (F.run X.A X.stack s H ⟨us, []⟩ (us ++ ds) (vs ++ dvs) Q E hr hgd I.env0 (hb s us I.kIn hl) r2 h) fun r s' hq => ?_)
  cases r with
  | error e => exact hx pins σ H s e s' I hq
  | ok fl =>
    cases fl with
    | ret u => exact I.after hq
    | next => exact False.elim hq
    | brk => exact False.elim hq
    | cont => exact False.elim hq
theorem pe_callG (F : FnOkG X.prog X.w X.K X.mg X.base CX k f fd ps sp) (hr : Room k X.A) (hgd : X.A.guards = some []) (hg : Gl X x) (hm : X.mg x = some (.ref f)) (hk : PySem.W.keepIn X.K (.ref f) = true) (hb : Binds X.K fd ps ds) (hd : Vals dvs ds) (hx : Passes CX X E)
    (ha : PA X (e :: es) t) (hdb : (x == ("__debug__" : Str)) = false := by decide) (he : starEach (e :: es) X.env = (false, eval e X.env) :: starEach es X.env := by rfl) (hpl : (backTo pos (starEach es X.env)).any (·.1) = false := by rfl) :
    PE X (.Call (.Name x p) (e :: es) [] pos) (tCall sp dvs E t) := by
  refine ⟨fun pins s σ H Q I h => ?_⟩
  refine wpAny_Call_Name_kw (ld_glob I hg hm ?_ hdb)
  refine PySem.W.callWith_K (h₀ := X.base) I.ok.mod.kin hk (thn (ha.run pos pins s σ H _ I h) fun us s1 ⟨vs, H1, I1, r, q⟩ => ⟨I1.kIn, ?_⟩) he hpl
  exact run_fnG F hr hgd hb hd hx I1 r q
end
/-! ### repr -/
/-- data, or the empty dict -/
def Dq (K : PySem.W.Frag) (H : Hp) (v : V) (d : PyData) : Prop := Dp K H v d ∨ ∃ a, v = .ref a ∧ H a = some (.dK []) ∧ d = .dict []
mutual
theorem noDict {K : PySem.W.Frag} {H : Hp} : ∀ (d : PyData) (v : V), Dp K H v d → d.hasDict = false
  | .none, _, _ => rfl
  | .bool _, _, _ => rfl
  | .int _, _, _ => rfl
  | .str _, _, _ => rfl
  | .list ds, _, h => by
    cases h with
    | lst _ ha => exact noDicts ds _ ha
  | .tuple ds, _, h => by
    cases h with
    | tup _ ha => exact noDicts ds _ ha
  | .dict _, _, h => by cases h
theorem noDicts {K : PySem.W.Frag} {H : Hp} : ∀ (ds : List PyData) (vs : List V), DpAll K H vs ds → PyData.hasDictAll ds = false
  | [], _, _ => rfl
  | d :: ds, _, h => by
    cases h with
    | cons h1 h2 =>
      show (PyData.hasDict d || PyData.hasDictAll ds) = false
      rw [noDict d _ h1, noDicts ds _ h2]
      rfl
end
def rRepr (K : PySem.W.Frag) : List V → Hp → VK → Prop := fun xs H Q => ∃ x d, xs = [x] ∧ Dq K H x d ∧ d.showable = true ∧ d.depth ≤ 64 ∧ d.shown.length ≤ sizeLine ∧ Q (.str d.shown) H
theorem call_reprD {X : Cx} (hgd : X.A.guards = some []) (hu : X.A.units + 80 < cLine) : CallR X (.builtin "repr") (rRepr X.K) := by
  intro pins s σ H xs us Q I r h
  obtain ⟨x, d, rfl, hd, hs, hdp, hsz, q⟩ := h
  cases r with
  | @cons _ u _ _ ru rn =>
    cases rn
    have up : ∀ {a : Addr} {as : List Addr}, Reads s.heap (.ref a) d as → (d.hasDict = true → sysModules ∉ as) → wpAny (model X.prog X.w) X.A (call (.builtin "repr") [.ref a]) (EP X pins σ Q) X.xe s := fun {a as} rd hsm =>
      repr_of_reads' rd hs hsm hgd (by omega) (fun _ _ z => z) (fun h' u tk hk => ⟨.str d.shown, H, I.kept (t' := tk) hk, ⟨_, rfl⟩, q⟩) hsz
    rcases hd with hd | ⟨a, rfl, ha, rfl⟩
    · have nd := noDict d x hd
      cases hd with
      | non => cases (show u = Value.none from ru); exact P.repr_of_none ⟨.str (PyData.shown .none), H, I.tok _, ⟨_, rfl⟩, q⟩
      | bl b => cases (show u = Value.bool b from ru); exact P.repr_of_bool ⟨.str (PyData.shown (.bool b)), H, I.tok _, ⟨_, rfl⟩, q⟩
      | int i => obtain ⟨t, e⟩ := (show ∃ t, u = Value.int i t from ru); cases e; exact P.repr_of_int (of_decide_eq_true hs) ⟨.str (PyData.shown (.int i)), H, I.tok _, ⟨_, rfl⟩, q⟩
      | str y => obtain ⟨t, e⟩ := (show ∃ t, u = Value.str y t from ru); cases e; exact P.repr_of_str ⟨.str (PyData.shown (.str y)), H, I.tok _, ⟨_, rfl⟩, q⟩ hsz
      | @lst a xs ds h1 h2 =>
        cases (show u = Value.ref a from ru)
        obtain ⟨as, rd⟩ := Dp.reads I _ _ _ (Dp.lst h1 h2) (show RelV (.ref a) (.ref a) from rfl)
        exact up rd (fun z => by rw [nd] at z; cases z)
      | @tup a xs ds h1 h2 =>
        cases (show u = Value.ref a from ru)
        obtain ⟨as, rd⟩ := Dp.reads I _ _ _ (Dp.tup h1 h2) (show RelV (.ref a) (.ref a) from rfl)
        exact up rd (fun z => by rw [nd] at z; cases z)
    · cases (show u = Value.ref a from ru)
      obtain ⟨_, hns, vs, hkv, o, es, ep, h1, h2, h3, h4, h5, _⟩ := (show ObjOk X.prog X.w H s.heap a (.dK []) from I.hok a _ ha)
      cases hkv
      have he : es.toList = [] := List.eq_nil_of_length_eq_zero h5.length
      refine up (as := a :: [] ++ []) (Reads.dict h1 h2.1 h3 (by rw [he]; exact .nil) (by rw [he]; exact .nil)) (fun _ hm => ?_)
      have ea : sysModules = a := by simpa using hm
      rw [← ea] at hns
      exact absurd hns (by decide +kernel)
end BX

namespace Fr
theorem fmod_abs (a : Int) {b : Int} (h : b ≠ 0) : (a.fmod b).natAbs < b.natAbs := by
  by_cases hb : 0 < b
  · have h1 := Int.fmod_lt_of_pos a hb
    have h2 := Int.fmod_nonneg_of_pos a hb
    omega
  · have hb' : 0 < -b := by omega
    have e := Int.neg_fmod_neg (-a) (-b)
    rw [Int.neg_neg, Int.neg_neg] at e
    have h1 := Int.fmod_lt_of_pos (-a) hb'
    have h2 := Int.fmod_nonneg_of_pos (-a) hb'
    omega
theorem gcd_step (a b : Int) : Int.gcd b (a.fmod b) = Int.gcd a b := by
  rw [Int.fmod_def, Int.mul_comm, Int.gcd_sub_mul_right_right, Int.gcd_comm]
theorem gcd_pos {t b : Int} (h : b ≠ 0) : (0 : Int) < (Int.gcd t b : Int) := by
  have : 0 < Int.gcd t b := Int.gcd_pos_of_ne_zero_right t h
  omega
theorem low_num {t b : Int} (hb : 0 < b) : t.fdiv (Int.gcd t b) = (Rat.divInt t b).num := by
  rw [Rat.num_divInt, Int.sign_eq_one_of_pos hb, Int.one_mul, Int.gcd_comm b t, Int.fdiv_eq_ediv_of_nonneg _ (by omega)]
theorem low_den {t b : Int} (hb : 0 < b) : b.fdiv (Int.gcd t b) = ((Rat.divInt t b).den : Int) := by
  rw [Rat.den_divInt, if_neg (by omega), Int.gcd_comm b t, Int.fdiv_eq_ediv_of_nonneg _ (by omega), Int.natCast_ediv]
  congr 1
  omega
theorem lowN_num {t b : Int} (hb : b < 0) : t.fdiv (-(Int.gcd t b : Int)) = (Rat.divInt t b).num := by
  have e := Int.neg_fdiv_neg (-t) (Int.gcd t b : Int)
  rw [Int.neg_neg] at e
  rw [e, Rat.num_divInt, Int.sign_eq_neg_one_of_neg hb, Int.gcd_comm b t, Int.fdiv_eq_ediv_of_nonneg _ (by omega), Int.neg_mul, Int.one_mul]
theorem lowN_den {t b : Int} (hb : b < 0) : b.fdiv (-(Int.gcd t b : Int)) = ((Rat.divInt t b).den : Int) := by
  have e := Int.neg_fdiv_neg (-b) (Int.gcd t b : Int)
  rw [Int.neg_neg] at e
  rw [e, Rat.den_divInt, if_neg (by omega), Int.gcd_comm b t, Int.fdiv_eq_ediv_of_nonneg _ (by omega), Int.natCast_ediv]
  congr 1
  omega
/-- top and bottom below 2 ^ n -/
def Bd (n : Nat) (q : Rat) : Prop := q.num.natAbs < 2 ^ n ∧ q.den < 2 ^ n
theorem Bd.mono {n m : Nat} {q : Rat} (h : Bd n q) (l : n ≤ m) : Bd m q :=
  ⟨Nat.lt_of_lt_of_le h.1 (Nat.pow_le_pow_right (by decide) l), Nat.lt_of_lt_of_le h.2 (Nat.pow_le_pow_right (by decide) l)⟩
theorem bd_low {t b : Int} {n : Nat} (ht : t.natAbs < 2 ^ n) (hb : b.natAbs < 2 ^ n) (h : b ≠ 0) : Bd n (Rat.divInt t b) := by
  constructor
  · rw [Rat.num_divInt]
    have h1 : (b.sign * t).natAbs = t.natAbs := by
      rw [Int.natAbs_mul, Int.natAbs_sign_of_ne_zero h, Nat.one_mul]
    have h2 : (b.sign * t / (b.gcd t : Int)).natAbs ≤ (b.sign * t).natAbs := Int.natAbs_ediv_le_natAbs _ _
    omega
  · rw [Rat.den_divInt, if_neg h]
    exact Nat.lt_of_le_of_lt (Nat.div_le_self _ _) hb
theorem den_pos (q : Rat) : (0 : Int) < (q.den : Int) := by
  have := q.den_pos
  omega
theorem den_ne (q : Rat) : (q.den : Int) ≠ 0 := Int.ne_of_gt (den_pos q)
theorem add_eq (a b : Rat) : Rat.divInt (a.num * b.den + b.num * a.den) (a.den * b.den) = a + b := by
  rw [← Rat.divInt_add_divInt _ _ (den_ne a) (den_ne b), Rat.num_divInt_den, Rat.num_divInt_den]
theorem sub_eq (a b : Rat) : Rat.divInt (a.num * b.den - b.num * a.den) (a.den * b.den) = a - b := by
  rw [Rat.sub_def, Rat.normalize_eq_mkRat, ← Int.natCast_mul]
  rfl
theorem mul_eq (a b : Rat) : Rat.divInt (a.num * b.num) (a.den * b.den) = a * b := by
  rw [← Rat.divInt_mul_divInt, Rat.num_divInt_den, Rat.num_divInt_den]
theorem div_eq (a b : Rat) : Rat.divInt (a.num * b.den) (a.den * b.num) = a / b := by
  rw [Rat.div_def, Rat.inv_def, ← Rat.divInt_mul_divInt, Rat.num_divInt_den]
theorem mul_bd {i j : Int} {n m : Nat} (hi : i.natAbs < 2 ^ n) (hj : j.natAbs < 2 ^ m) : (i * j).natAbs < 2 ^ (n + m) := by
  rw [Int.natAbs_mul, Nat.pow_add]
  exact Nat.mul_lt_mul'' hi hj
theorem add_bd {i j : Int} {n : Nat} (hi : i.natAbs < 2 ^ n) (hj : j.natAbs < 2 ^ n) : (i + j).natAbs < 2 ^ (n + 1) := by
  rw [Nat.pow_succ]
  omega
theorem sub_bd {i j : Int} {n : Nat} (hi : i.natAbs < 2 ^ n) (hj : j.natAbs < 2 ^ n) : (i - j).natAbs < 2 ^ (n + 1) := by
  rw [Nat.pow_succ]
  omega
theorem Bd.dn {n : Nat} {q : Rat} (h : Bd n q) : (q.den : Int).natAbs < 2 ^ n := by
  rw [Int.natAbs_natCast]
  exact h.2
theorem up {i : Int} {n m : Nat} (h : i.natAbs < 2 ^ n) (l : n ≤ m) : i.natAbs < 2 ^ m := Nat.lt_of_lt_of_le h (Nat.pow_le_pow_right (by decide) l)
theorem dd_ne (a b : Rat) : (a.den : Int) * (b.den : Int) ≠ 0 := Int.mul_ne_zero (den_ne a) (den_ne b)
theorem bd_add {a b : Rat} {n m : Nat} (ha : Bd n a) (hb : Bd m b) : Bd (n + m + 1) (a + b) := by
  rw [← add_eq]
  refine bd_low ?_ (up (mul_bd ha.dn hb.dn) (Nat.le_succ _)) (dd_ne a b)
  have h2 := mul_bd hb.1 ha.dn
  rw [Nat.add_comm m n] at h2
  exact add_bd (mul_bd ha.1 hb.dn) h2
theorem bd_sub {a b : Rat} {n m : Nat} (ha : Bd n a) (hb : Bd m b) : Bd (n + m + 1) (a - b) := by
  rw [← sub_eq]
  refine bd_low ?_ (up (mul_bd ha.dn hb.dn) (Nat.le_succ _)) (dd_ne a b)
  have h2 := mul_bd hb.1 ha.dn
  rw [Nat.add_comm m n] at h2
  exact sub_bd (mul_bd ha.1 hb.dn) h2
theorem bd_mul {a b : Rat} {n m : Nat} (ha : Bd n a) (hb : Bd m b) : Bd (n + m) (a * b) := by
  rw [← mul_eq]
  exact bd_low (mul_bd ha.1 hb.1) (mul_bd ha.dn hb.dn) (dd_ne a b)
theorem ratio_gcd (q : Rat) : Int.gcd q.num q.den = 1 := by
  have := q.reduced
  rw [Int.gcd, Int.natAbs_natCast]
  exact this
theorem foldl_add (l : List Rat) : ∀ a : Rat, l.foldl (· + ·) a = a + l.sum := by
  induction l with
  | nil => intro a; rw [List.foldl_nil, List.sum_nil, Rat.add_zero]
  | cons x r ih => intro a; rw [List.foldl_cons, ih, List.sum_cons, Rat.add_assoc]
theorem sum_rev (l : List Rat) : l.reverse.sum = l.sum := by
  induction l with
  | nil => rfl
  | cons x r ih => rw [List.reverse_cons, List.sum_append, ih, List.sum_cons, List.sum_cons, List.sum_nil, Rat.add_zero, Rat.add_comm]
theorem div_self' {a : Rat} (h : a ≠ 0) : a / a = 1 := by
  rw [Rat.div_def]
  exact Rat.mul_inv_cancel a h
end Fr

set_option Elab.async false
set_option linter.all false
set_option maxRecDepth 100000
set_option maxHeartbeats 2000000
namespace Co
open PySem PySem.Spec PyProof.Rows L2
open Fr (Bd)
/-! ### // by any number but nought -/
def CDivZ (_ j : Int) : Prop := j ≠ 0 ∧ j.natAbs.log2 < 9000
theorem op_fdivZ {X : Cx} : OpR X (binaryOp .FloorDiv) (rI CDivZ fun i j => .int (i.fdiv j)) := opI fun i j _ _ _ _ _ hc q => floordiv_int hc.1 q (.inl (PyProof.noPylong_of_log2 hc.2))
theorem divZ {i j : Int} {n : Nat} (h : j ≠ 0) (hb : j.natAbs < 2 ^ n) (h0 : 0 < n) (h9 : n ≤ 9000) : CDivZ i j := ⟨h, Nat.lt_of_lt_of_le (PySem.Flt.log2_lt_of h0 hb) h9⟩
theorem same_new {H : Hp} {p : Addr} (h : H p = none) (o : HO) : Same H (upd H p o) := fun b u q => by rw [upd_ne (ne_of_none q h)]; exact q
theorem seqT {K : PySem.W.Frag} {H H' : Hp} {a : Addr} {xs : List V} (e : Same H H') (h : SqT K H a xs) : SqT K H' a xs := by
  rcases h with (h | ⟨o, h⟩) | h
  · exact .inl (.inl (e _ _ h))
  · exact .inl (.inr ⟨o, e _ _ h⟩)
  · exact .inr h
/-- what stands in a fraction's tuple -/
def rp (q : Rat) : List V := [.int q.num, .int (q.den : Int)]
def spDiv : Sp := fun vs H Q _ => ∃ a b : Int, vs = [.int a, .int b] ∧ Q (.int (Int.gcd a b : Int)) H
def spLow : Sp := fun vs H Q _ => ∃ (t b : Int) (n : Nat), vs = [.int t, .int b] ∧ t.natAbs < 2 ^ n ∧ b.natAbs < 2 ^ n ∧ b ≠ 0 ∧ n ≤ 8950 ∧ ∀ p, H p = none → Q (.ref p) (upd H p (.tup (rp (Rat.divInt t b))))
theorem gcd_bd {t b : Int} {n : Nat} (h : b ≠ 0) (hb : b.natAbs < 2 ^ n) : (Int.gcd t b : Int).natAbs < 2 ^ n := by
  rw [Int.natAbs_natCast]
  exact Nat.lt_of_le_of_lt (Nat.le_of_dvd (by omega) (Int.gcd_dvd_natAbs_right t b)) hb
theorem wmul {i j : Int} {n m : Nat} (hi : i.natAbs < 2 ^ n) (hj : j.natAbs < 2 ^ m) (h : n + m ≤ 9000) : CMulW i j :=
  wide_mul (a := n + 1) (b := m + 1) (Fr.up hi (Nat.le_succ _)) (Fr.up hj (Nat.le_succ _)) (Nat.succ_pos _) (Nat.succ_pos _) (by omega)
theorem at0 (q : Rat) : atI (rp q) 0 = some (.int q.num) := atI_nat (j := 0) rfl
theorem at1 (q : Rat) : atI (rp q) 1 = some (.int (q.den : Int)) := atI_nat (j := 1) rfl
/-- a fraction made of two -/
def spBin (K : PySem.W.Frag) (g : Rat → Rat → Rat) : Sp := fun vs H Q _ => ∃ (a b : Addr) (x y : Rat) (n m : Nat), vs = [.ref a, .ref b] ∧ SqT K H a (rp x) ∧ SqT K H b (rp y) ∧ Bd n x ∧ Bd m y ∧ n + m ≤ 8900 ∧ ∀ p, H p = none → Q (.ref p) (upd H p (.tup (rp (g x y))))
def spUnder (K : PySem.W.Frag) : Sp := fun vs H Q _ => ∃ (a b : Addr) (x y : Rat) (n m : Nat), vs = [.ref a, .ref b] ∧ SqT K H a (rp x) ∧ SqT K H b (rp y) ∧ Bd n x ∧ Bd m y ∧ n + m ≤ 8900 ∧ Q (.bl (decide (x.num * y.den < y.num * x.den))) H
theorem abs_eq (x : Int) : (if x < 0 then -x else x) = (x.natAbs : Int) := by split <;> omega
theorem tyT {K : PySem.W.Frag} {H : Hp} {a : Addr} {xs : List V} (h : SqT K H a xs) : TyX K H (.ref a) (.type "tuple") := by
  rcases h with (h | ⟨o, h⟩) | ⟨o, its, n, e, c, _⟩
  · exact .base (.tup h)
  · exact .fTuple h
  · exact .kTuple e c
/-- what the module leaves of the built-in names -/
structure Blt (mg : Str → Option Value) : Prop where
  abs_ : mg "abs" = none
  isinstance_ : mg "isinstance" = none
  int_ : mg "int" = none
  bool_ : mg "bool" = none
  tuple_ : mg "tuple" = none
  list_ : mg "list" = none
  len_ : mg "len" = none
  range_ : mg "range" = none
  str_ : mg "str" = none
  repr_ : mg "repr" = none
  sum_ : mg "sum" = none
  all_ : mg "all" = none
  any_ : mg "any" = none
  enumerate_ : mg "enumerate" = none
  zip_ : mg "zip" = none
  min_ : mg "min" = none
  max_ : mg "max" = none
  sorted_ : mg "sorted" = none
  ValueError_ : mg "ValueError" = none
  ZeroDivisionError_ : mg "ZeroDivisionError" = none
  OverflowError_ : mg "OverflowError" = none
  IndexError_ : mg "IndexError" = none
  LookupError_ : mg "LookupError" = none
  ArithmeticError_ : mg "ArithmeticError" = none
  KeyError_ : mg "KeyError" = none
  RuntimeError_ : mg "RuntimeError" = none
/-- a list of fractions: its items, and what they are worth -/
structure FrL (K : PySem.W.Frag) (H : Hp) (refs : List V) (qs : List Rat) : Prop where
  len : refs.length = qs.length
  at_ : ∀ (i : Nat) (v : V), refs[i]? = some v → ∃ (a : Addr) (q : Rat), qs[i]? = some q ∧ v = .ref a ∧ SqT K H a (rp q) ∧ Bd 100 q
theorem FrL.keep {K : PySem.W.Frag} {H H' : Hp} {refs : List V} {qs : List Rat} (h : FrL K H refs qs) (k : ∀ a xs, SqT K H a xs → SqT K H' a xs) : FrL K H' refs qs :=
  ⟨h.len, fun i v e => let ⟨a, q, e1, e2, e3, e4⟩ := h.at_ i v e; ⟨a, q, e1, e2, k _ _ e3, e4⟩⟩
theorem FrL.same {K : PySem.W.Frag} {H H' : Hp} {refs : List V} {qs : List Rat} (h : FrL K H refs qs) (e : Same H H') : FrL K H' refs qs := h.keep fun _ _ => seqT e
theorem FrL.nil {K : PySem.W.Frag} {H : Hp} : FrL K H [] [] := ⟨rfl, fun i v e => by simp at e⟩
theorem FrL.snoc {K : PySem.W.Frag} {H : Hp} {refs : List V} {qs : List Rat} {a : Addr} {q : Rat} (h : FrL K H refs qs) (ha : SqT K H a (rp q)) (hb : Bd 100 q) : FrL K H (refs ++ [.ref a]) (qs ++ [q]) := by
  refine ⟨by rw [List.length_append, List.length_append, h.len]; rfl, fun i v e => ?_⟩
  by_cases hi : i < refs.length
  · rw [List.getElem?_append_left hi] at e
    obtain ⟨a', q', e1, e2, e3, e4⟩ := h.at_ i v e
    exact ⟨a', q', by rw [List.getElem?_append_left (by rw [← h.len]; exact hi)]; exact e1, e2, e3, e4⟩
  · rw [List.getElem?_append_right (by omega)] at e
    have e0 : i - refs.length = 0 := by
      cases z : i - refs.length with
      | zero => rfl
      | succ j => rw [z] at e; simp at e
    rw [e0] at e
    have ev : (V.ref a) = v := Option.some.inj e
    refine ⟨a, q, ?_, ev.symm, ha, hb⟩
    rw [List.getElem?_append_right (by rw [← h.len]; omega), ← h.len, e0]
    rfl
theorem keep_lst {K : PySem.W.Frag} {H : Hp} {l : Addr} {ys zs : List V} (hl : H l = some (.lst ys)) : ∀ a xs, SqT K H a xs → SqT K (upd H l (.lst zs)) a xs := fun a xs h => by
  rcases h with (h | ⟨o, h⟩) | h
  · exact .inl (.inl (by rw [upd_ne (ne_of h hl (by intro z; cases z))]; exact h))
  · exact .inl (.inr ⟨o, by rw [upd_ne (ne_of h hl (by intro z; cases z))]; exact h⟩)
  · exact .inr h
theorem sum_snoc {qs : List Rat} {i : Nat} {q : Rat} (h : qs[i]? = some q) : (qs.take (i + 1)).sum = (qs.take i).sum + q := by
  rw [List.take_add_one, h, List.sum_append]
  show _ + ([q] : List Rat).sum = _
  rw [List.sum_cons, List.sum_nil, Rat.add_zero]
def spLeft : Sp := fun vs H Q _ => ∃ c : Int, vs = [.int c] ∧ ∀ p n, H p = none → Q (.ref p) (upd H p (.lst [.int n]))
def spDigit : Sp := fun vs H Q _ => ∃ (l : Addr) (n m : Int), vs = [.ref l, .int m] ∧ H l = some (.lst [.int n]) ∧ 0 < m ∧ m.natAbs < 2 ^ 200 ∧ ∀ d n' : Int, 0 ≤ d → d < m → Q (.int d) (upd H l (.lst [.int n']))
theorem lt100 {i : Int} (h : i.natAbs ≤ 10 ^ 20) : i.natAbs < 2 ^ 100 := Nat.lt_of_le_of_lt h (by decide)
/-- a fraction as data -/
def dR (q : Rat) : PyData := .tuple [.int q.num, .int (q.den : Int)]
theorem dp_r {K : PySem.W.Frag} {H : Hp} {a : Addr} {q : Rat} (h : SqT K H a (rp q)) : Dp K H (.ref a) (dR q) := .tup h (.cons (.int _) (.cons (.int _) .nil))
theorem dR_lay (q : Rat) : (dR q).canLay0 = true := rfl
theorem dR_depth (q : Rat) : (dR q).depth = 1 := rfl
theorem dR_shaped (q : Rat) : SeqAt.shaped (dR q) = true := rfl
theorem FrL.dp {K : PySem.W.Frag} {H : Hp} : ∀ {refs : List V} {qs : List Rat}, FrL K H refs qs → DpAll K H refs (qs.map dR)
  | [], [], _ => .nil
  | [], _ :: _, h => by have := h.len; simp at this
  | _ :: _, [], h => by have := h.len; simp at this
  | v :: refs, q :: qs, h => by
    obtain ⟨a, q', e1, rfl, e3, _⟩ := h.at_ 0 v rfl
    have e : q = q' := Option.some.inj e1
    subst e
    refine .cons (dp_r e3) (FrL.dp ⟨by have := h.len; simpa using this, fun i v e => ?_⟩)
    exact h.at_ (i + 1) v e
theorem lays : ∀ qs : List Rat, PyData.canLayAll0 (qs.map dR) = true
  | [] => rfl
  | q :: qs => by
    show (PyData.canLay0 (dR q) && PyData.canLayAll0 (qs.map dR)) = true
    rw [lays qs]
    rfl
theorem deps : ∀ qs : List Rat, PyData.depthAll (qs.map dR) ≤ 1
  | [] => by decide
  | q :: qs => by
    have := deps qs
    show max (PyData.depth (dR q)) (PyData.depthAll (qs.map dR)) ≤ 1
    rw [dR_depth]
    omega
theorem list_lay (qs : List Rat) : (PyData.list (qs.map dR)).canLay0 = true := lays qs
theorem list_shaped (qs : List Rat) : SeqAt.shaped (.list (qs.map dR)) = true := by
  unfold SeqAt.shaped
  rw [list_lay, Bool.true_and]
  refine decide_eq_true ?_
  have := deps qs
  show PyData.depthAll (qs.map dR) + 1 ≤ 64
  omega
theorem FrL.rev {K : PySem.W.Frag} {H : Hp} {refs : List V} {qs : List Rat} (h : FrL K H refs qs) : FrL K H refs.reverse qs.reverse := by
  refine ⟨by rw [List.length_reverse, List.length_reverse, h.len], fun i v e => ?_⟩
  have hi : i < refs.length := by
    have := (List.getElem?_eq_some_iff.mp e).1
    rw [List.length_reverse] at this
    exact this
  rw [List.getElem?_reverse hi] at e
  obtain ⟨a, q, e1, e2, e3, e4⟩ := h.at_ _ v e
  refine ⟨a, q, ?_, e2, e3, e4⟩
  rw [List.getElem?_reverse (by rw [← h.len]; exact hi), ← h.len]
  exact e1
theorem cut_mem {xs : List V} {lo hi : Option Int} {x : V} (h : x ∈ cutV xs lo hi) : x ∈ xs := List.mem_of_mem_drop (List.mem_of_mem_take h)
theorem FrL.mem {K : PySem.W.Frag} {H : Hp} {refs : List V} {qs : List Rat} {v : V} (h : FrL K H refs qs) (hv : v ∈ refs) : ∃ (a : Addr) (q : Rat), v = .ref a ∧ SqT K H a (rp q) ∧ Bd 100 q := by
  obtain ⟨i, hi, e⟩ := List.getElem_of_mem hv
  obtain ⟨a, q, _, e2, e3, e4⟩ := h.at_ i v (by rw [List.getElem?_eq_getElem hi, e])
  exact ⟨a, q, e2, e3, e4⟩
theorem int_of {ns : List Int} {x : V} {lo hi : Option Int} {z : Int} {i : Nat} (h : (cutV (ns.map V.int) lo hi ++ [V.int z])[i]? = some x) : ∃ c : Int, x = .int c := by
  have hm := List.mem_of_getElem? h
  rcases List.mem_append.mp hm with hm | hm
  · obtain ⟨c, _, e⟩ := List.mem_map.mp (cut_mem hm)
    exact ⟨c, e.symm⟩
  · exact ⟨z, by simpa using hm⟩
/-- an error of the class at S is what «except S» names -/
theorem exm_self {K : PySem.W.Frag} {S : Addr} (h1 : PySem.W.subIn K (.ref S) (.type "BaseException") = some true) (h2 : PySem.W.isClsIn K S = true) (h3 : PySem.W.typeIn K (.ref S) = some (.type "type")) (h4 : PySem.W.subIn K (.ref S) (.ref S) = some true) :
    PySem.W.exmOne K (.ref S) (.ref S) = some true := by
  have e1 : (PySem.W.subIn K (.ref S) (.type "BaseException") == some true) = true := by rw [h1] <;> rfl
  have e2 : ((PySem.W.clsIn K S).isSome && PySem.W.typeIn K (.ref S) == some (.type "type")) = true := by
    have h2' : (PySem.W.clsIn K S).isSome = true := h2
    rw [h2', h3] <;> rfl
  show (if (PySem.W.subIn K (.ref S) (.type "BaseException") == some true) = true then (if ((PySem.W.clsIn K S).isSome && PySem.W.typeIn K (.ref S) == some (.type "type")) = true then PySem.W.subIn K (.ref S) (.ref S) else none) else none) = some true
  rw [if_pos e1, if_pos e2]
  exact h4
end Co

set_option Elab.async false
set_option linter.all false
set_option maxRecDepth 100000
set_option maxHeartbeats 4000000
namespace EXB
open PySem PySem.Spec PyProof.Rows L2
/-- what the written part says of an own error class over B -/
structure ExC (K : PySem.W.Frag) (C : Addr) (newId : String) (bmB : List Value) : Prop where
  cls : ∃ nm q N bs sn sub ab col dd k0 k1 k2 k3 k5, K.lookup C = some (excClassObj nm q C N bs bmB true sn sub ab col dd k0 k1 k2 k3 k5 newId)
  exC : PySem.W.subIn K (.ref C) (.type "BaseException") = some true
  tyC : PySem.W.typeIn K (.ref C) = some (.type "type")
  kC : PySem.W.keepIn K (.ref C) = true
section
variable {X : Cx} {pins : List (Addr × Obj)} {σ : L2.St} {H : Hp} {s : Shared} {a C : Addr} {A : Around} {E : Value → Shared → Prop} {B newId initId : String} {bmB : List Value}
/-- B.__init__(self, ..): nothing of it is told -/
theorem einit_ok {us : List Value} {Q : Value → Shared → Prop} (Fb : ExcBaseFacts B newId initId bmB) (T : ExC X.K C newId bmB) (I : Inv X pins σ H s) (e : H a = some (exo a C none)) (hl : us.length ≤ sizeLine) (h : ∀ s', Inv X pins σ H s' → Q .none s') :
    wpAny (model X.prog X.w) A (call (.builtin initId) (.ref a :: us)) Q E s := by
  obtain ⟨nm, q, N, bs, sn, sub, ab, col, dd, k0, k1, k2, k3, k5, hC⟩ := T.cls
  obtain ⟨t1, ho⟩ := exo_at I.hok e
  obtain ⟨hp, g, d, t, os⟩ := s
  refine wpAny_call (PySem.HandSPX.init_base Fb (fun Y => rfl) (I.kIn _ _ hC) ho hl fun h' t2 k hx => ?_)
  have J := I.write (t' := t) (x := a) (e := a) (o := exo a C none) (by rw [e]; exact True.intro) (.inl rfl) k ⟨_, hx⟩ (exo_ok hx)
  have eu : upd H a (exo a C none) = H := by
    funext b
    by_cases hb : b = a
    · rw [hb, upd_same, e]
    · rw [upd_ne hb]
  rw [eu] at J
  exact h _ J
end
def tExI (K : PySem.W.Frag) (newId : String) (bmB : List Value) (ta : TA) : TE := fun σ H Q => ta σ H fun vs H1 => ∃ (a C : Addr) (ws : List V), vs = .ref a :: ws ∧ ws.length ≤ 1000 ∧ ExC K C newId bmB ∧ H1 a = some (exo a C none) ∧ Q .non H1
section
variable {X : Cx} {e : Expr} {es : List Expr} {ta : TA} {p p1 p2 pos : Pos} {B newId initId : String} {bmB : List Value}
theorem typ_ZD : typeOf (.type "ZeroDivisionError") = pure (.type "type") := by kernel_rfl
theorem pe_zdinit {pl : Sem Bool} (hg : Gl X "ZeroDivisionError") (hm : X.mg "ZeroDivisionError" = none) (vV : PySem.W.findCls X.K (.type "ZeroDivisionError") (.type "type") "__init__" = some (.val (.builtin "ZeroDivisionError.__init__"))) (ha : PA X (e :: es) ta)
    (hc : eval (.Call (.Attribute (.Name "ZeroDivisionError" p1) "__init__" p2) (e :: es) [] pos) X.env = (do
      let ov ← eval (.Name "ZeroDivisionError" p1) X.env
      standAt p2.atName
      let (f, first) ← holding [ov] (getMethod ov "__init__" pl)
      callWith pos f first (backTo pos (starEach (e :: es) X.env)) (backToKw pos (keywordEach [] X.env))) := by rfl)
    (he : starEach (e :: es) X.env = (false, eval e X.env) :: starEach es X.env := by rfl) (hpl : (backTo pos (starEach es X.env)).any (·.1) = false := by rfl) :
    PE X (.Call (.Attribute (.Name "ZeroDivisionError" p1) "__init__" p2) (e :: es) [] pos) (tExI X.K "ZeroDivisionError.__new__" [.type "ZeroDivisionError", .type "ArithmeticError", .type "Exception", .type "BaseException", .type "object"] ta) := by
  refine ⟨fun pins s σ H Q I h => ?_⟩
  refine PySem.W.methodCall_KW (ld_blt I hg hm PyProof.Rows.Boot.«ZeroDivisionError» ?_ (by decide) (by decide)) hc
  obtain ⟨m, fr⟩ := I.fr
  refine PySem.W.method_type fr I.ok.mod.kin typ_ZD (by decide +kernel) vV (by decide +kernel) ?_
  show wpAny _ _ (callWith pos (Value.builtin "ZeroDivisionError.__init__") [] (backTo pos (starEach (e :: es) X.env)) []) _ _ _
  refine PyProof.Rows.callWith_method1 (thn (ha.run pos pins _ σ H _ (I.tok _) h) fun us s1 ⟨vs, H1, I1, r1, a, C, ws, ev, hl, T, ea, q⟩ => ?_) he hpl
  subst ev
  cases r1 with
  | @cons _ u0 _ ur ra rw' =>
    obtain rfl : u0 = Value.ref a := ra
    have hlen : ur.length ≤ sizeLine := by
      rw [← Paired.length rw', sizeLine_eq]
      omega
    exact einit_ok PySem.F.excBase_ZeroDivisionError T I1 ea hlen fun s' J => ⟨.non, H1, J, rfl, q⟩
/-- the end of C(..), no field: the exception is let go -/
theorem mk_endN {pins : List (Addr × Obj)} {σ : L2.St} {H1 H2 : Hp} {Q : XK} {hp hp2 h2 : Heap} {g1 g2 : Array GenState} {d1 d2 : Drawn} {t1 t2 : Nat} {os1 os2 : OsState} {a C : Addr} (T : Raises X (.ref C)) (I1 : Inv X pins σ H1 ⟨hp, g1, d1, t1, os1⟩)
    (ha : hp.objs.size ≤ a) (k : ∀ b o, hp.get? b = some o → hp2.get? b = some o) (un : Un (frs X.stack) [] (upd H1 a (exo a C none)) H2 hp2 h2) (hok : HOk X.prog X.w H2 h2) (ho : os2 = os1) (hb : AllBare g2)
    (ea : H2 a = some (exo a C none)) (q : Q (.ref C) none (del H2 a)) : MkP X pins σ Q (.ref a) ⟨h2, g2, d2, t2, os2⟩ := by
  obtain ⟨t0, hoe⟩ := exo_at hok ea
  have hn : H1 a = none := I1.hok.fresh ha
  obtain ⟨G, g1', g2'⟩ := restrict h2 fun b => decide (b ≠ a)
  have gk : ∀ b, b ≠ a → G.get? b = h2.get? b := fun b hb => g1' b (decide_eq_true hb)
  have ge : G.get? a = none := g2' a (by simp)
  have nha : ∀ {b : Addr} {o : Obj}, hp.get? b = some o → b ≠ a := fun {b o} z => Nat.ne_of_lt (Nat.lt_of_lt_of_le (Heap.lt_size z) ha)
  have up : ∀ {b : Addr}, b ≠ a → H1 b = none → upd H1 a (exo a C none) b = none := fun {b} hb n => by rw [upd_ne hb]; exact n
  have U : Un (frs X.stack) [] H1 (del H2 a) hp G := {
    keep := fun b o z n hf hx => by
      rw [gk b (nha z)]
      exact un.keep b o (k b o z) (up (nha z) n) hf hx
    slot := fun b o z n hf hx => by
      rw [gk b (nha z)]
      exact un.slot b o (k b o z) (up (nha z) n) hf hx
    free := fun b o z n hx => by
      rw [del_ne (nha z)]
      exact un.free b o (k b o z) (up (nha z) n) hx
    there := fun b o z hx => by
      rw [gk b (nha z)]
      exact un.there b o (k b o z) hx
    tups := fun b xs z => by
      rw [del_ne (ne_of_none z hn)]
      exact un.tups b xs (by rw [upd_ne (ne_of_none z hn)]; exact z)
    frzs := fun b o v z => by
      rw [del_ne (ne_of_none z hn)]
      exact un.frzs b o v (by rw [upd_ne (ne_of_none z hn)]; exact z)
    tbls := fun b ps z => by
      rw [del_ne (ne_of_none z hn)]
      exact un.tbls b ps (by rw [upd_ne (ne_of_none z hn)]; exact z) }
  have hok3 : HOk X.prog X.w (del H2 a) G := fun b o z => by
    have hba : b ≠ a := fun e => by
      rw [e, del_same] at z
      cases z
    rw [del_ne hba] at z
    have noa : ∀ {c : Addr}, H2 c = some (.own b) → c ≠ a := fun {c} hc => at_ne ea hc exo_own
    exact (hok b o z).stay (fun c v hc y => by
        have hca : c ≠ a := by
          rcases hc with hc | hc
          · rw [hc]
            exact hba
          · exact noa hc
        rw [gk c hca]
        exact y)
      (fun c hc => by rw [del_ne (noa hc)]; exact hc) (fun c xs hc => by rw [del_ne (at_ne ea hc exo_tup)]; exact hc)
  have J : Inv X pins σ (del H2 a) ⟨G, g2, d2, t2, os2⟩ := I1.call' (ch := []) ho U hok3 hb (fun b z => absurd z (by simp))
  refine ⟨a, _, _, ⟨G, g2, d2, t2, os2⟩, _, .ref C, none, rfl, J, fun b o z => ?_, ge, hoe, ⟨rfl, rfl⟩, rfl, rfl, del_same, rfl, hb, T, q⟩
  by_cases hba : b = a
  · have z' : G.get? b = some o := z
    rw [hba, ge] at z'
    cases z'
  · exact (gk b hba).symm.trans z
/-- the promise of an __init__ that makes no field -/
def spEi (C : Addr) : Sp := fun vs H Q _ => ∃ a, vs = [.ref a] ∧ H a = some (exo a C none) ∧ Q .non H
/-- C(), C's __init__ making no field -/
theorem pmk_exN {x : Str} {C fI : Addr} {k : Nat} {fd : FuncData} {ps : List Str} (Fb : ExcBaseFacts B newId initId bmB) (T : ExC X.K C newId bmB) (iC : PySem.W.findIn X.K (.ref C) "__init__" = some (some (.ref fI))) (tI : PySem.W.typeIn X.K (.ref fI) = some (.type "function"))
    (F1 : FnOk X.prog X.w X.K X.mg X.base CX0 k fI fd ps (spEi C)) (hr : Room (k + 1) X.A) (hb : Binds X.K fd ps []) (hg : Gl X x) (hm : X.mg x = some (.ref C))
    (hdb : (x == ("__debug__" : Str)) = false := by decide) :
    PMk X (.Call (.Name x p) [] [] pos) (fun _ H Q => Q (.ref C) none H) := by
  intro pins s σ H Q I h
  obtain ⟨nm, q, N, bs, sn, sub, ab, col, dd, k0, k1, k2, k3, k5, hC⟩ := T.cls
  refine wpAny_Call_Name_kw (ld_glob I hg hm ?_ hdb)
  refine PySem.W.callWith_K0 I.kIn T.kC ?_
  show wpAny _ _ (call (.ref C) []) _ _ _
  obtain ⟨hp, g, dr, tk, os⟩ := s
  have hsz : hp.objs.size ≤ hp.objs.size + 1 := Nat.le_succ _
  have hn : H (hp.objs.size + 1) = none := I.hok.fresh hsz
  have kk : ∀ b o, hp.get? b = some o → ((hp.push (PySem.W.kdv_tup [])).push (PySem.HandSPX.excO C hp.objs.size)).get? b = some o := fun b o e => Heap.get?_push_of_some _ (Heap.get?_push_of_some _ e)
  have hget : ((hp.push (PySem.W.kdv_tup [])).push (PySem.HandSPX.excO C hp.objs.size)).get? (hp.objs.size + 1) = some (PySem.HandSPX.excO C hp.objs.size) := by heap_get
  have I2 : Inv X pins σ (upd H (hp.objs.size + 1) (exo (hp.objs.size + 1) C none)) ⟨(hp.push (PySem.W.kdv_tup [])).push (PySem.HandSPX.excO C hp.objs.size), g, dr, tk, os⟩ :=
    I.laid (t' := tk) (a := hp.objs.size + 1) (o := exo (hp.objs.size + 1) C none) (h' := (hp.push (PySem.W.kdv_tup [])).push (PySem.HandSPX.excO C hp.objs.size)) kk hsz (exo_ok hget)
  have r2 : Vals [V.ref (hp.objs.size + 1)] [Value.ref (hp.objs.size + 1)] := .cons rfl .nil
  have hq : spEi C [V.ref (hp.objs.size + 1)] (upd H (hp.objs.size + 1) (exo (hp.objs.size + 1) C none)) (fun v H2 => v = .non ∧ H2 = upd H (hp.objs.size + 1) (exo (hp.objs.size + 1) C none)) (fun _ _ _ => False) :=
    ⟨_, rfl, upd_same, rfl, rfl⟩
  have hl : ([Value.ref (hp.objs.size + 1)] ++ []).length = ps.length := by
    have e := r2.length
    rw [F1.len _ _ _ _ hq] at e
    exact e.symm
  refine wpAny_call (PySem.HandSPX.call_own Fb (fun Y => rfl) (I.kIn _ _ hC) (PySem.W.looks_findIn I.kIn iC) (fun self => PySem.W.bind_fn I.kIn self tI) (Nat.zero_le _)
    (codeAny_mono (F1.run _ X.stack _ _ ⟨[Value.ref (hp.objs.size + 1)], []⟩ [Value.ref (hp.objs.size + 1)] _ _ (fun _ _ _ => False) (hr.make C [] []) (I2.env0.make C [] []) (hb _ [Value.ref (hp.objs.size + 1)] I2.kIn hl) r2 hq) fun r s' hq' => ?_))
  cases r with
  | error er => exact False.elim hq'
  | ok fl =>
    cases fl with
    | ret u =>
      obtain ⟨v, H2, os2, bare2, un2, hok2, rv, ev, eH⟩ := hq'
      subst ev
      subst eH
      obtain ⟨h2, g2, d2, t2, os'⟩ := s'
      refine ⟨rv, mk_endN (raises_own T.exC T.tyC) I hsz kk un2 hok2 os2 bare2 upd_same ?_⟩
      have eD : del (upd H (hp.objs.size + 1) (exo (hp.objs.size + 1) C none)) (hp.objs.size + 1) = H := by
        funext b
        by_cases hb : b = hp.objs.size + 1
        · rw [hb, del_same]
          exact hn.symm
        · rw [del_ne hb, upd_ne hb]
      rw [eD]
      exact h
    | next => exact False.elim hq'
    | brk => exact False.elim hq'
    | cont => exact False.elim hq'
end
/-! ### an own error over ValueError with one field -/
/-- the promise of an __init__ that makes the field f -/
def spE1 (C : Addr) (f : Str) : Sp := fun vs H Q _ => ∃ a v, vs = [.ref a, v] ∧ H a = some (exo a C none) ∧ ∀ dx, H dx = none → dx ≠ a → Q .non (upd (upd H dx (exd dx [(f, v)])) a (exo a C (some dx)))
/-- the same of two fields -/
def spE2 (C : Addr) (f g : Str) : Sp := fun vs H Q _ => ∃ a v u, vs = [.ref a, v, u] ∧ H a = some (exo a C none) ∧ ∀ dx, H dx = none → dx ≠ a → Q .non (upd (upd H dx (exd dx [(g, u), (f, v)])) a (exo a C (some dx)))
theorem heap_out {H : Hp} {a dx C : Addr} {fs : List (Str × V)} (ha : H a = none) (hd : dx ≠ a) : upd (del (upd (upd (upd H a (exo a C none)) dx (exd dx fs)) a (exo a C (some dx))) a) dx (.xd fs) = upd H dx (.xd fs) := by
  funext b
  by_cases h1 : b = dx
  · rw [h1, upd_same, upd_same]
  · rw [upd_ne h1, upd_ne h1]
    by_cases h2 : b = a
    · rw [h2, del_same, ha]
    · rw [del_ne h2, upd_ne h2, upd_ne h1, upd_ne h2]
theorem mk1 {C : Addr} {f : Str} {H : Hp} {v : V} {Q : XK} (h : ∀ dx, H dx = none → Q (.ref C) (some dx) (upd H dx (.xd [(f, v)]))) :
    [v].length ≤ 1000 ∧ ∀ a, H a = none → spE1 C f (.ref a :: ([v] ++ [])) (upd H a (exo a C none)) (fun v H2 => v = .non ∧ ∃ (d : Addr) (fs : List (Str × V)), H2 a = some (exo a C (some d)) ∧ H2 d = some (exd d fs) ∧ H d = none ∧ Q (.ref C) (some d) (upd (del H2 a) d (.xd fs))) (fun _ _ _ => False) := by
  refine ⟨by show 1 ≤ 1000; decide, fun a ha => ⟨a, v, rfl, upd_same, fun dx hdx hne => ?_⟩⟩
  have h0 : H dx = none := by rw [upd_ne hne] at hdx; exact hdx
  refine ⟨rfl, dx, [(f, v)], upd_same, by rw [upd_ne hne, upd_same], h0, ?_⟩
  rw [heap_out ha hne]
  exact h dx h0
theorem mk2 {C : Addr} {f g : Str} {H : Hp} {v u : V} {Q : XK} (h : ∀ dx, H dx = none → Q (.ref C) (some dx) (upd H dx (.xd [(g, u), (f, v)]))) :
    [v, u].length ≤ 1000 ∧ ∀ a, H a = none → spE2 C f g (.ref a :: ([v, u] ++ [])) (upd H a (exo a C none)) (fun v H2 => v = .non ∧ ∃ (d : Addr) (fs : List (Str × V)), H2 a = some (exo a C (some d)) ∧ H2 d = some (exd d fs) ∧ H d = none ∧ Q (.ref C) (some d) (upd (del H2 a) d (.xd fs))) (fun _ _ _ => False) := by
  refine ⟨by show 2 ≤ 1000; decide, fun a ha => ⟨a, v, u, rfl, upd_same, fun dx hdx hne => ?_⟩⟩
  have h0 : H dx = none := by rw [upd_ne hne] at hdx; exact hdx
  refine ⟨rfl, dx, [(g, u), (f, v)], upd_same, by rw [upd_ne hne, upd_same], h0, ?_⟩
  rw [heap_out ha hne]
  exact h dx h0
end EXB

set_option Elab.async false
set_option linter.all false
set_option maxRecDepth 100000
set_option maxHeartbeats 4000000
namespace BX
open PySem PySem.Spec PyProof.Rows L2
section
variable {X : Cx} {CX : CXT} {k : Nat} {f : Addr} {fd : FuncData} {ps ks : List Str} {sp : Sp} {E : L2.St → XK} {x : Str} {p pos : Pos} {e : Expr} {es : List Expr} {kws : List Keyword} {t tk : TA} {ds : List Value} {dvs : List V}
/-- a call with any arguments, what it raises being wished for at the caller's slots -/
theorem run_any {pins : List (Addr × Obj)} {σ : L2.St} {H : Hp} {s : Shared} {Q : VK} {us bs : List Value} {kw : List (Str × Value)} {vs : List V} (F : FnOkG X.prog X.w X.K X.mg X.base CX k f fd ps sp) (hr : Room k X.A) (hgd : X.A.guards = some []) (hx : PassesAt CX X σ (E σ))
    (I : Inv X pins σ H s) (hb : BindsTo s fd ⟨us, kw⟩ (ps.zip bs)) (r : Vals vs bs) (h : sp vs H Q (E σ)) : wpAny (model X.prog X.w) X.A (call (.ref f) us kw) (EP X pins σ Q) X.xe s := by
  refine wpAny_call (codeAny_mono (F.run X.A X.stack s H ⟨us, kw⟩ bs vs Q (E σ) hr hgd I.env0 hb r h) fun r s' hq => ?_)
  cases r with
  | error e => exact hx pins H s e s' I hq
  | ok fl =>
    cases fl with
    | ret u => exact I.after hq
    | next => exact False.elim hq
    | brk => exact False.elim hq
    | cont => exact False.elim hq
def tCallD (sp : Sp) (dvs : List V) (E : L2.St → XK) (t : TA) : TE := fun σ H Q => t σ H fun vs H1 => sp (vs ++ dvs) H1 Q (E σ)
/-- f(e, ..), the defaults behind them -/
theorem pe_callD (F : FnOkG X.prog X.w X.K X.mg X.base CX k f fd ps sp) (hr : Room k X.A) (hgd : X.A.guards = some []) (hg : Gl X x) (hm : X.mg x = some (.ref f)) (hk : PySem.W.keepIn X.K (.ref f) = true) (hb : Binds X.K fd ps ds) (hd : Vals dvs ds) (hx : ∀ σ, PassesAt CX X σ (E σ))
    (ha : PA X (e :: es) t) (hdb : (x == ("__debug__" : Str)) = false := by decide) (he : starEach (e :: es) X.env = (false, eval e X.env) :: starEach es X.env := by rfl) (hpl : (backTo pos (starEach es X.env)).any (·.1) = false := by rfl) :
    PE X (.Call (.Name x p) (e :: es) [] pos) (tCallD sp dvs E t) := by
  refine ⟨fun pins s σ H Q I h => ?_⟩
  refine wpAny_Call_Name_kw (ld_glob I hg hm ?_ hdb)
  refine PySem.W.callWith_K (h₀ := X.base) I.ok.mod.kin hk (thn (ha.run pos pins s σ H _ I h) fun us s1 ⟨vs, H1, I1, r, q⟩ => ⟨I1.kIn, ?_⟩) he hpl
  have r2 : Vals (vs ++ dvs) (us ++ ds) := r.append hd
  exact run_any F hr hgd (hx σ) I1 (hb s1 us I1.kIn (by rw [← r2.length]; exact F.len _ _ _ _ q)) r2 q
def tCallW (sp : Sp) (E : L2.St → XK) (tk : TA) : TE := fun σ H Q => tk σ H fun zs H1 => sp zs H1 Q (E σ)
/-- f(k = v, ..), all parameters by their names, in their order -/
theorem pe_callW (F : FnOkG X.prog X.w X.K X.mg X.base CX k f fd ps sp) (hr : Room k X.A) (hgd : X.A.guards = some []) (hg : Gl X x) (hm : X.mg x = some (.ref f)) (hk : PySem.W.keepIn X.K (.ref f) = true)
    (hb : ∀ (s : Shared) (ws : List Value), X.K.In s.heap → ws.length = ps.length → BindsTo s fd ⟨[], ps.zip ws⟩ (ps.zip ws)) (hx : ∀ σ, PassesAt CX X σ (E σ))
    (hkw : PK X kws tk) (hall : (backToKw pos (keywordEach kws X.env)).all (·.1.isSome) = true := by rfl) (hks : (backToKw pos (keywordEach kws X.env)).filterMap (·.1) = ps := by rfl)
    (hdb : (x == ("__debug__" : Str)) = false := by decide) (hpl : ((backTo pos (starEach [] X.env)).any (·.1) || (backToKw pos (keywordEach kws X.env)).any (·.1.isNone)) = false := by rfl) :
    PE X (.Call (.Name x p) [] kws pos) (tCallW sp E tk) := by
  refine ⟨fun pins s σ H Q I h => ?_⟩
  refine wpAny_Call_Name_kw (ld_glob I hg hm ?_ hdb)
  refine PySem.W.callWith_KW0 (h₀ := X.base) I.ok.mod.kin hk hall (thn (hkw.run pos pins s σ H _ I h) fun ws s2 ⟨zs, H2, I2, rz, q2⟩ => ⟨I2.kIn, ?_⟩) hpl
  rw [hks]
  exact run_any F hr hgd (hx σ) I2 (hb s2 ws I2.kIn (by rw [← rz.length]; exact F.len _ _ _ _ q2)) rz q2
end
end BX

set_option Elab.async false
set_option linter.all false
set_option maxRecDepth 100000
set_option maxHeartbeats 4000000
namespace BX
open PySem PySem.Spec PyProof.Rows L2
/-- the law's call, of a promise that holds where nothing is being shown -/
theorem law_callG {P : Program} {w : World} {K : PySem.W.Frag} {mg mb : Str → Option Value} {CX : CXT} {k : Nat} {fa a : Addr} {fd : FuncData} {x : Str} {sp : Sp} {s₁ : Shared} {vs : List Value} {ns : List Int}
    (KX : K.In s₁.heap) (hns : s₁.heap.Ns mainGlobals mg) (hb : s₁.heap.Ns builtinsNs mb) (hbb : ∀ x : Str, x ≠ "__name__" → mb x = bootBuiltins x) (hlim : s₁.heap.NoLimit) (hg : s₁.gens = #[])
    (ha : s₁.heap.get? a = some { cls := .type "list", data := .seq vs.toArray }) (hi : IntsAre vs ns) (hl : ns.length ≤ sizeLine) (hr : Room k callerA)
    (F : ∀ base : Heap, K.In base → base.Ns mainGlobals mg → FnOkG P w K mg base CX k fa fd [x] sp) (hbind : ∀ (s : Shared) (u : Value), BindsTo s fd ⟨[u], []⟩ [(x, u)])
    (hsp : ∀ H : Hp, Only H → SqL K H a (ns.map V.int) → sp [.ref a] H (fun v _ => v = .bl true) fun _ _ _ => False)
    (hCX : ∀ H e s', CX [] H s₁ (fun _ _ _ => False) e s' → False) :
    codeAny (model P w) callerA (.call (.ref fa) ⟨[.ref a], []⟩) (fun r s' => r = .ok (.ret (.bool true)) ∧ OldK s₁.heap s'.heap ∧ s'.os = s₁.os ∧ AllBare s'.gens) s₁ := by
  have rv := vals_ints hi
  have lenV := hi.length
  have core : ∀ H : Hp, Only H → SqL K H a (ns.map V.int) → HOk P w H s₁.heap → (∀ b, H b ≠ none → b = a) → (H a ≠ none → K.lookup a = none) →
      codeAny (model P w) callerA (.call (.ref fa) ⟨[.ref a], []⟩) (fun r s' => r = .ok (.ret (.bool true)) ∧ OldK s₁.heap s'.heap ∧ s'.os = s₁.os ∧ AllBare s'.gens) s₁ := by
    intro H hO hS hok hA hK
    have noA : ∀ {b : Addr} {o : Obj} {es : Array DictEntry} {ep : Nat}, s₁.heap.get? b = some o → o.data = .dict es ep → H b = none := fun {b o es ep} e dd => by
      cases q : H b with
      | none => rfl
      | some u =>
        have e' : b = a := hA b (by rw [q]; simp)
        rw [e', ha] at e
        cases e
        cases dd
    have nsK : ∀ {b : Addr} {m : Str → Option Value}, s₁.heap.Ns b m → (hidT s₁.heap H).Ns b m := fun {b m} ⟨o, es, ep, e, dd, r⟩ => ⟨o, es, ep, hidT_get e (noA e dd), dd, r⟩
    have hKb : K.In (hidT s₁.heap H) := fun b o e => hidT_get (KX b o e) (by
      cases q : H b with
      | none => rfl
      | some u =>
        have e' : b = a := hA b (by rw [q]; simp)
        rw [e'] at e q
        rw [hK (by rw [q]; simp)] at e
        cases e)
    have hM : Mod K mg (hidT s₁.heap H) := ⟨hKb, nsK hns, ⟨mb, nsK hb, hbb⟩, let ⟨mc, h1, h2⟩ := hlim; ⟨mc, nsK h1, h2⟩⟩
    have e0 : Env0 P w K mg (hidT s₁.heap H) callerA [] s₁ H := ⟨rfl, hM, fun b o e => of_hidT e, Nat.le_of_eq (hidT_size _ _), trivial, fun b hb => absurd (show b ∈ ([] : List Addr) from hb) (by simp), hok, .of_eq hg⟩
    refine codeAny_mono ((F _ hKb (nsK hns)).run callerA [] s₁ H ⟨[.ref a], []⟩ [.ref a] [.ref a] _ _ hr rfl e0 (hbind s₁ (.ref a)) (.cons rfl .nil) (hsp H hO hS)) fun r s' h => ?_
    cases r with
    | error e => exact (hCX H e s' h).elim
    | ok fl =>
      cases fl with
      | next => exact False.elim h
      | brk => exact False.elim h
      | cont => exact False.elim h
      | ret u =>
        obtain ⟨v, H', os, bare, un, hok', r', q⟩ := h
        have q' : v = .bl true := q
        subst q'
        obtain rfl : u = Value.bool true := r'
        refine ⟨rfl, OldK.of_keep fun b o e => ?_, os, bare⟩
        cases q : H b with
        | none => exact un.keep b o e q (by intro z; exact absurd (show b ∈ ([] : List Addr) from z) (by simp)) (by simp)
        | some u =>
          rcases hO b with z | ⟨ob, xs, z⟩
          · rw [q] at z; cases z
          · obtain ⟨e1, _⟩ := hok b _ z
            obtain ⟨e2, _⟩ := hok' b _ (un.frzs b ob _ z)
            rw [e] at e1; cases e1
            exact e2
  cases hk : K.lookup a with
  | some o =>
    have e := KX a o hk
    rw [ha] at e
    cases e
    refine core (fun _ => none) (fun _ => .inl rfl) (.inr ⟨_, vs.toArray, _, hk, rfl, rfl, rfl, by rw [List.size_toArray, lenV]; exact hl, by simpa using rv⟩) (fun b u z => by have z' : (none : Option HO) = some u := z; cases z') (fun b z => absurd rfl z) fun z => absurd rfl z
  | none =>
    refine core (fun b => if b = a then some (.frz { cls := .type "list", data := .seq vs.toArray } (.lst (ns.map V.int))) else none) (fun b => ?_) (.inl (.inr ⟨{ cls := .type "list", data := .seq vs.toArray }, if_pos rfl⟩)) (fun b u z => ?_) (fun b z => ?_) fun _ => hk
    · by_cases hb : b = a
      · exact .inr ⟨_, _, if_pos hb⟩
      · exact .inl (if_neg hb)
    · by_cases hb : b = a
      · have z' := (if_pos hb).symm.trans z
        cases z'
        subst hb
        exact ⟨ha, by rw [List.length_map]; exact hl, vs, _, rv, ha⟩
      · have z' := (if_neg hb).symm.trans z
        cases z'
    · by_cases hb : b = a
      · exact hb
      · exact absurd (if_neg hb) z
theorem walk_ofG {l : PySem.W.OpenLaw} {n k : Nat} {q : Program} {loose : List Str} {XP : (Str → Option Value) → Heap → Prop} {YP : World → Heap → Prop} {d : DefRec} {K : Params → PySem.W.Frag} {CX : World → CXT} {sp : World → Sp} {x : Str}
    (hn : l.most = some n) (hn2 : n ≤ sizeLine) (hdf : d.params.defaults = []) (hr : Room k callerA) (hY : ∀ (w : World) (h : Heap), YP w h → (K w.params).In h)
    (F : ∀ (w : World) (mg : Str → Option Value) (fa : Addr) (h : Heap), (K w.params).In h → h.Ns mainGlobals mg → mg d.name = some (.ref fa) →
      ∃ fd : FuncData, (∀ (s : Shared) (u : Value), BindsTo s fd ⟨[u], []⟩ [(x, u)]) ∧
        ∀ base : Heap, (K w.params).In base → base.Ns mainGlobals mg → FnOkG l.prog w (K w.params) mg base (CX w) k fa fd [x] (sp w))
    (hsp : ∀ (w : World) (H : Hp) (a : Addr) (ns : List Int), ns.length ≤ n → Only H → SqL (K w.params) H a (ns.map V.int) → sp w [.ref a] H (fun v _ => v = .bl true) fun _ _ _ => False)
    (hCX : ∀ (w : World) (H : Hp) (s : Shared) (e : Value) (s' : Shared), CX w [] H s (fun _ _ _ => False) e s' → False) :
    PySem.W.WalkO q loose XP YP l.row.toRowW d [] (fun f vs => PySem.call f vs) := by
  refine Att.attach_call hn hdf fun w s₀ s₁ mg mb fa o pm cd doc a vs ns G Y ho hd hcd hmg hobj hints hlen hg => ?_
  have KX := hY w _ Y
  obtain ⟨fd, hb, hF⟩ := F w mg fa _ KX G.T.g hmg
  exact law_callG KX G.T.g G.T.b G.T.builtins G.T.nolimit hg hobj hints (Nat.le_trans hlen hn2) hr hF hb (fun H hO hS => hsp w H a ns hlen hO hS) fun H e s' => hCX w H s₁ e s'
end BX

set_option Elab.async false
set_option linter.all false
set_option maxRecDepth 100000
set_option maxHeartbeats 4000000
namespace Ru
open PySem PySem.Spec PyProof.Rows L2 BX EXB Co
open Fr (Bd)
/-! ### rows of fractions -/
/-- cells and what they are worth, below 2 ^ n -/
structure FrN (K : PySem.W.Frag) (H : Hp) (n : Nat) (cs : List V) (qs : List Rat) : Prop where
  len : cs.length = qs.length
  at_ : ∀ (i : Nat) (v : V), cs[i]? = some v → ∃ (a : Addr) (q : Rat), qs[i]? = some q ∧ v = .ref a ∧ SqT K H a (rp q) ∧ Bd n q
section
variable {K : PySem.W.Frag} {H H' : Hp} {n : Nat} {cs : List V} {qs : List Rat}
theorem FrN.keep (h : FrN K H n cs qs) (k : ∀ a xs, SqT K H a xs → SqT K H' a xs) : FrN K H' n cs qs :=
  ⟨h.len, fun i v e => let ⟨a, q, e1, e2, e3, e4⟩ := h.at_ i v e; ⟨a, q, e1, e2, k _ _ e3, e4⟩⟩
theorem FrN.same (h : FrN K H n cs qs) (e : Same H H') : FrN K H' n cs qs := h.keep fun _ _ => seqT e
theorem FrN.mono {m : Nat} (h : FrN K H n cs qs) (l : n ≤ m) : FrN K H m cs qs :=
  ⟨h.len, fun i v e => let ⟨a, q, e1, e2, e3, e4⟩ := h.at_ i v e; ⟨a, q, e1, e2, e3, e4.mono l⟩⟩
theorem FrN.nil : FrN K H n [] [] := ⟨rfl, fun i v e => by simp at e⟩
theorem FrN.snoc {a : Addr} {q : Rat} (h : FrN K H n cs qs) (ha : SqT K H a (rp q)) (hb : Bd n q) : FrN K H n (cs ++ [.ref a]) (qs ++ [q]) := by
  refine ⟨by rw [List.length_append, List.length_append, h.len]; rfl, fun i v e => ?_⟩
  by_cases hi : i < cs.length
  · rw [List.getElem?_append_left hi] at e
    obtain ⟨a', q', e1, e2, e3, e4⟩ := h.at_ i v e
    exact ⟨a', q', by rw [List.getElem?_append_left (by rw [← h.len]; exact hi)]; exact e1, e2, e3, e4⟩
  · rw [List.getElem?_append_right (by omega)] at e
    have e0 : i - cs.length = 0 := by
      cases z : i - cs.length with
      | zero => rfl
      | succ j => rw [z] at e; simp at e
    rw [e0] at e
    have ev : (V.ref a) = v := Option.some.inj e
    refine ⟨a, q, ?_, ev.symm, ha, hb⟩
    rw [List.getElem?_append_right (by rw [← h.len]; omega), ← h.len, e0]
    rfl
theorem FrN.set {a : Addr} {q : Rat} {j : Nat} (h : FrN K H n cs qs) (ha : SqT K H a (rp q)) (hb : Bd n q) : FrN K H n (cs.set j (.ref a)) (qs.set j q) := by
  refine ⟨by rw [List.length_set, List.length_set, h.len], fun i v e => ?_⟩
  by_cases hij : j = i
  · subst hij
    have hj : j < cs.length := by
      have := (List.getElem?_eq_some_iff.mp e).1
      rw [List.length_set] at this
      exact this
    rw [List.getElem?_set_self hj] at e
    exact ⟨a, q, List.getElem?_set_self (by rw [← h.len]; exact hj), (Option.some.inj e).symm, ha, hb⟩
  · rw [List.getElem?_set_ne hij] at e
    obtain ⟨a', q', e1, e2, e3, e4⟩ := h.at_ i v e
    exact ⟨a', q', by rw [List.getElem?_set_ne hij]; exact e1, e2, e3, e4⟩
theorem FrN.dp : ∀ {cs : List V} {qs : List Rat}, FrN K H n cs qs → DpAll K H cs (qs.map dR)
  | [], [], _ => .nil
  | [], _ :: _, h => by have := h.len; simp at this
  | _ :: _, [], h => by have := h.len; simp at this
  | v :: cs, q :: qs, h => by
    obtain ⟨a, q', e1, rfl, e3, _⟩ := h.at_ 0 v rfl
    have e : q = q' := Option.some.inj e1
    subst e
    exact .cons (dp_r e3) (FrN.dp ⟨by have := h.len; simpa using this, fun i v e => h.at_ (i + 1) v e⟩)
end
/-- all but ex stays -/
def SameB (ex : Addr) (H H' : Hp) : Prop := ∀ b o, b ≠ ex → H b = some o → H' b = some o
theorem SameB.of {ex : Addr} {H H' : Hp} (h : Same H H') : SameB ex H H' := fun b o _ e => h b o e
theorem SameB.trans {ex : Addr} {H H1 H2 : Hp} (a : SameB ex H H1) (b : SameB ex H1 H2) : SameB ex H H2 := fun c o hc h => b c o hc (a c o hc h)
theorem SameB.upd {ex : Addr} {H : Hp} {o : HO} : SameB ex H (upd H ex o) := fun b u hb e => by rw [upd_ne hb]; exact e
theorem SameB.tup {K : PySem.W.Frag} {ex : Addr} {H H' : Hp} {ys : List V} (h : SameB ex H H') (hx : H ex = some (.lst ys)) : ∀ a xs, SqT K H a xs → SqT K H' a xs := fun a xs z => by
  rcases z with (z | ⟨o, z⟩) | z
  · exact .inl (.inl (h _ _ (ne_of z hx (by intro w; cases w)) z))
  · exact .inl (.inr ⟨o, h _ _ (ne_of z hx (by intro w; cases w)) z⟩)
  · exact .inr z
/-- what stands in the rows rs is worth rss -/
def RowsAt (K : PySem.W.Frag) (H : Hp) (n : Nat) (rs : List Addr) (rss : List (List Rat)) : Prop := rs.length = rss.length ∧ ∀ (j : Nat) (r : Addr), rs[j]? = some r → ∃ cs qs, rss[j]? = some qs ∧ H r = some (.lst cs) ∧ FrN K H n cs qs
theorem RowsAt.keep {K : PySem.W.Frag} {H H' : Hp} {n : Nat} {rs : List Addr} {rss : List (List Rat)} {ex : Addr} {ys : List V} (h : RowsAt K H n rs rss) (s : SameB ex H H') (hx : H ex = some (.lst ys)) (hn : ex ∉ rs) : RowsAt K H' n rs rss := by
  refine ⟨h.1, fun j r e => ?_⟩
  obtain ⟨cs, qs, e1, e2, e3⟩ := h.2 j r e
  exact ⟨cs, qs, e1, s r _ (fun z => hn (by rw [← z]; exact List.mem_of_getElem? e)) e2, e3.keep (s.tup hx)⟩
theorem RowsAt.same {K : PySem.W.Frag} {H H' : Hp} {n : Nat} {rs : List Addr} {rss : List (List Rat)} (h : RowsAt K H n rs rss) (s : Same H H') : RowsAt K H' n rs rss := by
  refine ⟨h.1, fun j r e => ?_⟩
  obtain ⟨cs, qs, e1, e2, e3⟩ := h.2 j r e
  exact ⟨cs, qs, e1, s r _ e2, e3.same s⟩
theorem RowsAt.nil {K : PySem.W.Frag} {H : Hp} {n : Nat} : RowsAt K H n [] [] := ⟨rfl, fun j r e => by simp at e⟩
theorem RowsAt.snoc {K : PySem.W.Frag} {H : Hp} {n : Nat} {rs : List Addr} {rss : List (List Rat)} {r : Addr} {cs : List V} {qs : List Rat} (h : RowsAt K H n rs rss) (hr : H r = some (.lst cs)) (hf : FrN K H n cs qs) : RowsAt K H n (rs ++ [r]) (rss ++ [qs]) := by
  refine ⟨by rw [List.length_append, List.length_append, h.1]; rfl, fun j x e => ?_⟩
  by_cases hj : j < rs.length
  · rw [List.getElem?_append_left hj] at e
    obtain ⟨cs', qs', e1, e2, e3⟩ := h.2 j x e
    exact ⟨cs', qs', by rw [List.getElem?_append_left (by rw [← h.1]; exact hj)]; exact e1, e2, e3⟩
  · rw [List.getElem?_append_right (by omega)] at e
    have e0 : j - rs.length = 0 := by
      cases z : j - rs.length with
      | zero => rfl
      | succ i => rw [z] at e; simp at e
    rw [e0] at e
    have ev : r = x := Option.some.inj e
    subst ev
    refine ⟨cs, qs, ?_, hr, hf⟩
    rw [List.getElem?_append_right (by rw [← h.1]; omega), ← h.1, e0]
    rfl
theorem RowsAt.dp {K : PySem.W.Frag} {H : Hp} {n : Nat} : ∀ {rs : List Addr} {rss : List (List Rat)}, RowsAt K H n rs rss → DpAll K H (rs.map V.ref) (rss.map fun qs => PyData.list (qs.map dR))
  | [], [], _ => .nil
  | [], _ :: _, h => by have := h.1; simp at this
  | _ :: _, [], h => by have := h.1; simp at this
  | r :: rs, q :: rss, h => by
    obtain ⟨cs, qs, e1, e2, e3⟩ := h.2 0 r rfl
    have e : q = qs := Option.some.inj e1
    subst e
    exact .cons (.lst (SqL.of e2) e3.dp) (RowsAt.dp ⟨by have := h.1; simpa using this, fun j x e => h.2 (j + 1) x e⟩)
/-- rows as data -/
def dRows (rss : List (List Rat)) : PyData := .list (rss.map fun qs => PyData.list (qs.map dR))
theorem rows_lays : ∀ rss : List (List Rat), PyData.canLayAll0 (rss.map fun qs => PyData.list (qs.map dR)) = true
  | [] => rfl
  | q :: rss => by
    show (PyData.canLayAll0 (q.map dR) && PyData.canLayAll0 (rss.map fun qs => PyData.list (qs.map dR))) = true
    rw [rows_lays rss, lays q]
    rfl
theorem rows_deps : ∀ rss : List (List Rat), PyData.depthAll (rss.map fun qs => PyData.list (qs.map dR)) ≤ 2
  | [] => by decide
  | q :: rss => by
    have h1 := rows_deps rss
    have h2 := deps q
    show max (PyData.depthAll (q.map dR) + 1) (PyData.depthAll (rss.map fun qs => PyData.list (qs.map dR))) ≤ 2
    omega
theorem dRows_lay (rss : List (List Rat)) : (dRows rss).canLay0 = true := rows_lays rss
theorem dRows_shaped (rss : List (List Rat)) : SeqAt.shaped (dRows rss) = true := by
  unfold SeqAt.shaped
  rw [dRows_lay, Bool.true_and]
  refine decide_eq_true ?_
  have := rows_deps rss
  show PyData.depthAll (rss.map fun qs => PyData.list (qs.map dR)) + 1 ≤ 64
  omega
/-- a new list of new rows, beside what stood in H0 (but ex) -/
structure New (K : PySem.W.Frag) (H0 H : Hp) (ex D : Addr) (rs : List Addr) (rss : List (List Rat)) (n : Nat) : Prop where
  at_ : H D = some (.lst (rs.map V.ref))
  nd : rs.Nodup
  ne : D ∉ rs
  fresh : ∀ x ∈ rs, H0 x = none
  fD : H0 D = none
  nx : ex ∉ rs
  keep : SameB ex H0 H
  rows : RowsAt K H n rs rss
theorem New.start {K : PySem.W.Frag} {H : Hp} {ex D : Addr} {n : Nat} (hD : H D = none) : New K H (upd H D (.lst [])) ex D [] [] n :=
  ⟨upd_same, List.nodup_nil, by simp, fun x hx => by simp at hx, hD, by simp, SameB.of (same_new hD _), RowsAt.nil⟩
/-- a step beside the list: what is new is laid, ex may change -/
theorem New.step {K : PySem.W.Frag} {H0 H H1 : Hp} {ex D : Addr} {rs : List Addr} {rss : List (List Rat)} {n : Nat} {ys : List V} (h : New K H0 H ex D rs rss n) (s : SameB ex H H1) (hx : H ex = some (.lst ys)) (hDx : D ≠ ex) : New K H0 H1 ex D rs rss n :=
  ⟨s D _ hDx h.at_, h.nd, h.ne, h.fresh, h.fD, h.nx, h.keep.trans s, h.rows.keep s hx h.nx⟩
theorem New.stepS {K : PySem.W.Frag} {H0 H H1 : Hp} {ex D : Addr} {rs : List Addr} {rss : List (List Rat)} {n : Nat} (h : New K H0 H ex D rs rss n) (s : Same H H1) : New K H0 H1 ex D rs rss n :=
  ⟨s D _ h.at_, h.nd, h.ne, h.fresh, h.fD, h.nx, h.keep.trans (SameB.of s), h.rows.same s⟩
/-- one row more -/
theorem New.push {K : PySem.W.Frag} {H0 H H1 : Hp} {ex D l : Addr} {rs : List Addr} {rss : List (List Rat)} {n : Nat} {cs : List V} {qs : List Rat} (h0 : New K H0 H ex D rs rss n) (h : New K H0 H1 ex D rs rss n) (hl0 : H l = none) (hl : H1 l = some (.lst cs)) (hf : FrN K H1 n cs qs) (hle : l ≠ ex) :
    New K H0 (upd H1 D (.lst (rs.map V.ref ++ [V.ref l]))) ex D (rs ++ [l]) (rss ++ [qs]) n := by
  have hlD : l ≠ D := fun e => by
    rw [e, h0.at_] at hl0
    cases hl0
  have hlr : l ∉ rs := fun hm => by
    obtain ⟨j, hj, e⟩ := List.getElem_of_mem hm
    obtain ⟨cs', qs', _, e2, _⟩ := h0.rows.2 j l (by rw [List.getElem?_eq_getElem hj, e])
    rw [hl0] at e2
    cases e2
  have hl00 : H0 l = none := by
    cases e : H0 l with
    | none => rfl
    | some o =>
      rw [h0.keep l o hle e] at hl0
      cases hl0
  have sD : SameB D H1 (upd H1 D (.lst (rs.map V.ref ++ [V.ref l]))) := SameB.upd
  refine ⟨by rw [upd_same, List.map_append]; rfl, ?_, ?_, ?_, h.fD, ?_, ?_, ?_⟩
  · rw [List.nodup_append]
    refine ⟨h.nd, by simp, fun a ha b hb => ?_⟩
    have : b = l := by simpa using hb
    rw [this]
    exact fun e => hlr (by rw [← e]; exact ha)
  · intro hm
    rcases List.mem_append.mp hm with hm | hm
    · exact h.ne hm
    · have : D = l := by simpa using hm
      exact hlD this.symm
  · intro x hx
    rcases List.mem_append.mp hx with hx | hx
    · exact h.fresh x hx
    · have : x = l := by simpa using hx
      rw [this]
      exact hl00
  · intro hm
    rcases List.mem_append.mp hm with hm | hm
    · exact h.nx hm
    · have : ex = l := by simpa using hm
      exact hle this.symm
  · intro b o hb e
    rw [upd_ne (ne_of_none e h.fD)]
    exact h.keep b o hb e
  · exact (h.rows.keep sD h.at_ h.ne).snoc (by rw [upd_ne hlD]; exact hl) (hf.keep (sD.tup h.at_))
/-- list(x), by values -/
def rListOf (K : PySem.W.Frag) : List V → Hp → VK → Prop := fun xs H Q => ∃ p ys, xs = [V.ref p] ∧ (SqL K H p ys ∨ SqT K H p ys) ∧ ∀ l : Addr, H l = none → Q (V.ref l) (upd H l (.lst ys))
/-! ### rules -/
def RowOk (m : Nat) (qs : List Rat) : Prop := qs.length = m ∧ (∀ q ∈ qs, 0 ≤ q) ∧ qs.sum = 1
structure Good (rss : List (List Rat)) (m : Nat) : Prop where
  w1 : 1 ≤ rss.length
  w5 : rss.length ≤ 5
  m1 : 1 ≤ m
  m30 : m ≤ 30
  row : ∀ qs ∈ rss, RowOk m qs
/-- a list of rows that stands -/
def RwL (K : PySem.W.Frag) (H : Hp) (a : Addr) (rs : List Addr) (rss : List (List Rat)) (n : Nat) : Prop := H a = some (.lst (rs.map V.ref)) ∧ RowsAt K H n rs rss
theorem RwL.same {K : PySem.W.Frag} {H H' : Hp} {a : Addr} {rs : List Addr} {rss : List (List Rat)} {n : Nat} (h : RwL K H a rs rss n) (s : Same H H') : RwL K H' a rs rss n := ⟨s _ _ h.1, h.2.same s⟩
theorem RwL.dp {K : PySem.W.Frag} {H : Hp} {a : Addr} {rs : List Addr} {rss : List (List Rat)} {n : Nat} (h : RwL K H a rs rss n) : Dp K H (.ref a) (dRows rss) := .lst (SqL.of h.1) h.2.dp
theorem New.rwl {K : PySem.W.Frag} {H0 H : Hp} {ex D : Addr} {rs : List Addr} {rss : List (List Rat)} {n : Nat} (h : New K H0 H ex D rs rss n) : RwL K H D rs rss n := ⟨h.at_, h.rows⟩
/-- a new list of new rows -/
def Fresh (K : PySem.W.Frag) (H H' : Hp) (D : Addr) (rs : List Addr) (rss : List (List Rat)) (n : Nat) : Prop := RwL K H' D rs rss n ∧ rs.Nodup ∧ D ∉ rs ∧ H D = none ∧ (∀ x ∈ rs, H x = none) ∧ Same H H'
/-- an instance of the class at C, of these rows -/
def IsRule (K : PySem.W.Frag) (H : Hp) (C x : Addr) (rss : List (List Rat)) (n : Nat) : Prop := ∃ dx ra rs, H x = some (.ins C dx [("own_rows", .ref ra)]) ∧ RwL K H ra rs rss n
theorem IsRule.same {K : PySem.W.Frag} {H H' : Hp} {C x : Addr} {rss : List (List Rat)} {n : Nat} (h : IsRule K H C x rss n) (s : Same H H') : IsRule K H' C x rss n :=
  let ⟨dx, ra, rs, e1, e2⟩ := h; ⟨dx, ra, rs, s _ _ e1, e2.same s⟩
theorem New.toFresh {K : PySem.W.Frag} {H0 H : Hp} {D : Addr} {rs : List Addr} {rss : List (List Rat)} {n : Nat} (h : New K H0 H D D rs rss n) : Fresh K H0 H D rs rss n :=
  ⟨h.rwl, h.nd, h.ne, h.fD, h.fresh, fun b o e => h.keep b o (ne_of_none e h.fD) e⟩
/-! ### the mathematics of rules -/
theorem sum_nonneg' : ∀ {qs : List Rat}, (∀ q ∈ qs, 0 ≤ q) → 0 ≤ qs.sum
  | [], _ => by rw [List.sum_nil]; exact Rat.le_refl
  | q :: qs, h => by
    rw [List.sum_cons]
    exact Rat.add_nonneg (h q (List.mem_cons_self ..)) (sum_nonneg' fun x hx => h x (List.mem_cons_of_mem _ hx))
/-- shares of two rows side by side -/
def rowB (row second : List Rat) : List Rat := row.flatMap fun s => second.map fun o => s * o
theorem sum_map_mul (s : Rat) : ∀ l : List Rat, (l.map fun o => s * o).sum = s * l.sum
  | [] => by rw [List.map_nil, List.sum_nil, Rat.mul_zero]
  | x :: l => by rw [List.map_cons, List.sum_cons, List.sum_cons, sum_map_mul s l, Rat.mul_add]
theorem rowB_sum : ∀ (row second : List Rat), (rowB row second).sum = row.sum * second.sum
  | [], second => by show ([] : List Rat).sum = _; rw [List.sum_nil, Rat.zero_mul]
  | s :: row, second => by
    show ((second.map fun o => s * o) ++ rowB row second).sum = _
    rw [List.sum_append, sum_map_mul, rowB_sum row second, List.sum_cons, Rat.add_mul]
theorem rowB_len : ∀ (row second : List Rat), (rowB row second).length = row.length * second.length
  | [], second => by show 0 = _; rw [List.length_nil, Nat.zero_mul]
  | s :: row, second => by
    show ((second.map fun o => s * o) ++ rowB row second).length = _
    rw [List.length_append, List.length_map, rowB_len row second, List.length_cons, Nat.succ_mul, Nat.add_comm]
theorem rowB_ok {m k : Nat} {row second : List Rat} (h1 : RowOk m row) (h2 : RowOk k second) : RowOk (m * k) (rowB row second) := by
  refine ⟨by rw [rowB_len, h1.1, h2.1], fun q hq => ?_, by rw [rowB_sum, h1.2.2, h2.2.2, Rat.mul_one]⟩
  obtain ⟨s, hs, hq⟩ := List.mem_flatMap.mp hq
  obtain ⟨o, ho, rfl⟩ := List.mem_map.mp hq
  exact Rat.mul_nonneg (h1.2.1 s hs) (h2.2.1 o ho)
/-- words of one group are one -/
def grp : List Rat → List Nat → List Rat → List Rat
  | s :: row, g :: gs, told => grp row gs (told.set g (told.getD g 0 + s))
  | _, _, told => told
theorem grp_len : ∀ (row : List Rat) (gs : List Nat) (told : List Rat), (grp row gs told).length = told.length
  | [], _, _ => by rw [grp] <;> simp
  | _ :: _, [], _ => by rw [grp] <;> simp
  | s :: row, g :: gs, told => by rw [grp, grp_len row gs, List.length_set]
theorem set_sum : ∀ (l : List Rat) (g : Nat) (s : Rat), g < l.length → (l.set g (l.getD g 0 + s)).sum = l.sum + s
  | [], g, s, h => by simp at h
  | x :: l, 0, s, h => by
    show ((x + s) :: l).sum = _
    rw [List.sum_cons, List.sum_cons, Rat.add_assoc, Rat.add_assoc, Rat.add_comm s]
  | x :: l, g + 1, s, h => by
    show (x :: l.set g (l.getD g 0 + s)).sum = _
    rw [List.sum_cons, List.sum_cons, set_sum l g s (by simpa using h), Rat.add_assoc]
theorem grp_sum : ∀ (row : List Rat) (gs : List Nat) (told : List Rat), row.length = gs.length → (∀ g ∈ gs, g < told.length) → (grp row gs told).sum = told.sum + row.sum
  | [], [], told, _, _ => by show told.sum = _; rw [List.sum_nil, Rat.add_zero]
  | [], _ :: _, _, h, _ => by simp at h
  | _ :: _, [], _, h, _ => by simp at h
  | s :: row, g :: gs, told, h, hg => by
    rw [grp, grp_sum row gs _ (by simpa using h) (fun x hx => by rw [List.length_set]; exact hg x (List.mem_cons_of_mem _ hx)), set_sum told g s (hg g (List.mem_cons_self ..)), List.sum_cons, Rat.add_assoc]
theorem grp_nonneg : ∀ (row : List Rat) (gs : List Nat) (told : List Rat), (∀ q ∈ row, 0 ≤ q) → (∀ q ∈ told, 0 ≤ q) → ∀ q ∈ grp row gs told, 0 ≤ q
  | [], _, _, _, ht => by rw [grp]; exact ht; simp
  | _ :: _, [], _, _, ht => by rw [grp]; exact ht; simp
  | s :: row, g :: gs, told, hr, ht => by
    rw [grp]
    refine grp_nonneg row gs _ (fun q hq => hr q (List.mem_cons_of_mem _ hq)) fun q hq => ?_
    have hx : 0 ≤ told.getD g 0 := by
      by_cases h : g < told.length
      · rw [List.getD_eq_getElem?_getD, List.getElem?_eq_getElem h]
        exact ht _ (List.getElem_mem h)
      · rw [List.getD_eq_getElem?_getD, List.getElem?_eq_none (by omega)]
        exact Rat.le_refl
    rcases List.mem_or_eq_of_mem_set hq with hq | rfl
    · exact ht q hq
    · exact Rat.add_nonneg hx (hr s (List.mem_cons_self ..))
theorem grp_ok {m many : Nat} {row : List Rat} {gs : List Nat} (h : RowOk m row) (hl : gs.length = m) (hg : ∀ g ∈ gs, g < many) : RowOk many (grp row gs (List.replicate many 0)) := by
  have z : ∀ k : Nat, (List.replicate k (0 : Rat)).sum = 0 := fun k => by
    induction k with
    | zero => rfl
    | succ k ih => rw [List.replicate_succ, List.sum_cons, ih, Rat.add_zero]
  refine ⟨by rw [grp_len, List.length_replicate], grp_nonneg row gs _ h.2.1 fun q hq => ?_, ?_⟩
  · rw [List.eq_of_mem_replicate hq]
    exact Rat.le_refl
  · rw [grp_sum row gs _ (by rw [h.1, hl]) (fun g hgm => by rw [List.length_replicate]; exact hg g hgm), z, Rat.zero_add]
    exact h.2.2
/-- the row of the world i among w -/
def unit (w i : Nat) : List Rat := (List.range w).map fun j => if j = i then 1 else 0
theorem unit_sum : ∀ (w i : Nat), (unit w i).sum = if i < w then 1 else 0
  | 0, i => rfl
  | w + 1, i => by
    unfold unit
    rw [List.range_succ, List.map_append, List.sum_append]
    have ih := unit_sum w i
    unfold unit at ih
    rw [ih]
    show _ + ([if w = i then (1 : Rat) else 0]).sum = _
    rw [List.sum_cons, List.sum_nil, Rat.add_zero]
    by_cases h1 : i < w
    · rw [if_pos h1, if_neg (by omega), if_pos (by omega), Rat.add_zero]
    · by_cases h2 : w = i
      · rw [if_neg h1, if_pos h2, if_pos (by omega), Rat.zero_add]
      · rw [if_neg h1, if_neg h2, if_neg (by omega), Rat.zero_add]
theorem unit_ok {w i : Nat} (h : i < w) : RowOk w (unit w i) := by
  refine ⟨by unfold unit; rw [List.length_map, List.length_range], fun q hq => ?_, by rw [unit_sum, if_pos h]⟩
  obtain ⟨j, _, rfl⟩ := List.mem_map.mp hq
  split
  · decide
  · exact Rat.le_refl
end Ru

set_option Elab.async false
set_option linter.all false
set_option maxRecDepth 100000
set_option maxHeartbeats 4000000
namespace BX
open PySem PySem.Spec PyProof.Rows L2
def tMakeD (C : Addr) (sp : Sp) (dvs : List V) (E : L2.St → XK) (t : TA) : TE := fun σ H Q => t σ H fun vs H1 => ∀ x dx, H1 x = none → H1 dx = none → dx ≠ x → sp (.ref x :: (vs ++ dvs)) (upd (upd H1 dx (.own x)) x (.ins C dx [])) (fun v H2 => v = .non ∧ Q (.ref x) H2) (E σ)
section
variable {X : Cx} {CX : CXT} {k : Nat} {f C : Addr} {fd : FuncData} {ps : List Str} {sp : Sp} {E : L2.St → XK} {x : Str} {p pos : Pos} {e : Expr} {es : List Expr} {t : TA} {ds : List Value} {dvs : List V}
/-- C(e, ..), what its __init__ raises being wished for at the caller's slots -/
theorem pe_makeD (M : Mk X.K C f) (F : FnOk X.prog X.w X.K X.mg X.base CX k f fd ps sp) (hr : Room (k + 1) X.A) (hg : Gl X x) (hm : X.mg x = some (.ref C)) (hb : Binds X.K fd ps ds) (hd : Vals dvs ds) (hx : ∀ σ, PassesAt CX X σ (E σ))
    (ha : PA X (e :: es) t) (hdb : (x == ("__debug__" : Str)) = false := by decide) (he : starEach (e :: es) X.env = (false, eval e X.env) :: starEach es X.env := by rfl) (hpl : (backTo pos (starEach es X.env)).any (·.1) = false := by rfl) :
    PE X (.Call (.Name x p) (e :: es) [] pos) (tMakeD C sp dvs E t) := by
  refine ⟨fun pins s σ H Q I h => ?_⟩
  refine wpAny_Call_Name_kw (ld_glob I hg hm ?_ hdb)
  refine PySem.W.callWith_K (h₀ := X.base) I.ok.mod.kin M.kp (thn (ha.run pos pins s σ H _ I h) fun us s1 ⟨vs, H1, I1, r, q⟩ => ⟨I1.kIn, ?_⟩) he hpl
  have hq := q (s1.heap.objs.size + 1) s1.heap.objs.size (I1.hok.fresh (Nat.le_succ _)) (I1.hok.fresh (Nat.le_refl _)) (Nat.ne_of_lt (Nat.lt_succ_self _))
  have I2 := Inv.made (C := C) I1
  have r2 : Vals (V.ref (s1.heap.objs.size + 1) :: (vs ++ dvs)) (Value.ref (s1.heap.objs.size + 1) :: (us ++ ds)) := .cons rfl (r.append hd)
  have hl : (Value.ref (s1.heap.objs.size + 1) :: us ++ ds).length = ps.length := by
    have z := r2.length
    rw [F.len _ _ _ _ hq] at z
    exact z.symm
  refine wpAny_call (make_map (f := f) I1.kIn M.makes M.init (beq_iff_eq.mp M.fn) (codeAny_mono (F.run _ X.stack _ _ ⟨Value.ref (s1.heap.objs.size + 1) :: us, []⟩ (Value.ref (s1.heap.objs.size + 1) :: (us ++ ds)) _ _ (E σ) (hr.make C us [])
    (I2.env0.make C us []) (hb _ (Value.ref (s1.heap.objs.size + 1) :: us) I2.kIn hl) r2 hq) fun r s' hq' => ?_))
  cases r with
  | error er => exact hx σ pins _ _ er s' I2 hq'
  | ok fl =>
    cases fl with
    | ret u =>
      obtain ⟨v, H', I3, rv, ev, q3⟩ := I2.after hq'
      subst ev
      exact ⟨rv, ⟨V.ref (s1.heap.objs.size + 1), H', I3, rfl, q3⟩⟩
    | next => exact False.elim hq'
    | brk => exact False.elim hq'
    | cont => exact False.elim hq'
end
end BX

set_option Elab.async false
set_option linter.all false
set_option maxRecDepth 100000
set_option maxHeartbeats 4000000
namespace Rs
open PySem PySem.Spec PyProof.Rows L2 BX EXB Co Ru
open Fr (Bd)
theorem upd_swap {H : Hp} {a dx : Addr} {A B A' : HO} (h : dx ≠ a) : upd (upd (upd H dx A) a B) dx A' = upd (upd H dx A') a B := by
  funext b
  by_cases h1 : b = dx
  · rw [h1, upd_same, upd_ne h, upd_same]
  · rw [upd_ne h1]
    by_cases h2 : b = a
    · rw [h2, upd_same, upd_same]
    · rw [upd_ne h2, upd_ne h2, upd_ne h1, upd_ne h1]
abbrev Rsp := Option (List V)
def Rv (H : Hp) (v : V) : Rsp → Prop
  | none => v = .non
  | some ws => ∃ p, v = .ref p ∧ H p = some (.lst ws)
def Ret (Q : VK) (H : Hp) (r : Rsp) : Prop := ∀ v H', Same H H' → Rv H' v r → Q v H'
theorem Rv.same {H H' : Hp} {v : V} {r : Rsp} (h : Rv H v r) (s : Same H H') : Rv H' v r := by
  cases r with
  | none => exact h
  | some ws => obtain ⟨p, e1, e2⟩ := h; exact ⟨p, e1, s _ _ e2⟩
theorem tYes_of {σ : L2.St} {H : Hp} {A B : Hp → Prop} (h : A H) : tYes σ H (fun b H3 => if b = true then A H3 else B H3) := by
  show (if true = true then A H else B H)
  rw [if_pos rfl]
  exact h
def dV : V → PyData
  | .str s => .str s
  | .int i => .int i
  | .bl b => .bool b
  | _ => .none
def datR : Rsp → PyData
  | none => .none
  | some ws => .list (ws.map dV)
def Flat (v : V) : Prop := ((∃ s, v = .str s) ∨ (∃ i, v = .int i) ∨ (∃ b, v = .bl b) ∨ v = .non) ∧ (dV v).canLay0 = true
def Okr : Rsp → Prop
  | none => True
  | some ws => ∀ v ∈ ws, Flat v
theorem flat_dp {K : PySem.W.Frag} {H : Hp} {v : V} (h : Flat v) : Dp K H v (dV v) := by
  rcases h.1 with ⟨s, rfl⟩ | ⟨i, rfl⟩ | ⟨b, rfl⟩ | rfl
  · exact .str _
  · exact .int _
  · exact .bl _
  · exact .non
theorem flats_dp {K : PySem.W.Frag} {H : Hp} : ∀ ws : List V, (∀ v ∈ ws, Flat v) → DpAll K H ws (ws.map dV)
  | [], _ => .nil
  | v :: ws, h => .cons (flat_dp (h v (List.mem_cons_self ..))) (flats_dp ws fun x hx => h x (List.mem_cons_of_mem _ hx))
theorem flats_lay : ∀ ws : List V, (∀ v ∈ ws, Flat v) → PyData.canLayAll0 (ws.map dV) = true
  | [], _ => rfl
  | v :: ws, h => by
    show (PyData.canLay0 (dV v) && PyData.canLayAll0 (ws.map dV)) = true
    rw [(h v (List.mem_cons_self ..)).2, flats_lay ws fun x hx => h x (List.mem_cons_of_mem _ hx)]
    rfl
theorem flats_dep : ∀ ws : List V, PyData.depthAll (ws.map dV) ≤ 1
  | [] => by decide
  | v :: ws => by
    have h := flats_dep ws
    show max (PyData.depth (dV v)) (PyData.depthAll (ws.map dV)) ≤ 1
    have : PyData.depth (dV v) = 0 := by cases v <;> rfl
    omega
theorem Rv.dp {K : PySem.W.Frag} {H : Hp} {v : V} {r : Rsp} (ok : Okr r) (h : Rv H v r) : Dp K H v (datR r) := by
  cases r with
  | none => cases (show v = .non from h); exact .non
  | some ws =>
    obtain ⟨p, rfl, hp⟩ := h
    exact .lst (SqL.of hp) (flats_dp ws ok)
theorem datR_lay {r : Rsp} (ok : Okr r) : (datR r).canLay0 = true := by
  cases r with
  | none => rfl
  | some ws => exact flats_lay ws ok
theorem datR_sh {r : Rsp} (ok : Okr r) : SeqAt.shaped (datR r) = true := by
  unfold SeqAt.shaped
  rw [datR_lay ok, Bool.true_and]
  refine decide_eq_true ?_
  cases r with
  | none => decide
  | some ws =>
    have := flats_dep ws
    show PyData.depthAll (ws.map dV) + 1 ≤ 64
    omega
theorem fl_str {s : Str} (h : (PyData.str s).canLay0 = true) : Flat (.str s) := ⟨.inl ⟨s, rfl⟩, h⟩
theorem fl_int (i : Int) : Flat (.int i) := ⟨.inr (.inl ⟨i, rfl⟩), rfl⟩
theorem fl_bl (b : Bool) : Flat (.bl b) := ⟨.inr (.inr (.inl ⟨b, rfl⟩)), rfl⟩
theorem fl_non : Flat .non := ⟨.inr (.inr (.inr rfl)), rfl⟩
theorem okr3 {a b c : V} (ha : Flat a) (hb : Flat b) (hc : Flat c) : Okr (some [a, b, c]) := by
  intro v hv
  rcases List.mem_cons.mp hv with rfl | hv
  · exact ha
  rcases List.mem_cons.mp hv with rfl | hv
  · exact hb
  rw [List.mem_singleton.mp hv]
  exact hc
theorem cut_len {xs : List V} {n : Nat} {lo hi : Option Int} (h : xs.length ≤ n) : (cutV xs lo hi).length ≤ n := Nat.le_trans (cutV_length xs lo hi) h
/-- the law's shares: of m words, small -/
def spShares (K : PySem.W.Frag) : Sp := fun vs H Q _ => ∃ (l : Addr) (z : Int) (m : Nat), vs = [.ref l, .int (m : Int)] ∧ H l = some (.lst [.int z]) ∧ 1 ≤ m ∧ m ≤ 30 ∧
  ∀ D cs qs z' H', SameB l H H' → H' l = some (.lst [.int z']) → H D = none → D ≠ l → H' D = some (.lst cs) → FrN K H' 8 cs qs → RowOk m qs → Q (.ref D) H'
def spRowsL (K : PySem.W.Frag) : Sp := fun vs H Q _ => ∃ (l : Addr) (z : Int) (ww up : Nat), vs = [.ref l, .int (ww : Int), .int (up : Int)] ∧ H l = some (.lst [.int z]) ∧ 1 ≤ ww ∧ ww ≤ 5 ∧ 1 ≤ up ∧ up ≤ 30 ∧
  ∀ D rs rss m z' H', New K H H' l D rs rss 8 → D ≠ l → H' l = some (.lst [.int z']) → Good rss m → rss.length = ww → m ≤ up → Q (.ref D) H'
/-- xs[i] by values, i from 0 on -/
def rGet0 (K : PySem.W.Frag) : V → V → Hp → VK → Prop := fun o i H Q => ∃ (p : Addr) (xs : List V) (j : Nat) (v : V), o = .ref p ∧ i = .int (j : Int) ∧ SqL K H p xs ∧ xs[j]? = some v ∧ Q v H
theorem pget_list {X : Cx} : PGet X (rGet0 X.K) := by
  intro pins s σ H o i ov iv Q I ro ri h
  obtain ⟨p, xs, j, z, rfl, rfl, hq, he, q⟩ := h
  cases ro
  obtain ⟨t, rfl⟩ := ri
  obtain ⟨its, r, pl, hz⟩ := I.list hq
  obtain ⟨w, ew, rw'⟩ := r.get he
  have hj : j < xs.length := (List.getElem?_eq_some_iff.mp he).1
  have hn := line63
  exact wpAny_getItem_list pl.isList (by omega) (by omega) (by rw [Int.toNat_natCast]; simpa using ew) ⟨z, H, I, rw', q⟩
def shq (ns : List Int) : List Rat := ns.map fun x => Rat.divInt x ns.sum
theorem sum_divInt (S : Int) : ∀ ns : List Int, (ns.map fun x => Rat.divInt x S).sum = Rat.divInt ns.sum S
  | [] => by rw [List.map_nil, List.sum_nil, List.sum_nil, Rat.zero_divInt]
  | x :: ns => by
    rw [List.map_cons, List.sum_cons, List.sum_cons, sum_divInt S ns]
    by_cases h : S = 0
    · subst h
      rw [Rat.divInt_zero, Rat.divInt_zero, Rat.divInt_zero, Rat.add_zero]
    · rw [Rat.divInt_add_divInt _ _ h h, ← Int.add_mul, Rat.divInt_mul_right h]
theorem divInt_nn {x S : Int} (hx : 0 ≤ x) (hS : 0 < S) : 0 ≤ Rat.divInt x S := by
  rw [← Rat.num_nonneg, ← Fr.low_num hS]
  exact Int.fdiv_nonneg hx (by omega)
theorem divInt_one {S : Int} (hS : 0 < S) : Rat.divInt S S = 1 := by
  have h := Rat.divInt_mul_right (n := 1) (d := 1) (a := S) (by omega)
  rw [Int.one_mul] at h
  rw [h]
  rfl
theorem shq_ok {ns : List Int} {m : Nat} (hl : ns.length = m) (h0 : ∀ x ∈ ns, 0 ≤ x) (hS : 0 < ns.sum) : RowOk m (shq ns) := by
  refine ⟨by unfold shq; rw [List.length_map, hl], fun q hq => ?_, ?_⟩
  · obtain ⟨x, hx, rfl⟩ := List.mem_map.mp hq
    exact divInt_nn (h0 x hx) hS
  · unfold shq
    rw [sum_divInt, divInt_one hS]
theorem sum_le : ∀ (ns : List Int) (b : Int), (∀ x ∈ ns, x ≤ b) → ns.sum ≤ b * ns.length
  | [], b, _ => by simp
  | x :: ns, b, h => by
    have h1 := sum_le ns b fun y hy => h y (List.mem_cons_of_mem _ hy)
    have h2 := h x (List.mem_cons_self ..)
    rw [List.sum_cons, List.length_cons, Int.natCast_succ, Int.mul_add]
    omega
theorem sum_nn : ∀ (ns : List Int), (∀ x ∈ ns, 0 ≤ x) → 0 ≤ ns.sum
  | [], _ => by simp
  | x :: ns, h => by
    have h1 := sum_nn ns fun y hy => h y (List.mem_cons_of_mem _ hy)
    have h2 := h x (List.mem_cons_self ..)
    rw [List.sum_cons]
    omega
theorem set_sumI : ∀ (l : List Int) (g : Nat) (x : Int), l[g]? = some x → (l.set g (x + 1)).sum = l.sum + 1
  | [], g, x, h => by simp at h
  | y :: l, 0, x, h => by
    have e : y = x := Option.some.inj h
    subst e
    show ((y + 1) :: l).sum = _
    rw [List.sum_cons, List.sum_cons]
    omega
  | y :: l, g + 1, x, h => by
    show (y :: l.set g (x + 1)).sum = _
    rw [List.sum_cons, List.sum_cons, set_sumI l g x h]
    omega
theorem tab_at {d : Int} (h0 : 0 ≤ d) (h6 : d < 6) : ∃ v : Int, atI [V.int 0, V.int 1, V.int 1, V.int 2, V.int 3, V.int 5] d = some (V.int v) ∧ 0 ≤ v ∧ v ≤ 5 := by
  have : d = 0 ∨ d = 1 ∨ d = 2 ∨ d = 3 ∨ d = 4 ∨ d = 5 := by omega
  rcases this with rfl | rfl | rfl | rfl | rfl | rfl
  · exact ⟨_, atI_nat (j := 0) rfl, by decide, by decide⟩
  · exact ⟨_, atI_nat (j := 1) rfl, by decide, by decide⟩
  · exact ⟨_, atI_nat (j := 2) rfl, by decide, by decide⟩
  · exact ⟨_, atI_nat (j := 3) rfl, by decide, by decide⟩
  · exact ⟨_, atI_nat (j := 4) rfl, by decide, by decide⟩
  · exact ⟨_, atI_nat (j := 5) rfl, by decide, by decide⟩
theorem ne_num {K : PySem.W.Frag} {H : Hp} {l : Addr} {z : Int} {a : Addr} {rs : List Addr} {rss : List (List Rat)} {n : Nat} (hl : H l = some (.lst [.int z])) (h : RwL K H a rs rss n) : a ≠ l := fun e => by
  have := h.1
  rw [e, hl] at this
  cases rs with
  | nil => cases this
  | cons r rs => cases this
theorem nr_num {K : PySem.W.Frag} {H : Hp} {l : Addr} {z : Int} {rs : List Addr} {rss : List (List Rat)} {n : Nat} (hl : H l = some (.lst [.int z])) (h : RowsAt K H n rs rss) : l ∉ rs := fun hm => by
  obtain ⟨j, hj, e⟩ := List.getElem_of_mem hm
  obtain ⟨cs, qs, e1, e2, e3⟩ := h.2 j l (by rw [List.getElem?_eq_getElem hj, e])
  rw [hl] at e2
  cases e2
  obtain ⟨a, q, _, e, _⟩ := e3.at_ 0 _ rfl
  cases e
theorem RwL.keepB {K : PySem.W.Frag} {H H' : Hp} {l : Addr} {z : Int} {a : Addr} {rs : List Addr} {rss : List (List Rat)} {n : Nat} (h : RwL K H a rs rss n) (hl : H l = some (.lst [.int z])) (s : SameB l H H') : RwL K H' a rs rss n :=
  ⟨s _ _ (ne_num hl h) h.1, h.2.keep s hl (nr_num hl h.2)⟩
theorem IsRule.keepB {K : PySem.W.Frag} {H H' : Hp} {C x l : Addr} {z : Int} {rss : List (List Rat)} {n : Nat} (h : IsRule K H C x rss n) (hl : H l = some (.lst [.int z])) (s : SameB l H H') : IsRule K H' C x rss n := by
  obtain ⟨dx, ra, rs, e1, e2⟩ := h
  exact ⟨dx, ra, rs, s _ _ (ne_of e1 hl (by intro w; cases w)) e1, RwL.keepB e2 hl s⟩
theorem New.pre {K : PySem.W.Frag} {H00 H0 H : Hp} {ex D : Addr} {rs : List Addr} {rss : List (List Rat)} {n : Nat} (h : New K H0 H ex D rs rss n) (s : SameB ex H00 H0) (hD : D ≠ ex) : New K H00 H ex D rs rss n := by
  refine ⟨h.at_, h.nd, h.ne, fun x hx => ?_, ?_, h.nx, s.trans h.keep, h.rows⟩
  · cases e : H00 x with
    | none => rfl
    | some o =>
      have := s x o (fun z => h.nx (by rw [← z]; exact hx)) e
      rw [h.fresh x hx] at this
      cases this
  · cases e : H00 D with
    | none => rfl
    | some o =>
      have := s D o hD e
      rw [h.fD] at this
      cases this
theorem RwL.ins {K : PySem.W.Frag} {H : Hp} {a x C dx : Addr} {fs gs : List (Str × V)} {rs : List Addr} {rss : List (List Rat)} {n : Nat} (h : RwL K H a rs rss n) (hx : H x = some (.ins C dx fs)) : RwL K (upd H x (.ins C dx gs)) a rs rss n := by
  have st : ∀ b xs, SqT K H b xs → SqT K (upd H x (.ins C dx gs)) b xs := fun b xs z => by
    rcases z with (z | ⟨o, z⟩) | z
    · exact .inl (.inl (by rw [upd_ne (ne_of z hx (by intro w; cases w))]; exact z))
    · exact .inl (.inr ⟨o, by rw [upd_ne (ne_of z hx (by intro w; cases w))]; exact z⟩)
    · exact .inr z
  refine ⟨by rw [upd_ne (ne_of h.1 hx (by intro w; cases w))]; exact h.1, h.2.1, fun j r e => ?_⟩
  obtain ⟨cs, qs, e1, e2, e3⟩ := h.2.2 j r e
  exact ⟨cs, qs, e1, by rw [upd_ne (ne_of e2 hx (by intro w; cases w))]; exact e2, e3.keep st⟩
/-- len(o), o an instance with its own __len__ -/
def rLenO (C : Addr) (sp : Sp) : List V → Hp → VK → Prop := fun xs H Q => ∃ (x dx : Addr) (fs : List (Str × V)), xs = [.ref x] ∧ H x = some (.ins C dx fs) ∧ sp [.ref x] H (fun v H' => ∃ n : Nat, v = .int (n : Int) ∧ n < 1000 ∧ Q (.int (n : Int)) H') (fun _ _ _ => False)
theorem call_lenO {X : Cx} {C f : Addr} {fd : FuncData} {k : Nat} {sp : Sp} (hs : PySem.W.findIn X.K (.ref C) "__len__" = some (some (.ref f))) (hf : PySem.W.isFn X.K (.ref f) = true) (F : FnOk X.prog X.w X.K X.mg X.base CX0 k f fd ["self"] sp) (hr : Room (k + 1) X.A) (hb : Binds X.K fd ["self"] []) : CallR X (.builtin "len") (rLenO C sp) := by
  intro pins s σ H xs us Q I r h
  obtain ⟨x, dx, fs, rfl, hx, hq⟩ := h
  cases r with
  | @cons _ u _ _ ru rn =>
    cases rn
    cases (show u = Value.ref x from ru)
    obtain ⟨mA, J, _⟩ := ins_get I.hok hx
    obtain ⟨od, J, _⟩ := J.look
    obtain ⟨m, hF⟩ := I.fr
    refine PySem.W.len_K hF I.ok.mod.kin J hs hf ?_
    have e0 : Env0 X.prog X.w X.K X.mg X.base X.A.in1 X.stack s H := by
      have e := I.env0
      exact ⟨e.frames, e.mod, e.bs, e.bsz, e.funs, e.frf, e.hok, e.bare⟩
    have r2 : Vals [V.ref x] [Value.ref x] := .cons rfl .nil
    refine wpAny_call (codeAny_mono (F.run X.A.in1 X.stack s H ⟨[.ref x], []⟩ [.ref x] [.ref x] _ (fun _ _ _ => False) hr.in1 e0 (by
      have := hb s [.ref x] I.kIn rfl
      simpa using this) r2 hq) fun r s' hq' => ?_)
    cases r with
    | error e => exact False.elim hq'
    | ok fl =>
      cases fl with
      | ret u =>
        obtain ⟨z, H', I', rz, n, ez, hn, q⟩ := I.after hq'
        subst ez
        obtain ⟨t, rfl⟩ := (show ∃ t, u = Value.int (n : Int) t from rz)
        exact ⟨⟨by omega, by omega⟩, .int (n : Int), H', I'.tok _, ⟨_, rfl⟩, q⟩
      | next => exact False.elim hq'
      | brk => exact False.elim hq'
      | cont => exact False.elim hq'
theorem sum_snoc' {qs : List Rat} {i : Nat} {q : Rat} (h : qs[i]? = some q) : (qs.take (i + 1)).sum = (qs.take i).sum + q := Co.sum_snoc h
def spTotal (K : PySem.W.Frag) : Sp := fun vs H Q _ => ∃ (l : Addr) (cs : List V) (qs : List Rat) (n : Nat), vs = [.ref l, .non] ∧ SqL K H l cs ∧ FrN K H n cs qs ∧ (n + 1) * qs.length + 1 ≤ 8700 ∧ ∀ r H', Same H H' → SqT K H' r (rp qs.sum) → Q (.ref r) H'
def spCopied (K : PySem.W.Frag) : Sp := fun vs H Q _ => ∃ (a : Addr) (rs : List Addr) (rss : List (List Rat)) (n : Nat), vs = [.ref a] ∧ RwL K H a rs rss n ∧ rss.length ≤ 100 ∧ ∀ D rs' H', Fresh K H H' D rs' rss n → Q (.ref D) H'
theorem eqv_dR (a b : Rat) : PyData.eqv (dR a) (dR b) = decide (a = b) := by
  show PyData.eqv (.tuple [.int a.num, .int (a.den : Int)]) (.tuple [.int b.num, .int (b.den : Int)]) = _
  simp only [PyData.eqv, PyData.eqvAll, Bool.and_true]
  by_cases h : a = b
  · subst h
    simp
  · rw [decide_eq_false h, Bool.and_eq_false_iff]
    by_cases h1 : a.num = b.num
    · refine .inr ?_
      have h2 : a.den ≠ b.den := fun e => h (Rat.ext h1 e)
      simp only [beq_eq_false_iff_ne, ne_eq]
      omega
    · refine .inl ?_
      simp only [beq_eq_false_iff_ne, ne_eq]
      exact h1
def rLenS (K : PySem.W.Frag) : List V → Hp → VK → Prop := fun xs H Q => ∃ p ys, xs = [V.ref p] ∧ (SqL K H p ys ∨ SqT K H p ys) ∧ Q (.int ys.length) H
def rStrI : List V → Hp → VK → Prop := fun xs H Q => ∃ i : Int, xs = [V.int i] ∧ i.natAbs.log2 < 1920 ∧ Q (.str (toString i)) H
def rInt1 : List V → Hp → VK → Prop := fun xs H Q => (∃ i, xs = [V.int i] ∧ Q (.int i) H) ∨ ∃ k, xs = [V.bl k] ∧ Q (.int (if k then 1 else 0)) H
def rTupOf (K : PySem.W.Frag) : List V → Hp → VK → Prop := fun xs H Q => ∃ p ys, xs = [V.ref p] ∧ ((SqL K H p ys ∧ ∀ l, H l = none → Q (.ref l) (upd H l (.tup ys))) ∨ (SqT K H p ys ∧ Q (.ref p) H))
/-- a def that may raise, where it does not -/
theorem quiet {P : Program} {w : World} {K : PySem.W.Frag} {mg : Str → Option Value} {base : Heap} {k : Nat} {f : Addr} {fd : FuncData} {ps : List Str} {sp : Sp} (F : FnOk P w K mg base (L2.CX P w) k f fd ps sp) : FnOk P w K mg base CX0 k f fd ps (fun vs H Q _ => sp vs H Q E0) := by
  refine ⟨fun vs H Q E h => F.len vs H Q E0 h, fun A outer s H args us vs Q E hr e b r h => codeAny_mono (F.run A outer s H args us vs Q E0 hr e b r h) fun r s' hq => ?_⟩
  cases r with
  | error e =>
    obtain ⟨_, _, _, _, _, _, _, _, _, _, _, _, z⟩ := hq
    exact z.elim
  | ok fl =>
    cases fl <;> exact hq
end Rs

set_option Elab.async false
set_option linter.all false
set_option maxRecDepth 100000
set_option maxHeartbeats 4000000
namespace Dz
open PySem PySem.Spec PyProof.Rows L2 BX EXB Co Ru
open Fr (Bd)
/-! ### things of any kind, none of whose lists stands where ex says -/
mutual
inductive Dz (K : PySem.W.Frag) (H : Hp) (ex : Addr → Prop) : V → PyData → Prop
  | non : Dz K H ex .non .none
  | bl (b : Bool) : Dz K H ex (.bl b) (.bool b)
  | int (i : Int) : Dz K H ex (.int i) (.int i)
  | str (x : Str) : Dz K H ex (.str x) (.str x)
  | lst {a : Addr} {xs : List V} {ds : List PyData} (h : H a = some (.lst xs)) (hn : ¬ ex a) (t : DzA K H ex xs ds) : Dz K H ex (.ref a) (.list ds)
  | tup {a : Addr} {xs : List V} {ds : List PyData} (h : SqT K H a xs) (t : DzA K H ex xs ds) : Dz K H ex (.ref a) (.tuple ds)
  | dct {a : Addr} (h : H a = some (.dK [])) (hn : ¬ ex a) : Dz K H ex (.ref a) (.dict [])
inductive DzA (K : PySem.W.Frag) (H : Hp) (ex : Addr → Prop) : List V → List PyData → Prop
  | nil : DzA K H ex [] []
  | cons {v : V} {vs : List V} {d : PyData} {ds : List PyData} (h : Dz K H ex v d) (t : DzA K H ex vs ds) : DzA K H ex (v :: vs) (d :: ds)
end
/-- what changes leaves such things -/
structure Ch (K : PySem.W.Frag) (ex : Addr → Prop) (H H' : Hp) : Prop where
  tp : ∀ a xs, SqT K H a xs → SqT K H' a xs
  ob : ∀ b o, ¬ ex b → H b = some o → H' b = some o
section
variable {K : PySem.W.Frag} {ex ex' : Addr → Prop} {H H' H2 : Hp}
theorem Ch.of (s : Same H H') : Ch K ex H H' := ⟨fun _ _ => seqT s, fun b o _ e => s b o e⟩
theorem Ch.trans (a : Ch K ex H H') (b : Ch K ex H' H2) : Ch K ex H H2 := ⟨fun x y h => b.tp x y (a.tp x y h), fun x y n h => b.ob x y n (a.ob x y n h)⟩
theorem Ch.put {p : Addr} {ys zs : List V} (hp : H p = some (.lst ys)) (h : ex p) : Ch K ex H (upd H p (.lst zs)) := ⟨SameB.tup SameB.upd hp, fun b o n e => by rw [upd_ne (fun z => n (by rw [z]; exact h))]; exact e⟩
theorem Ch.but {l : Addr} {ys : List V} (hl : H l = some (.lst ys)) (s : SameB l H H') (h : ex l) : Ch K ex H H' := ⟨s.tup hl, fun b o n e => s b o (fun z => n (by rw [z]; exact h)) e⟩
mutual
theorem Dz.ch (c : Ch K ex H H') : ∀ (d : PyData) (v : V), Dz K H ex v d → Dz K H' ex v d
  | .none, _, h => by cases h; exact .non
  | .bool b, _, h => by cases h; exact .bl _
  | .int i, _, h => by cases h; exact .int _
  | .str x, _, h => by cases h; exact .str _
  | .list ds, _, h => by
    cases h with
    | lst h hn t => exact .lst (c.ob _ _ hn h) hn (DzA.ch c ds _ t)
  | .tuple ds, _, h => by
    cases h with
    | tup h t => exact .tup (c.tp _ _ h) (DzA.ch c ds _ t)
  | .dict ds, _, h => by
    cases h with
    | dct h hn => exact .dct (c.ob _ _ hn h) hn
theorem DzA.ch (c : Ch K ex H H') : ∀ (ds : List PyData) (vs : List V), DzA K H ex vs ds → DzA K H' ex vs ds
  | [], _, h => by cases h; exact .nil
  | d :: ds, _, h => by
    cases h with
    | cons h t => exact .cons (Dz.ch c d _ h) (DzA.ch c ds _ t)
end
mutual
theorem Dz.sub (s : ∀ a, ex' a → ex a) : ∀ (d : PyData) (v : V), Dz K H ex v d → Dz K H ex' v d
  | .none, _, h => by cases h; exact .non
  | .bool b, _, h => by cases h; exact .bl _
  | .int i, _, h => by cases h; exact .int _
  | .str x, _, h => by cases h; exact .str _
  | .list ds, _, h => by
    cases h with
    | lst h hn t => exact .lst h (fun z => hn (s _ z)) (DzA.sub s ds _ t)
  | .tuple ds, _, h => by
    cases h with
    | tup h t => exact .tup h (DzA.sub s ds _ t)
  | .dict ds, _, h => by
    cases h with
    | dct h hn => exact .dct h fun z => hn (s _ z)
theorem DzA.sub (s : ∀ a, ex' a → ex a) : ∀ (ds : List PyData) (vs : List V), DzA K H ex vs ds → DzA K H ex' vs ds
  | [], _, h => by cases h; exact .nil
  | d :: ds, _, h => by
    cases h with
    | cons h t => exact .cons (Dz.sub s d _ h) (DzA.sub s ds _ t)
end
mutual
theorem Dz.dp : ∀ (d : PyData) (v : V), Dz K H ex v d → d.hasDict = false → Dp K H v d
  | .none, _, h, _ => by cases h; exact .non
  | .bool b, _, h, _ => by cases h; exact .bl _
  | .int i, _, h, _ => by cases h; exact .int _
  | .str x, _, h, _ => by cases h; exact .str _
  | .list ds, _, h, e => by
    cases h with
    | lst h hn t => exact .lst (SqL.of h) (DzA.dp ds _ t (by simpa only [PyData.hasDict] using e))
  | .tuple ds, _, h, e => by
    cases h with
    | tup h t => exact .tup h (DzA.dp ds _ t (by simpa only [PyData.hasDict] using e))
  | .dict ds, _, h, e => by simp only [PyData.hasDict] at e; cases e
theorem DzA.dp : ∀ (ds : List PyData) (vs : List V), DzA K H ex vs ds → PyData.hasDictAll ds = false → DpAll K H vs ds
  | [], _, h, _ => by cases h; exact .nil
  | d :: ds, _, h, e => by
    cases h with
    | cons h t =>
      simp only [PyData.hasDictAll, Bool.or_eq_false_iff] at e
      exact .cons (Dz.dp d _ h e.1) (DzA.dp ds _ t e.2)
end
theorem Dz.same {d : PyData} {v : V} (h : Dz K H ex v d) (s : Same H H') : Dz K H' ex v d := Dz.ch (.of s) d v h
theorem DzA.same {d : List PyData} {v : List V} (h : DzA K H ex v d) (s : Same H H') : DzA K H' ex v d := DzA.ch (.of s) d v h
theorem Dz.cc {d : PyData} {v : V} (h : Dz K H ex v d) (c : Ch K ex H H') : Dz K H' ex v d := Dz.ch c d v h
theorem DzA.cc {d : List PyData} {v : List V} (h : DzA K H ex v d) (c : Ch K ex H H') : DzA K H' ex v d := DzA.ch c d v h
variable {vs us : List V} {ds es : List PyData}
theorem DzA.len (h : DzA K H ex vs ds) : vs.length = ds.length := by
  induction ds generalizing vs with
  | nil => cases h; rfl
  | cons d ds ih => cases h with | cons h t => rw [List.length_cons, List.length_cons, ih t]
theorem DzA.at_ (h : DzA K H ex vs ds) : ∀ {i : Nat} {v : V}, vs[i]? = some v → ∃ d, ds[i]? = some d ∧ Dz K H ex v d := by
  induction ds generalizing vs with
  | nil => cases h; intro i v e; simp at e
  | cons d ds ih =>
    cases h with
    | cons h t =>
      intro i v e
      cases i with
      | zero => cases (Option.some.inj e); exact ⟨_, rfl, h⟩
      | succ i => exact ih t e
theorem DzA.app (h : DzA K H ex vs ds) (g : DzA K H ex us es) : DzA K H ex (vs ++ us) (ds ++ es) := by
  induction ds generalizing vs with
  | nil => cases h; exact g
  | cons d ds ih => cases h with | cons h t => exact .cons h (ih t)
theorem DzA.drop (h : DzA K H ex vs ds) (n : Nat) : DzA K H ex (vs.drop n) (ds.drop n) := by
  induction ds generalizing vs n with
  | nil => cases h; rw [List.drop_nil, List.drop_nil]; exact .nil
  | cons d ds ih =>
    cases h with
    | cons h t =>
      cases n with
      | zero => exact .cons h t
      | succ n => exact ih t n
theorem DzA.take (h : DzA K H ex vs ds) (n : Nat) : DzA K H ex (vs.take n) (ds.take n) := by
  induction ds generalizing vs n with
  | nil => cases h; rw [List.take_nil, List.take_nil]; exact .nil
  | cons d ds ih =>
    cases h with
    | cons h t =>
      cases n with
      | zero => exact .nil
      | succ n => exact .cons h (ih t n)
theorem DzA.set {v : V} {d : PyData} (h : DzA K H ex vs ds) (j : Nat) (g : Dz K H ex v d) : DzA K H ex (vs.set j v) (ds.set j d) := by
  induction ds generalizing vs j with
  | nil => cases h; exact .nil
  | cons d ds ih =>
    cases h with
    | cons h t =>
      cases j with
      | zero => exact .cons g t
      | succ j => exact .cons h (ih t j)
theorem DzA.rep (h : DzA K H ex vs ds) : ∀ k : Nat, DzA K H ex (List.replicate k vs).flatten (List.replicate k ds).flatten
  | 0 => .nil
  | k + 1 => by
    rw [List.replicate_succ, List.replicate_succ, List.flatten_cons, List.flatten_cons]
    exact h.app (DzA.rep h k)
theorem DzA.of_mem : ∀ {vs : List V}, (∀ v ∈ vs, ∃ d, Dz K H ex v d) → ∃ ds, DzA K H ex vs ds
  | [], _ => ⟨[], .nil⟩
  | v :: vs, h => by
    obtain ⟨d, c⟩ := h v (List.mem_cons_self ..)
    obtain ⟨ds, t⟩ := DzA.of_mem fun x hx => h x (List.mem_cons_of_mem _ hx)
    exact ⟨d :: ds, .cons c t⟩
/-! ### kinds -/
def tyD : PyData → String
  | .none => "NoneType"
  | .bool _ => "bool"
  | .int _ => "int"
  | .str _ => "str"
  | .list _ => "list"
  | .tuple _ => "tuple"
  | .dict _ => "dict"
theorem Dz.ty {v : V} {d : PyData} (h : Dz K H ex v d) : TyX K H v (.type (tyD d)) := by
  cases h with
  | non => exact .base .non
  | bl b => exact .base (.bl _)
  | int i => exact .base (.int _)
  | str x => exact .base (.str _)
  | lst h hn t => exact .base (.lst h)
  | tup h t => exact tyT h
  | dct h hn => exact .base (.dK h)
def isL : PyData → Bool
  | .list _ => true
  | _ => false
def isT : PyData → Bool
  | .tuple _ => true
  | _ => false
def isI : PyData → Bool
  | .int _ => true
  | _ => false
def isIB : PyData → Bool
  | .int _ => true
  | .bool _ => true
  | _ => false
def isB : PyData → Bool
  | .bool _ => true
  | _ => false
def isS : PyData → Bool
  | .str _ => true
  | _ => false
theorem kit_isL (d : PyData) : kitB (tyD d) "list" = some (isL d) := by
  cases d with
  | none => show kitB "NoneType" "list" = some false; decide +kernel
  | bool x => show kitB "bool" "list" = some false; decide +kernel
  | int x => show kitB "int" "list" = some false; decide +kernel
  | str x => show kitB "str" "list" = some false; decide +kernel
  | list x => show kitB "list" "list" = some true; decide +kernel
  | tuple x => show kitB "tuple" "list" = some false; decide +kernel
  | dict x => show kitB "dict" "list" = some false; decide +kernel
theorem kit_isT (d : PyData) : kitB (tyD d) "tuple" = some (isT d) := by
  cases d with
  | none => show kitB "NoneType" "tuple" = some false; decide +kernel
  | bool x => show kitB "bool" "tuple" = some false; decide +kernel
  | int x => show kitB "int" "tuple" = some false; decide +kernel
  | str x => show kitB "str" "tuple" = some false; decide +kernel
  | list x => show kitB "list" "tuple" = some false; decide +kernel
  | tuple x => show kitB "tuple" "tuple" = some true; decide +kernel
  | dict x => show kitB "dict" "tuple" = some false; decide +kernel
theorem kit_isIB (d : PyData) : kitB (tyD d) "int" = some (isIB d) := by
  cases d with
  | none => show kitB "NoneType" "int" = some false; decide +kernel
  | bool x => show kitB "bool" "int" = some true; decide +kernel
  | int x => show kitB "int" "int" = some true; decide +kernel
  | str x => show kitB "str" "int" = some false; decide +kernel
  | list x => show kitB "list" "int" = some false; decide +kernel
  | tuple x => show kitB "tuple" "int" = some false; decide +kernel
  | dict x => show kitB "dict" "int" = some false; decide +kernel
theorem kit_isB (d : PyData) : kitB (tyD d) "bool" = some (isB d) := by
  cases d with
  | none => show kitB "NoneType" "bool" = some false; decide +kernel
  | bool x => show kitB "bool" "bool" = some true; decide +kernel
  | int x => show kitB "int" "bool" = some false; decide +kernel
  | str x => show kitB "str" "bool" = some false; decide +kernel
  | list x => show kitB "list" "bool" = some false; decide +kernel
  | tuple x => show kitB "tuple" "bool" = some false; decide +kernel
  | dict x => show kitB "dict" "bool" = some false; decide +kernel
theorem kit_isS (d : PyData) : kitB (tyD d) "str" = some (isS d) := by
  cases d with
  | none => show kitB "NoneType" "str" = some false; decide +kernel
  | bool x => show kitB "bool" "str" = some false; decide +kernel
  | int x => show kitB "int" "str" = some false; decide +kernel
  | str x => show kitB "str" "str" = some true; decide +kernel
  | list x => show kitB "list" "str" = some false; decide +kernel
  | tuple x => show kitB "tuple" "str" = some false; decide +kernel
  | dict x => show kitB "dict" "str" = some false; decide +kernel
/-- how many things a list has -/
def lenD : PyData → Option Nat
  | .list ds => some ds.length
  | _ => none
def lenOk : Option Nat → Int → Int → Bool
  | some n, lo, hi => decide (lo ≤ (n : Int)) && decide ((n : Int) ≤ hi)
  | none, _, _ => false
/-- the fraction that a thing is -/
def ratD : PyData → Option Rat
  | .tuple [.int t, .int b] => if 1 ≤ b ∧ Int.gcd t b = 1 then some (Rat.divInt t b) else none
  | _ => none
theorem ratD_num {t b : Int} (h1 : 1 ≤ b) (hg : Int.gcd t b = 1) : (Rat.divInt t b).num = t ∧ ((Rat.divInt t b).den : Int) = b := by
  have e1 := Fr.low_num (t := t) (b := b) (by omega)
  have e2 := Fr.low_den (t := t) (b := b) (by omega)
  rw [hg] at e1 e2
  rw [← e1, ← e2]
  exact ⟨Int.fdiv_one _, Int.fdiv_one _⟩
theorem Dz.rat {v : V} {d : PyData} {q : Rat} (h : Dz K H ex v d) (e : ratD d = some q) : ∃ a, v = .ref a ∧ SqT K H a (rp q) ∧ d = dR q := by
  unfold ratD at e
  split at e
  · rename_i t b
    split at e
    · rename_i c
      obtain ⟨e1, e2⟩ := ratD_num c.1 c.2
      cases e
      cases h with
      | @tup a xs _ h ts =>
        cases ts with
        | cons h1 ts =>
          cases ts with
          | cons h2 ts =>
            cases ts
            cases h1
            cases h2
            refine ⟨a, rfl, ?_, ?_⟩
            · unfold rp
              rw [e1, e2]
              exact h
            · unfold dR
              rw [e1, e2]
    · cases e
  · cases e
theorem ratD_dR (q : Rat) : ratD (dR q) = some q := by
  show (if 1 ≤ (q.den : Int) ∧ Int.gcd q.num q.den = 1 then some (Rat.divInt q.num q.den) else none) = some q
  have := Fr.den_pos q
  rw [if_pos ⟨by omega, Fr.ratio_gcd q⟩, Rat.num_divInt_den]
theorem dz_dR {a : Addr} {q : Rat} (h : SqT K H a (rp q)) : Dz K H ex (.ref a) (dR q) := .tup h (.cons (.int _) (.cons (.int _) .nil))
def shD (d : PyData) : Bool := match ratD d with
  | some q => decide (0 ≤ q.num)
  | none => false
def sumD (ds : List PyData) : Rat := (ds.map fun d => (ratD d).getD 0).sum
/-- things that are all fractions -/
theorem DzA.rats {n : Nat} (h : DzA K H ex vs ds) (hb : ∀ d ∈ ds, ∀ q, ratD d = some q → Bd n q) (g : ds.all (fun d => (ratD d).isSome) = true) : ∃ qs, ds = qs.map dR ∧ FrN K H n vs qs := by
  induction ds generalizing vs with
  | nil => cases h; exact ⟨[], rfl, FrN.nil⟩
  | cons d ds ih =>
    cases h with
    | @cons v vs _ _ h t =>
      rw [List.all_cons, Bool.and_eq_true] at g
      obtain ⟨qs, e1, e2⟩ := ih t (fun x hx => hb x (List.mem_cons_of_mem _ hx)) g.2
      obtain ⟨q, eq⟩ := Option.isSome_iff_exists.mp g.1
      obtain ⟨a, rfl, e3, e4⟩ := h.rat eq
      refine ⟨q :: qs, by rw [e4, e1]; rfl, ⟨by rw [List.length_cons, List.length_cons, e2.len], fun i x e => ?_⟩⟩
      cases i with
      | zero => cases (Option.some.inj e); exact ⟨a, q, rfl, rfl, e3, hb d (List.mem_cons_self ..) q eq⟩
      | succ i => exact e2.at_ i x e
theorem frn_dz : ∀ {vs : List V} {qs : List Rat} {n : Nat}, FrN K H n vs qs → DzA K H ex vs (qs.map dR)
  | [], [], _, _ => .nil
  | [], _ :: _, _, h => by have := h.len; simp at this
  | _ :: _, [], _, h => by have := h.len; simp at this
  | v :: vs, q :: qs, n, h => by
    obtain ⟨a, q', e1, rfl, e3, e4⟩ := h.at_ 0 v rfl
    cases (Option.some.inj e1)
    exact .cons (dz_dR e3) (frn_dz (n := n) ⟨by have := h.len; simpa using this, fun i v e => h.at_ (i + 1) v e⟩)
theorem rows_dz : ∀ {rs : List Addr} {rss : List (List Rat)} {n : Nat}, RowsAt K H n rs rss → (∀ r ∈ rs, ¬ ex r) → DzA K H ex (rs.map V.ref) (rss.map fun qs => .list (qs.map dR))
  | [], [], _, _, _ => .nil
  | [], _ :: _, _, h, _ => by have := h.1; simp at this
  | _ :: _, [], _, h, _ => by have := h.1; simp at this
  | r :: rs, q :: rss, n, h, hn => by
    obtain ⟨cs, qs, e1, e2, e3⟩ := h.2 0 r rfl
    have e : q = qs := Option.some.inj e1
    subst e
    exact .cons (.lst e2 (hn r (List.mem_cons_self ..)) (frn_dz e3)) (rows_dz (n := n) ⟨by have := h.1; simpa using this, fun j x e => h.2 (j + 1) x e⟩ fun r hr => hn r (List.mem_cons_of_mem _ hr))
end
/-! ### shown -/
section
variable {X : Cx} {pins : List (Addr × Obj)} {σ : L2.St} {H : Hp} {s : Shared} {ex : Addr → Prop}
mutual
theorem Dz.repk (I : Inv X pins σ H s) : ∀ (d : PyData) (v : V) (u : Value), Dz X.K H ex v d → RelV v u → d.showable = true → d.shown.length ≤ sizeLine → ∃ as bs, Reads s.heap u d as ∧ ReadAtMost s.heap d.depth bs ∧ ReprK X.prog X.w bs s.heap d.depth u d.shown
  | .none, _, _, h, r, _, _ => by
    cases h
    cases r
    exact ⟨[], [], .none, fun _ z => (nomatch z), ReprK.of_is ReprIs.none [] _ _⟩
  | .bool b, _, _, h, r, _, _ => by
    cases h
    cases r
    exact ⟨[], [], .bool b, fun _ z => (nomatch z), ReprK.of_is (ReprIs.bool b) [] _ _⟩
  | .int i, _, _, h, r, hs, _ => by
    cases h
    obtain ⟨t, rfl⟩ := r
    exact ⟨[], [], .int i t, fun _ z => (nomatch z), ReprK.of_is (ReprIs.int t (of_decide_eq_true hs)) [] _ _⟩
  | .str x, _, _, h, r, _, hz => by
    cases h
    obtain ⟨t, rfl⟩ := r
    exact ⟨[], [], .str x t, fun _ z => (nomatch z), ReprK.of_is (ReprIs.str x t hz) [] _ _⟩
  | .list ds, _, _, h, r, hs, hz => by
    cases h with
    | @lst a xs _ h hn t =>
      cases r
      obtain ⟨_, its, n, rv, e⟩ := (show ObjOk X.prog X.w H s.heap a (.lst xs) from I.hok a _ h)
      have hz1 : (listText (PyData.shownAll ds)).length ≤ sizeLine := hz
      obtain ⟨as, bs, h1, h2, h3⟩ := DzA.repk I ds xs its t rv hs fun y hy => Nat.le_trans (listText_mem_le hy) hz1
      have rd : Reads s.heap (.ref a) (.list ds) (a :: as) := .list e rfl rfl h1
      have na : a ∉ bs := not_mem_of_deeper rd (Nat.lt_succ_self _) h2
      refine ⟨_, a :: bs, rd, ReadAtMost.cons rd (Nat.le_succ _) h2, ?_⟩
      cases its with
      | nil =>
        cases h1
        exact ReprK.listEmpty e rfl rfl
      | cons x l => exact ReprK.list e rfl rfl na (by simpa using h3.length_eq) fun i y z => h3.item i y (by simpa using z)
  | .tuple ds, _, _, h, r, hs, hz => by
    cases h with
    | @tup a xs _ h t =>
      cases r
      obtain ⟨its, rv, ⟨o, ho, hc, n, hd⟩, _⟩ := I.tuple h
      have hz1 : (tupleText (PyData.shownAll ds)).length ≤ sizeLine := hz
      obtain ⟨as, bs, h1, h2, h3⟩ := DzA.repk I ds xs its t rv hs fun y hy => Nat.le_trans (tupleText_mem_le hy) hz1
      have rd : Reads s.heap (.ref a) (.tuple ds) as := .tuple ho hc hd h1
      exact ⟨_, a :: bs, rd, ReadAtMost.cons rd (Nat.le_succ _) h2, ReprK.tuple ho hc hd (not_mem_of_deeper rd (Nat.lt_succ_self _) h2) h3⟩
  | .dict ds, _, _, h, r, _, _ => by
    cases h with
    | @dct a h hn =>
      cases r
      obtain ⟨_, hns, vs, hkv, o, es, ep, h1, h2, h3, h4, h5, _⟩ := (show ObjOk X.prog X.w H s.heap a (.dK []) from I.hok a _ h)
      cases hkv
      have he : es.toList = [] := List.eq_nil_of_length_eq_zero h5.length
      have rd : Reads s.heap (.ref a) (.dict []) (a :: [] ++ []) := .dict h1 h2.1 h3 (by rw [he]; exact .nil) (by rw [he]; exact .nil)
      refine ⟨_, [a], rd, ReadAtMost.cons (n := 0) (bs := []) rd (Nat.zero_le _) (fun _ z => (nomatch z)), ReprK.dict (d := 0) (ps := []) h1 h2.1 h3 hns (by simp) (by rw [he]; exact .nil)⟩
theorem DzA.repk (I : Inv X pins σ H s) : ∀ (ds : List PyData) (vs : List V) (us : List Value), DzA X.K H ex vs ds → Vals vs us → PyData.showableAll ds = true → (∀ t ∈ PyData.shownAll ds, t.length ≤ sizeLine) → ∃ as bs, ReadsAll s.heap us ds as ∧ ReadAtMost s.heap (PyData.depthAll ds) bs ∧ ReprAllK X.prog X.w bs s.heap (PyData.depthAll ds) us (PyData.shownAll ds)
  | [], _, _, h, r, _, _ => by
    cases h
    cases r
    exact ⟨[], [], .nil, fun _ z => (nomatch z), .nil⟩
  | d :: ds, _, _, h, r, hs, hz => by
    cases h with
    | cons h t =>
      cases r with
      | cons r1 r2 =>
        have hs' : d.showable = true ∧ PyData.showableAll ds = true := Bool.and_eq_true _ _ ▸ (show (d.showable && PyData.showableAll ds) = true from hs)
        obtain ⟨as, bs, a1, a2, a3⟩ := Dz.repk I d _ _ h r1 hs'.1 (hz _ (List.mem_cons_self ..))
        obtain ⟨cs, es, b1, b2, b3⟩ := DzA.repk I ds _ _ t r2 hs'.2 fun y hy => hz y (List.mem_cons_of_mem _ hy)
        refine ⟨as ++ cs, bs ++ es, .cons a1 b1, fun b hb => ?_, .cons ((a3.more fun b hb => List.mem_append_left _ hb).level_le (Nat.le_max_left _ _)) (b3.more_le (fun b hb => List.mem_append_right _ hb) (Nat.le_max_right _ _))⟩
        rcases List.mem_append.mp hb with hb | hb
        · obtain ⟨x, y, z1, z2⟩ := a2 b hb
          exact ⟨x, y, z1, Nat.le_trans z2 (Nat.le_max_left _ _)⟩
        · obtain ⟨x, y, z1, z2⟩ := b2 b hb
          exact ⟨x, y, z1, Nat.le_trans z2 (Nat.le_max_right _ _)⟩
end
/-- repr of a list that is not empty -/
def rReprZ (K : PySem.W.Frag) : List V → Hp → VK → Prop := fun xs H Q => ∃ (ex : Addr → Prop) (x : V) (d : PyData) (ds : List PyData), xs = [x] ∧ Dz K H ex x (.list (d :: ds)) ∧ (PyData.list (d :: ds)).showable = true ∧ (PyData.list (d :: ds)).depth ≤ 64 ∧ (PyData.list (d :: ds)).shown.length ≤ sizeLine ∧ Q (.str (PyData.list (d :: ds)).shown) H
theorem call_reprZ {X : Cx} (hgd : X.A.guards = some []) (hu : X.A.units + 80 < cLine) : CallR X (.builtin "repr") (rReprZ X.K) := by
  intro pins s σ H xs us Q I r h
  obtain ⟨ex, x, d, ds, rfl, hd, hs, hdp, hsz, q⟩ := h
  cases r with
  | @cons _ u _ _ ru rn =>
    cases rn
    cases hd with
    | @lst a xs _ h hn t =>
      cases ru
      obtain ⟨_, its, n, rv, e⟩ := (show ObjOk X.prog X.w H s.heap a (.lst xs) from I.hok a _ h)
      have hz1 : (listText (PyData.shownAll (d :: ds))).length ≤ sizeLine := hsz
      obtain ⟨as, bs, h1, h2, h3⟩ := DzA.repk I (d :: ds) xs its t rv hs fun y hy => Nat.le_trans (listText_mem_le hy) hz1
      have rd : Reads s.heap (.ref a) (.list (d :: ds)) (a :: as) := .list e rfl rfl h1
      have na : a ∉ bs := not_mem_of_deeper rd (Nat.lt_succ_self _) h2
      have hdp' : PyData.depthAll (d :: ds) + 1 ≤ 64 := hdp
      cases its with
      | nil => cases h1
      | cons x l =>
        refine call_repr_slot (by omega) ⟨_, e, rfl⟩ F.slot_list_repr.toG (call_list_reprK e rfl rfl na (by simpa using h3.length_eq) (fun i y z => h3.item i y (by simpa using z)) hgd (fun b _ => Clear.nil b) (by show X.A.units + 1 + (_ + 1) < cLine; omega) (fun _ _ z => z) (fun h' u tk hk => ⟨_, _, rfl, ?_⟩) hz1)
        exact ⟨.str (PyData.list (d :: ds)).shown, H, I.kept (t' := tk) hk, ⟨_, rfl⟩, q⟩
end
/-! ### how long what is shown is -/
theorem textFrom_le : ∀ (ts : List Str) (k : Nat) (acc : Str), (textFrom k acc ts).length ≤ acc.length + piled ts
  | [], k, acc => Nat.le_add_right _ _
  | t :: ts, k, acc => by
    have h := textFrom_le ts (k + 1) (acc ++ (if k > 0 then ", " else "" : String) ++ t)
    rw [strLen_append, strLen_append] at h
    rw [piled_cons]
    have e : textFrom k acc (t :: ts) = textFrom (k + 1) (acc ++ (if k > 0 then ", " else "" : String) ++ t) ts := rfl
    rw [e]
    have hc : (((if k > 0 then ", " else "" : String) : Str)).length ≤ 2 := by split <;> decide
    omega
theorem listText_le (ts : List Str) : (listText ts).length ≤ 2 + piled ts := by
  have h := textFrom_le ts 0 "["
  unfold listText
  rw [strLen_append]
  have h1 : (("[" : String) : Str).length = 1 := by decide
  have h2 : (("]" : String) : Str).length = 1 := by decide
  omega
theorem tupleText_le (ts : List Str) : (tupleText ts).length ≤ 3 + piled ts := by
  unfold tupleText
  rw [strLen_append, strLen_append]
  have h1 : (("(" : String) : Str).length = 1 := by decide
  have h2 : (((if ts.length == 1 then ",)" else ")" : String) : Str)).length ≤ 2 := by split <;> decide
  cases ts with
  | nil =>
    have h3 : (Str.join ", " []).length = 0 := by decide
    omega
  | cons t ts =>
    have h3 := join_length_add (t :: ts) (by simp)
    omega
theorem piled_le {ts : List Str} {b : Nat} (h : ∀ t ∈ ts, t.length ≤ b) : piled ts ≤ ts.length * (b + 2) := by
  induction ts with
  | nil => exact Nat.zero_le _
  | cons t ts ih =>
    rw [piled_cons, List.length_cons, Nat.succ_mul]
    have h1 := h t (List.mem_cons_self ..)
    have h2 := ih fun x hx => h x (List.mem_cons_of_mem _ hx)
    omega
/-- data that can be shown, of so many levels, no longer than b -/
structure Sm (d : PyData) (k b : Nat) : Prop where
  sh : d.showable = true
  dp : d.depth ≤ k
  sz : d.shown.length ≤ b
  ly : d.canLay0 = true
theorem Sm.mono {d : PyData} {k b k' b' : Nat} (h : Sm d k b) (hk : k ≤ k') (hb : b ≤ b') : Sm d k' b' := ⟨h.sh, Nat.le_trans h.dp hk, Nat.le_trans h.sz hb, h.ly⟩
theorem shownAll_len : ∀ ds : List PyData, (PyData.shownAll ds).length = ds.length
  | [] => by simp only [PyData.shownAll, List.length_nil]
  | d :: ds => by simp only [PyData.shownAll, List.length_cons, shownAll_len ds]
theorem shownAll_mem : ∀ {ds : List PyData} {t : Str}, t ∈ PyData.shownAll ds → ∃ d ∈ ds, t = d.shown
  | [], t, h => by simp only [PyData.shownAll] at h; exact nomatch h
  | d :: ds, t, h => by
    simp only [PyData.shownAll, List.mem_cons] at h
    rcases h with rfl | h
    · exact ⟨d, List.mem_cons_self .., rfl⟩
    · obtain ⟨x, hx, e⟩ := shownAll_mem h
      exact ⟨x, List.mem_cons_of_mem _ hx, e⟩
theorem sm_piled {ds : List PyData} {k b n : Nat} (h : ∀ d ∈ ds, Sm d k b) (hn : ds.length ≤ n) : piled (PyData.shownAll ds) ≤ n * (b + 2) := by
  have h1 := piled_le (ts := PyData.shownAll ds) (b := b) fun t ht => by
    obtain ⟨d, hd, rfl⟩ := shownAll_mem ht
    exact (h d hd).sz
  rw [shownAll_len] at h1
  exact Nat.le_trans h1 (Nat.mul_le_mul_right _ hn)
theorem sm_shs : ∀ {ds : List PyData} {k b : Nat}, (∀ d ∈ ds, Sm d k b) → PyData.showableAll ds = true
  | [], _, _, _ => by simp only [PyData.showableAll]
  | d :: ds, k, b, h => by simp only [PyData.showableAll, (h d (List.mem_cons_self ..)).sh, sm_shs fun x hx => h x (List.mem_cons_of_mem _ hx), Bool.and_self]
theorem sm_lys : ∀ {ds : List PyData} {k b : Nat}, (∀ d ∈ ds, Sm d k b) → PyData.canLayAll0 ds = true
  | [], _, _, _ => rfl
  | d :: ds, k, b, h => by
    show (PyData.canLay0 d && PyData.canLayAll0 ds) = true
    rw [(h d (List.mem_cons_self ..)).ly, sm_lys fun x hx => h x (List.mem_cons_of_mem _ hx)]
    rfl
theorem sm_dps : ∀ {ds : List PyData} {k b : Nat}, (∀ d ∈ ds, Sm d k b) → PyData.depthAll ds ≤ k
  | [], _, _, _ => Nat.zero_le _
  | d :: ds, k, b, h => by
    show max (PyData.depth d) (PyData.depthAll ds) ≤ k
    have h1 := (h d (List.mem_cons_self ..)).dp
    have h2 := sm_dps fun x hx => h x (List.mem_cons_of_mem _ hx)
    omega
theorem sm_list {ds : List PyData} {k b n c : Nat} (h : ∀ d ∈ ds, Sm d k b) (hn : ds.length ≤ n) (hc : 3 + n * (b + 2) ≤ c) : Sm (.list ds) (k + 1) c := by
  refine ⟨by simp only [PyData.showable]; exact sm_shs h, ?_, ?_, sm_lys h⟩
  · have := sm_dps h
    show PyData.depthAll ds + 1 ≤ k + 1
    omega
  · have h1 := listText_le (PyData.shownAll ds)
    have h2 := sm_piled h hn
    simp only [PyData.shown]
    omega
theorem sm_tup {ds : List PyData} {k b n c : Nat} (h : ∀ d ∈ ds, Sm d k b) (hn : ds.length ≤ n) (hc : 3 + n * (b + 2) ≤ c) : Sm (.tuple ds) (k + 1) c := by
  refine ⟨by simp only [PyData.showable]; exact sm_shs h, ?_, ?_, sm_lys h⟩
  · have := sm_dps h
    show PyData.depthAll ds + 1 ≤ k + 1
    omega
  · have h1 := tupleText_le (PyData.shownAll ds)
    have h2 := sm_piled h hn
    simp only [PyData.shown]
    omega
end Dz

set_option Elab.async false
set_option linter.all false
set_option maxRecDepth 100000
set_option maxHeartbeats 4000000
namespace Cs
open PySem PySem.Spec PyProof.Rows L2 BX EXB Co Ru
open Dz
open Fr (Bd)
def itemsD : PyData → List PyData
  | .list ds => ds
  | _ => []
def spWholeZ (K : PySem.W.Frag) : Sp := fun vs H Q _ => ∃ (ex : Addr → Prop) (v : V) (d : PyData), vs = [v] ∧ Dz.Dz K H ex v d ∧ Q (.bl (isI d)) H
def spIsRZ (K : PySem.W.Frag) : Sp := fun vs H Q _ => ∃ (ex : Addr → Prop) (v : V) (d : PyData), vs = [v] ∧ Dz.Dz K H ex v d ∧ Q (.bl (ratD d).isSome) H
def spShareZ (K : PySem.W.Frag) : Sp := fun vs H Q _ => ∃ (ex : Addr → Prop) (v : V) (d : PyData), vs = [v] ∧ Dz.Dz K H ex v d ∧ Q (.bl (shD d)) H
def spListOfZ (K : PySem.W.Frag) : Sp := fun vs H Q _ => ∃ (ex : Addr → Prop) (v : V) (d : PyData) (lo hi : Int), vs = [v, .int lo, .int hi] ∧ Dz.Dz K H ex v d ∧ Q (.bl (lenOk (lenD d) lo hi)) H
def rowOkZ (d : PyData) (lo hi : Int) : Bool := lenOk (lenD d) lo hi && (itemsD d).all fun e => (ratD e).isSome
def firstWrongZ : List PyData → Nat → Int → Int → Option Nat
  | [], _, _, _ => none
  | d :: ds, j, lo, hi => if rowOkZ d lo hi = true then firstWrongZ ds (j + 1) ((itemsD d).length : Int) ((itemsD d).length : Int) else some j
theorem firstWrongZ_drop {ds : List PyData} {i : Nat} {d : PyData} {lo hi : Int} (h : ds[i]? = some d) : firstWrongZ (ds.drop i) i lo hi = if rowOkZ d lo hi = true then firstWrongZ (ds.drop (i + 1)) (i + 1) ((itemsD d).length : Int) ((itemsD d).length : Int) else some i := by
  have hi' : i < ds.length := (List.getElem?_eq_some_iff.mp h).1
  have e : ds[i] = d := (List.getElem?_eq_some_iff.mp h).2
  rw [List.drop_eq_getElem_cons hi', e, firstWrongZ]
def spRowZ (K : PySem.W.Frag) : Sp := fun vs H Q _ => ∃ (ex : Addr → Prop) (v : V) (d : PyData) (lo hi : Int), vs = [v, .int lo, .int hi] ∧ Dz.Dz K H ex v d ∧ hi ≤ 6 ∧ ∀ H', Same H H' → Q (.bl (rowOkZ d lo hi)) H'
def optI : Option Nat → V
  | none => .non
  | some j => .int (j : Nat)
def spWrongZ (K : PySem.W.Frag) (fR : Addr) : Sp := fun vs H Q _ => ∃ (ex : Addr → Prop) (a : Addr) (rs : List V) (ds : List PyData) (lo hi : Int), vs = [.ref a, .ref fR, .int lo, .int hi] ∧ H a = some (.lst rs) ∧ DzA K H ex rs ds ∧ hi ≤ 6 ∧ ∀ H', Same H H' → Q (optI (firstWrongZ ds 0 lo hi)) H'
def firstNot (p : PyData → Bool) : List PyData → Nat → Option Nat
  | [], _ => none
  | d :: ds, j => if p d = true then firstNot p ds (j + 1) else some j
theorem firstNot_drop {p : PyData → Bool} {ds : List PyData} {i : Nat} {d : PyData} (h : ds[i]? = some d) : firstNot p (ds.drop i) i = if p d = true then firstNot p (ds.drop (i + 1)) (i + 1) else some i := by
  have hi' : i < ds.length := (List.getElem?_eq_some_iff.mp h).1
  have e : ds[i] = d := (List.getElem?_eq_some_iff.mp h).2
  rw [List.drop_eq_getElem_cons hi', e, firstNot]
theorem firstNot_all {p : PyData → Bool} : ∀ {ds : List PyData} {j : Nat}, firstNot p ds j = none → ds.all p = true
  | [], _, _ => rfl
  | d :: ds, j, h => by
    rw [firstNot] at h
    split at h
    · rename_i c
      rw [List.all_cons, c, firstNot_all h]
      rfl
    · cases h
def numS : Option Nat → Rat → Option V
  | some j, _ => some (.int (j : Nat))
  | none, s => if s = 1 then none else some .non
/-- what is wrong with shares: its number -/
def badS (d : PyData) : Option V := if lenOk (lenD d) 1 5 = true then numS (firstNot shD (itemsD d) 0) (sumD (itemsD d)) else some .non
def badG (d : PyData) (ww lo hi : Int) : Option V := if lenOk (lenD d) ww ww = true then (firstWrongZ (itemsD d) 0 lo hi).map fun j => V.int (j : Nat) else some .non
def deedsD (d : PyData) : Nat := (itemsD ((itemsD d).headD .none)).length
def orP (p : Str) (o : Option V) (r : Option (Str × V)) : Option (Str × V) :=
  match o with
  | some n => some (p, n)
  | none => r
def badC (ds dh dt : PyData) : Option (Str × V) := orP "shares" (badS ds) (orP "hearer" (badG dh ((itemsD ds).length : Int) 1 6) (orP "teller" (badG dt ((itemsD ds).length : Int) (deedsD dh : Int) (deedsD dh : Int)) none))
/-- fractions of few figures -/
def Few (n : Nat) (ds : List PyData) : Prop := ∀ d ∈ ds, ∀ q, ratD d = some q → Bd n q
def spChkS (K : PySem.W.Frag) (CN : Addr) : Sp := fun vs H Q E => ∃ (ex : Addr → Prop) (v : V) (d : PyData), vs = [v] ∧ Dz.Dz K H ex v d ∧ Few 1000 (itemsD d) ∧
  (∀ r, badS d = some r → ∀ H' dd, Same H H' → H' dd = some (.xd [("number", r), ("part", .str "shares")]) → E (.ref CN) (some dd) H') ∧ (badS d = none → ∀ H', Same H H' → Q .non H')
def spChkG (K : PySem.W.Frag) (CN : Addr) : Sp := fun vs H Q E => ∃ (ex : Addr → Prop) (pt : Str) (v : V) (d : PyData) (ww lo hi : Int), vs = [.str pt, v, .int ww, .int lo, .int hi] ∧ Dz.Dz K H ex v d ∧ hi ≤ 6 ∧
  (∀ r, badG d ww lo hi = some r → ∀ H' dd, Same H H' → H' dd = some (.xd [("number", r), ("part", .str pt)]) → E (.ref CN) (some dd) H') ∧ (badG d ww lo hi = none → ∀ H', Same H H' → Q .non H')
/-- a case that stands -/
def IsCase (K : PySem.W.Frag) (H : Hp) (C x : Addr) (qs : List Rat) (hss tss : List (List Rat)) (n : Nat) : Prop := ∃ (dx sa ha ta : Addr) (cs : List V) (rh rt : List Addr), H x = some (.ins C dx [("own_shares", .ref sa), ("own_hearer", .ref ha), ("own_teller", .ref ta)]) ∧ H sa = some (.lst cs) ∧ FrN K H n cs qs ∧ RwL K H ha rh hss n ∧ RwL K H ta rt tss n
theorem IsCase.same {K : PySem.W.Frag} {H H' : Hp} {C x : Addr} {qs : List Rat} {hss tss : List (List Rat)} {n : Nat} (h : IsCase K H C x qs hss tss n) (s : Same H H') : IsCase K H' C x qs hss tss n :=
  let ⟨dx, sa, ha, ta, cs, rh, rt, e1, e2, e3, e4, e5⟩ := h; ⟨dx, sa, ha, ta, cs, rh, rt, s _ _ e1, s _ _ e2, e3.same s, e4.same s, e5.same s⟩
abbrev dS (qs : List Rat) : PyData := .list (qs.map dR)
/-- good parts of a case -/
structure GoodC (qs : List Rat) (hss tss : List (List Rat)) (ww dd : Nat) : Prop where
  w1 : 1 ≤ ww
  w5 : ww ≤ 5
  d1 : 1 ≤ dd
  d6 : dd ≤ 6
  sh : RowOk ww qs
  hl : hss.length = ww
  tl : tss.length = ww
  hr : ∀ r ∈ hss, r.length = dd
  tr : ∀ r ∈ tss, r.length = dd
theorem lenOk_iff {n : Nat} {lo hi : Int} : lenOk (some n) lo hi = true ↔ lo ≤ (n : Int) ∧ (n : Int) ≤ hi := by
  show (decide _ && decide _) = true ↔ _
  rw [Bool.and_eq_true, decide_eq_true_eq, decide_eq_true_eq]
theorem lenOk_list {d : PyData} {lo hi : Int} (h : lenOk (lenD d) lo hi = true) : ∃ ds, d = .list ds ∧ lo ≤ (ds.length : Int) ∧ (ds.length : Int) ≤ hi := by
  cases d with
  | list ds => exact ⟨ds, rfl, lenOk_iff.mp h⟩
  | _ => cases h
theorem all_dR (qs : List Rat) : (qs.map dR).all (fun e => (ratD e).isSome) = true := by
  rw [List.all_eq_true]
  intro d hd
  obtain ⟨q, _, rfl⟩ := List.mem_map.mp hd
  rw [ratD_dR]
  rfl
theorem shD_dR (q : Rat) : shD (dR q) = decide (0 ≤ q.num) := by
  unfold shD
  rw [ratD_dR]
theorem sumD_dR (qs : List Rat) : sumD (qs.map dR) = qs.sum := by
  unfold sumD
  rw [List.map_map]
  congr 1
  have : ((fun d => (ratD d).getD 0) ∘ dR) = id := by
    funext q
    show (ratD (dR q)).getD 0 = q
    rw [ratD_dR]
    rfl
  rw [this, List.map_id]
theorem firstNot_good {qs : List Rat} (h : ∀ q ∈ qs, 0 ≤ q) : ∀ {j : Nat}, firstNot shD (qs.map dR) j = none := by
  induction qs with
  | nil => intro j; rfl
  | cons q qs ih =>
    intro j
    show firstNot shD (dR q :: qs.map dR) j = none
    rw [firstNot, if_pos (by rw [shD_dR]; exact decide_eq_true (Rat.num_nonneg.mpr (h q (List.mem_cons_self ..))))]
    exact ih fun x hx => h x (List.mem_cons_of_mem _ hx)
theorem badS_good {qs : List Rat} {ww : Nat} (h : RowOk ww qs) (h1 : 1 ≤ ww) (h5 : ww ≤ 5) : badS (dS qs) = none := by
  unfold badS
  have e : lenOk (lenD (dS qs)) 1 5 = true := lenOk_iff.mpr (by rw [List.length_map, h.1]; omega)
  rw [if_pos e]
  show numS (firstNot shD (qs.map dR) 0) (sumD (qs.map dR)) = none
  rw [firstNot_good h.2.1, sumD_dR, h.2.2]
  rfl
theorem fwz_good {dd : Nat} : ∀ (rss : List (List Rat)) (j : Nat) (lo hi : Int), (∀ r ∈ rss, r.length = dd) → lo ≤ (dd : Int) → (dd : Int) ≤ hi → firstWrongZ (rss.map fun qs => .list (qs.map dR)) j lo hi = none
  | [], _, _, _, _, _, _ => rfl
  | q :: rss, j, lo, hi, h, h1, h2 => by
    have hq := h q (List.mem_cons_self ..)
    have c : rowOkZ (.list (q.map dR)) lo hi = true := by
      unfold rowOkZ
      have e : lenOk (lenD (.list (q.map dR))) lo hi = true := lenOk_iff.mpr (by rw [List.length_map, hq]; exact ⟨h1, h2⟩)
      rw [e]
      exact all_dR q
    show firstWrongZ (.list (q.map dR) :: rss.map fun qs => .list (qs.map dR)) j lo hi = none
    rw [firstWrongZ, if_pos c]
    have e : ((itemsD (.list (q.map dR))).length : Int) = (dd : Int) := by
      show ((q.map dR).length : Int) = _
      rw [List.length_map, hq]
    rw [e]
    exact fwz_good rss _ _ _ (fun r hr => h r (List.mem_cons_of_mem _ hr)) (Int.le_refl _) (Int.le_refl _)
theorem badG_good {rss : List (List Rat)} {ww dd : Nat} {lo hi : Int} (hl : rss.length = ww) (hr : ∀ r ∈ rss, r.length = dd) (h1 : lo ≤ (dd : Int)) (h2 : (dd : Int) ≤ hi) : badG (dRows rss) (ww : Int) lo hi = none := by
  unfold badG
  have e : lenOk (lenD (dRows rss)) (ww : Int) (ww : Int) = true := lenOk_iff.mpr (by rw [List.length_map, hl]; omega)
  rw [if_pos e]
  show (firstWrongZ (rss.map fun qs => .list (qs.map dR)) 0 lo hi).map _ = none
  rw [fwz_good rss 0 lo hi hr h1 h2]
  rfl
theorem badC_good {qs : List Rat} {hss tss : List (List Rat)} {ww dd : Nat} (g : GoodC qs hss tss ww dd) : badC (dS qs) (dRows hss) (dRows tss) = none := by
  have e0 := badS_good g.sh g.w1 g.w5
  have el : ((itemsD (dS qs)).length : Int) = (ww : Int) := by
    show ((qs.map dR).length : Int) = _
    rw [List.length_map, g.sh.1]
  have ed : deedsD (dRows hss) = dd := by
    have := g.w1
    have := g.hl
    cases hss with
    | nil => simp at this; omega
    | cons r hss =>
      show (r.map dR).length = dd
      rw [List.length_map]
      exact g.hr r (List.mem_cons_self ..)
  have h1 := g.d1
  have h6 := g.d6
  unfold badC
  rw [e0]
  rw [el, badG_good g.hl g.hr (by omega) (by omega), ed, badG_good g.tl g.tr (Int.le_refl _) (Int.le_refl _)]
  rfl
/-- rows that are let by are rows of fractions -/
theorem rows_of {K : PySem.W.Frag} {H : Hp} {ex : Addr → Prop} {n : Nat} : ∀ {ds : List PyData} {vs : List V} {j : Nat} {lo hi : Int}, DzA K H ex vs ds → (∀ d ∈ ds, Few n (itemsD d)) → firstWrongZ ds j lo hi = none → ∃ rs rss, vs = rs.map V.ref ∧ ds = rss.map (fun qs => PyData.list (qs.map dR)) ∧ RowsAt K H n rs rss
  | [], _, _, _, _, h, _, _ => by cases h; exact ⟨[], [], rfl, rfl, RowsAt.nil⟩
  | d :: ds, _, j, lo, hi, h, hf, e => by
    cases h with
    | @cons v vs _ _ h t =>
      rw [firstWrongZ] at e
      split at e
      · rename_i c
        obtain ⟨rs, rss, e1, e2, e3⟩ := rows_of t (fun x hx => hf x (List.mem_cons_of_mem _ hx)) e
        unfold rowOkZ at c
        rw [Bool.and_eq_true] at c
        obtain ⟨es, rfl, _, _⟩ := lenOk_list c.1
        cases h with
        | @lst a cs _ h hn ts =>
          obtain ⟨qs, f1, f2⟩ := ts.rats (n := n) (hf _ (List.mem_cons_self ..)) c.2
          refine ⟨a :: rs, qs :: rss, by rw [e1]; rfl, by rw [e2, f1]; rfl, ⟨by rw [List.length_cons, List.length_cons, e3.1], fun j x e => ?_⟩⟩
          cases j with
          | zero => cases (Option.some.inj e); exact ⟨cs, qs, rfl, h, f2⟩
          | succ j => exact e3.2 j x e
      · cases e
/-- Case(shares, hearer, teller), of any things -/
def spCInit (K : PySem.W.Frag) (C CN : Addr) : Sp := fun vs H Q E => ∃ (ex : Addr → Prop) (n : Nat) (x dx : Addr) (vs0 vh vt : V) (ds dh dt : PyData), vs = [.ref x, vs0, vh, vt] ∧ H x = some (.ins C dx []) ∧ Dz.Dz K H ex vs0 ds ∧ Dz.Dz K H ex vh dh ∧ Dz.Dz K H ex vt dt ∧
  n ≤ 1000 ∧ Few n (itemsD ds) ∧ (∀ d ∈ itemsD dh, Few n (itemsD d)) ∧ (∀ d ∈ itemsD dt, Few n (itemsD d)) ∧
  (∀ p r, badC ds dh dt = some (p, r) → ∀ H' dd, Same H H' → H' dd = some (.xd [("number", r), ("part", .str p)]) → E (.ref CN) (some dd) H') ∧
  (badC ds dh dt = none → ∀ sa ha ta cs rh rt qs hss tss H', (∀ b ob, b ≠ x → H b = some ob → H' b = some ob) → H' x = some (.ins C dx [("own_shares", .ref sa), ("own_hearer", .ref ha), ("own_teller", .ref ta)]) → H' sa = some (.lst cs) → FrN K H' n cs qs → RwL K H' ha rh hss n → RwL K H' ta rt tss n →
    ds = dS qs → dh = dRows hss → dt = dRows tss → Q .non H')
end Cs

set_option Elab.async false
set_option linter.all false
set_option maxRecDepth 100000
set_option maxHeartbeats 4000000
namespace Lw
open PySem PySem.Spec PyProof.Rows L2 BX EXB Co Ru
open Dz Cs
open Fr (Bd)
def spGain (K : PySem.W.Frag) : Sp := fun vs H Q _ => ∃ (l : Addr) (z : Int), vs = [.ref l] ∧ H l = some (.lst [.int z]) ∧ ∀ p q z' H', SameB l H H' → H' l = some (.lst [.int z']) → SqT K H' p (rp q) → Bd 8 q → Q (.ref p) H'
def spGains (K : PySem.W.Frag) : Sp := fun vs H Q _ => ∃ (l : Addr) (z : Int) (ww dd : Nat), vs = [.ref l, .int (ww : Int), .int (dd : Int)] ∧ H l = some (.lst [.int z]) ∧ ww ≤ 5 ∧ dd ≤ 6 ∧
  ∀ D rs rss z' H', New K H H' l D rs rss 8 → D ≠ l → H' l = some (.lst [.int z']) → rss.length = ww → (∀ r ∈ rss, r.length = dd) → Q (.ref D) H'
/-- the law's parts of a case -/
def PartsAt (K : PySem.W.Frag) (H : Hp) (P : Addr) (qs : List Rat) (hss tss : List (List Rat)) : Prop := ∃ (A B C : Addr) (cs : List V) (rh rt : List Addr), H P = some (.lst [.ref A, .ref B, .ref C]) ∧ H A = some (.lst cs) ∧ FrN K H 8 cs qs ∧ RwL K H B rh hss 8 ∧ RwL K H C rt tss 8
theorem PartsAt.same {K : PySem.W.Frag} {H H' : Hp} {P : Addr} {qs : List Rat} {hss tss : List (List Rat)} (h : PartsAt K H P qs hss tss) (s : Same H H') : PartsAt K H' P qs hss tss :=
  let ⟨A, B, C, cs, rh, rt, e1, e2, e3, e4, e5⟩ := h; ⟨A, B, C, cs, rh, rt, s _ _ e1, s _ _ e2, e3.same s, e4.same s, e5.same s⟩
theorem frn_num {K : PySem.W.Frag} {H : Hp} {n : Nat} {z : Int} {qs : List Rat} (h : FrN K H n [.int z] qs) : False := by
  obtain ⟨a, q, _, e, _⟩ := h.at_ 0 _ rfl
  cases e
theorem PartsAt.but {K : PySem.W.Frag} {H H' : Hp} {P l : Addr} {z : Int} {qs : List Rat} {hss tss : List (List Rat)} (h : PartsAt K H P qs hss tss) (hl : H l = some (.lst [.int z])) (s : SameB l H H') : PartsAt K H' P qs hss tss := by
  obtain ⟨A, B, C, cs, rh, rt, e1, e2, e3, e4, e5⟩ := h
  refine ⟨A, B, C, cs, rh, rt, s _ _ (fun e => ?_) e1, s _ _ (fun e => ?_) e2, e3.keep (s.tup hl), Rs.RwL.keepB e4 hl s, Rs.RwL.keepB e5 hl s⟩
  · rw [e, hl] at e1
    cases e1
  · rw [e, hl] at e2
    cases e2
    exact frn_num e3
def spParts (K : PySem.W.Frag) : Sp := fun vs H Q _ => ∃ (l : Addr) (z : Int) (mw md : Nat), vs = [.ref l, .int (mw : Int), .int (md : Int)] ∧ H l = some (.lst [.int z]) ∧ 1 ≤ mw ∧ mw ≤ 5 ∧ 1 ≤ md ∧ md ≤ 6 ∧
  ∀ P qs hss tss ww dd z' H', SameB l H H' → H' l = some (.lst [.int z']) → PartsAt K H' P qs hss tss → GoodC qs hss tss ww dd → ww ≤ mw → dd ≤ md → H P = none → P ≠ l → Q (.ref P) H'
theorem bd_one : Bd 8 (1 : Rat) := ⟨by decide, by decide⟩
theorem bd_nul : Bd 8 (0 : Rat) := ⟨by decide, by decide⟩
theorem tab5 {d : Int} (h0 : 0 ≤ d) (h5 : d < 5) : ∃ v : Int, atI [V.int 1, V.int 1, V.int 1, V.int 2, V.int 3] d = some (V.int v) ∧ 1 ≤ v ∧ v ≤ 3 := by
  have : d = 0 ∨ d = 1 ∨ d = 2 ∨ d = 3 ∨ d = 4 := by omega
  rcases this with rfl | rfl | rfl | rfl | rfl
  · exact ⟨1, atI_nat (j := 0) rfl, by decide, by decide⟩
  · exact ⟨1, atI_nat (j := 1) rfl, by decide, by decide⟩
  · exact ⟨1, atI_nat (j := 2) rfl, by decide, by decide⟩
  · exact ⟨2, atI_nat (j := 3) rfl, by decide, by decide⟩
  · exact ⟨3, atI_nat (j := 4) rfl, by decide, by decide⟩
end Lw

set_option Elab.async false
set_option linter.all false
set_option maxRecDepth 100000
set_option maxHeartbeats 4000000
namespace Hr
open PySem PySem.Spec PyProof.Rows L2 BX EXB Co Ru
open Dz Cs
open Fr (Bd)
/-! ### a def's promise, asked of less -/
theorem less {P : Program} {w : World} {K : PySem.W.Frag} {mg : Str → Option Value} {base : Heap} {CX : CXT} {k : Nat} {f : Addr} {fd : FuncData} {ps : List Str} {sp sp' : Sp} (F : FnOk P w K mg base CX k f fd ps sp) (h : ∀ vs H Q E, sp' vs H Q E → sp vs H Q E) : FnOk P w K mg base CX k f fd ps sp' :=
  ⟨fun vs H Q E z => F.len vs H Q E (h _ _ _ _ z), fun A outer s H args us vs Q E hr e b r z => F.run A outer s H args us vs Q E hr e b r (h _ _ _ _ z)⟩
/-! ### calls by names -/
section
variable {X : Cx} {CX : CXT} {k : Nat} {f : Addr} {fd : FuncData} {ps ks : List Str} {sp : Sp} {E : XK} {x : Str} {p pos : Pos} {kws : List Keyword} {tk : TA} {g : List Value → List Value → List Value} {gV : List V → List V → List V}
/-- f(k = v, ..), by names alone -/
theorem pe_callN0 (F : FnOk X.prog X.w X.K X.mg X.base CX k f fd ps sp) (hr : Room k X.A) (hg : Gl X x) (hm : X.mg x = some (.ref f)) (hk : PySem.W.keepIn X.K (.ref f) = true) (hb : KBn X.K fd ps 0 ks g gV) (hx : Passes CX X E)
    (hkw : PK X kws tk) (hall : (backToKw pos (keywordEach kws X.env)).all (·.1.isSome) = true := by rfl) (hks : (backToKw pos (keywordEach kws X.env)).filterMap (·.1) = ks := by rfl)
    (hdb : (x == ("__debug__" : Str)) = false := by decide) (hpl : ((backTo pos (starEach [] X.env)).any (·.1) || (backToKw pos (keywordEach kws X.env)).any (·.1.isNone)) = false := by rfl) :
    PE X (.Call (.Name x p) [] kws pos) (tCallN 0 ks.length sp gV E tNil tk) := by
  constructor
  intro pins s σ H Q I h
  apply wpAny_Call_Name_kw
  apply ld_glob I hg hm _ hdb
  apply PySem.W.callWith_KW0 (h₀ := X.base) I.ok.mod.kin hk hall _ hpl
  refine thn (hkw.run pos pins s σ H _ I h) ?_
  rintro ws s2 ⟨zs, H2, I2, rz, l1, l2, q2⟩
  rw [hks]
  exact ⟨I2.kIn, run_fnN F hr hb hx I2 .nil rz l1 l2 q2⟩
end
theorem kbn_of {K : PySem.W.Frag} {x qual : Str} {st : Stmt} {f : Addr} {fd : FuncData} {ps ks : List Str} {n : Nat} (g : {α : Type} → List α → List α → List α) (F : Fun K x qual st f fd)
    (hrel : ∀ {vs : List V} {us : List Value} {zs : List V} {ws : List Value}, Vals vs us → Vals zs ws → Vals (g vs zs) (g us ws))
    (h : ∀ (kV doc pm : Value) (an : Option Addr) (cdv ct : Value) (us ws : List Value), us.length = n → ws.length = ks.length → bindArgs (PySem.W.fnOf x qual (defArgs st) (defBody st) (defScope st) .none kV doc pm an cdv ct) ⟨us, ks.zip ws⟩ = pure (ps.zip (g us ws))) : KBn K fd ps n ks g g := by
  obtain ⟨oc, od, kV, doc, pm, an, cdv, ct, osl, rfl, lk, hcd⟩ := F.ex
  exact ⟨fun s us ws _ l1 l2 => .of_eq (h kV doc pm an cdv ct us ws l1 l2), hrel⟩
/-- first the values, then the names' -/
def gA : {α : Type} → List α → List α → List α := fun us ws => us ++ ws
theorem gA_rel {vs : List V} {us : List Value} {zs : List V} {ws : List Value} (a : Vals vs us) (b : Vals zs ws) : Vals (gA vs zs) (gA us ws) := a.append b
/-! ### numbers -/
theorem bd_sum {n : Nat} : ∀ {qs : List Rat}, (∀ q ∈ qs, Bd n q) → Bd ((n + 1) * qs.length + 1) qs.sum
  | [], _ => ⟨by show (0 : Int).natAbs < 2 ^ 1; decide, by show 1 < 2 ^ 1; decide⟩
  | q :: qs, h => by
    rw [List.sum_cons, List.length_cons]
    exact (Fr.bd_add (h q (List.mem_cons_self ..)) (bd_sum fun x hx => h x (List.mem_cons_of_mem _ hx))).mono (by rw [Nat.mul_succ]; omega)
theorem frn_get {K : PySem.W.Frag} {H : Hp} {n : Nat} {cs : List V} {qs : List Rat} (h : FrN K H n cs qs) {i : Nat} {q : Rat} (e : qs[i]? = some q) : ∃ a, cs[i]? = some (.ref a) ∧ SqT K H a (rp q) ∧ Bd n q := by
  have hi : i < cs.length := by
    rw [h.len]
    exact (List.getElem?_eq_some_iff.mp e).1
  obtain ⟨a, q', e1, e2, e3, e4⟩ := h.at_ i _ (List.getElem?_eq_getElem hi)
  rw [e] at e1
  cases e1
  exact ⟨a, by rw [List.getElem?_eq_getElem hi, e2], e3, e4⟩
theorem frn_bd {K : PySem.W.Frag} {H : Hp} {n : Nat} {cs : List V} {qs : List Rat} (h : FrN K H n cs qs) : ∀ q ∈ qs, Bd n q := fun q hq => by
  obtain ⟨i, hi, e⟩ := List.getElem_of_mem hq
  obtain ⟨_, _, _, b⟩ := frn_get h (show qs[i]? = some q by rw [List.getElem?_eq_getElem hi, e])
  exact b
theorem lt_iff' (a b : Rat) : decide (a.num * b.den < b.num * a.den) = decide (a < b) := by
  have := Rat.lt_iff a b
  simp only [this]
/-! ### what deeds are worth -/
def prods (rss : List (List Rat)) (ws : List Rat) (d : Nat) : List Rat := List.zipWith (fun w r => w * r.getD d 0) ws rss
def wq (rss : List (List Rat)) (ws : List Rat) (d : Nat) : Rat := (prods rss ws d).sum
theorem prods_at {rss : List (List Rat)} {ws : List Rat} {d i : Nat} {q : Rat} {r : List Rat} (h1 : ws[i]? = some q) (h2 : rss[i]? = some r) : (prods rss ws d)[i]? = some (q * r.getD d 0) := by
  unfold prods
  rw [List.getElem?_zipWith, h1, h2]
theorem prods_len {rss : List (List Rat)} {ws : List Rat} {d : Nat} (h : ws.length = rss.length) : (prods rss ws d).length = ws.length := by
  unfold prods
  rw [List.length_zipWith]
  omega
/-- a table of gains by weights -/
def spWorth (K : PySem.W.Frag) : Sp := fun vs H Q _ => ∃ (a b : Addr) (d : Nat) (rs : List Addr) (rss : List (List Rat)) (cs : List V) (ws : List Rat) (n m dd : Nat), vs = [.ref a, .ref b, .int (d : Int)] ∧ RwL K H a rs rss n ∧ SqL K H b cs ∧ FrN K H m cs ws ∧ ws.length = rss.length ∧ rss.length ≤ 5 ∧ (∀ r ∈ rss, r.length = dd) ∧ d < dd ∧ n ≤ 280 ∧ m ≤ 280 ∧
  ∀ p H', Same H H' → SqT K H' p (rp (wq rss ws d)) → Bd ((n + m + 1) * 5 + 1) (wq rss ws d) → Q (.ref p) H'
theorem bd_wq {K : PySem.W.Frag} {H : Hp} {a : Addr} {rs : List Addr} {rss : List (List Rat)} {cs : List V} {ws : List Rat} {n m d : Nat} (h1 : RwL K H a rs rss n) (h2 : FrN K H m cs ws) (hd : ∀ r ∈ rss, d < r.length) (hl : ws.length = rss.length) (h5 : rss.length ≤ 5) : (∀ q ∈ prods rss ws d, Bd (n + m) q) ∧ Bd ((n + m + 1) * 5 + 1) (wq rss ws d) := by
  have hb : ∀ q ∈ prods rss ws d, Bd (n + m) q := fun q hq => by
    unfold prods at hq
    obtain ⟨i, hi, e⟩ := List.getElem_of_mem hq
    rw [List.length_zipWith] at hi
    have hw : i < ws.length := by omega
    have hr : i < rss.length := by omega
    have e2 : (List.zipWith (fun w r => w * r.getD d 0) ws rss)[i]? = some (ws[i] * rss[i].getD d 0) := prods_at (List.getElem?_eq_getElem hw) (List.getElem?_eq_getElem hr)
    have eq : q = ws[i] * rss[i].getD d 0 := by
      rw [← e]
      have := List.getElem?_eq_some_iff.mp e2
      exact this.2
    rw [eq]
    have b1 := frn_bd h2 ws[i] (List.getElem_mem hw)
    have hrs : i < rs.length := by rw [h1.2.1]; exact hr
    obtain ⟨cs', qs, f1, f2, f3⟩ := h1.2.2 i rs[i] (List.getElem?_eq_getElem hrs)
    rw [List.getElem?_eq_getElem hr] at f1
    cases f1
    have hdl := hd rss[i] (List.getElem_mem hr)
    have b2 : Bd n (rss[i].getD d 0) := by
      rw [List.getD_eq_getElem?_getD, List.getElem?_eq_getElem hdl]
      exact frn_bd f3 _ (List.getElem_mem hdl)
    exact (Fr.bd_mul b1 b2).mono (by omega)
  refine ⟨hb, (bd_sum hb).mono ?_⟩
  have : (prods rss ws d).length ≤ 5 := by rw [prods_len hl]; omega
  have := Nat.mul_le_mul_left (n + m + 1) this
  omega
/-! ### the greatest -/
def spGreatest (K : PySem.W.Frag) : Sp := fun vs H Q _ => ∃ (a : Addr) (cs : List V) (qs : List Rat) (n : Nat), vs = [.ref a] ∧ SqL K H a cs ∧ FrN K H n cs qs ∧ qs ≠ [] ∧ n ≤ 4400 ∧
  ∀ (i : Nat) (p : Addr) (q : Rat), cs[i]? = some (.ref p) → qs[i]? = some q → SqT K H p (rp q) → (∀ x ∈ qs, x ≤ q) → Q (.ref p) H
/-! ### good things alone -/
def spWithin : Sp := fun vs H Q _ => ∃ i lo hi : Int, vs = [.int i, .int lo, .int hi] ∧ Q (.bl (decide (lo ≤ i) && decide (i ≤ hi))) H
def spWholeI : Sp := fun vs H Q _ => ∃ i : Int, vs = [.int i] ∧ Q (.bl true) H
def spShare (K : PySem.W.Frag) : Sp := fun vs H Q _ => ∃ (a : Addr) (q : Rat), vs = [.ref a] ∧ SqT K H a (rp q) ∧ 0 ≤ q ∧ Q (.bl true) H
def spListOf (K : PySem.W.Frag) : Sp := fun vs H Q _ => ∃ (a : Addr) (xs : List V) (lo hi : Int), vs = [.ref a, .int lo, .int hi] ∧ H a = some (.lst xs) ∧ Q (.bl (decide (lo ≤ (xs.length : Int)) && decide ((xs.length : Int) ≤ hi))) H
def spShRow (K : PySem.W.Frag) : Sp := fun vs H Q _ => ∃ (r : Addr) (cs : List V) (qs : List Rat) (n m : Nat) (lo hi : Int), vs = [.ref r, .int lo, .int hi] ∧ H r = some (.lst cs) ∧ FrN K H n cs qs ∧ RowOk m qs ∧ m ≤ 30 ∧ n ≤ 280 ∧ lo ≤ (m : Int) ∧ (m : Int) ≤ hi ∧ ∀ H', Same H H' → Q (.bl true) H'
def spWrong (K : PySem.W.Frag) (fR : Addr) : Sp := fun vs H Q _ => ∃ (a : Addr) (rs : List Addr) (rss : List (List Rat)) (n m : Nat), vs = [.ref a, .ref fR, .int 1, .int 30] ∧ RwL K H a rs rss n ∧ Good rss m ∧ n ≤ 280 ∧ ∀ H', Same H H' → Q .non H'
section
variable {P : Program} {w : World} {K : PySem.W.Frag} {mg : Str → Option Value} {base : Heap} {k : Nat} {f : Addr} {fd : FuncData} {ps : List Str}
theorem wholeI (F : FnOk P w K mg base CX0 k f fd ps (spWholeZ K)) : FnOk P w K mg base CX0 k f fd ps spWholeI := less F fun vs H Q E ⟨i, e, q⟩ => ⟨fun _ => False, .int i, .int i, e, .int i, q⟩
theorem shareG (F : FnOk P w K mg base CX0 k f fd ps (spShareZ K)) : FnOk P w K mg base CX0 k f fd ps (spShare K) := less F fun vs H Q E ⟨a, r, e, ha, h0, q⟩ => ⟨fun _ => False, .ref a, dR r, e, dz_dR ha, by
  rw [shD_dR, decide_eq_true (Rat.num_nonneg.mpr h0)]
  exact q⟩
end
/-! ### what a case tells -/
def spCWorlds (K : PySem.W.Frag) (C : Addr) : Sp := fun vs H Q _ => ∃ (x : Addr) (qs : List Rat) (hss tss : List (List Rat)) (n : Nat), vs = [.ref x] ∧ IsCase K H C x qs hss tss n ∧ Q (.int (qs.length : Int)) H
def spCDeeds (K : PySem.W.Frag) (C : Addr) : Sp := fun vs H Q _ => ∃ (x : Addr) (qs : List Rat) (hss tss : List (List Rat)) (n ww dd : Nat), vs = [.ref x] ∧ IsCase K H C x qs hss tss n ∧ GoodC qs hss tss ww dd ∧ Q (.int (dd : Int)) H
def spCShares (K : PySem.W.Frag) (C : Addr) : Sp := fun vs H Q _ => ∃ (x : Addr) (qs : List Rat) (hss tss : List (List Rat)) (n : Nat), vs = [.ref x] ∧ IsCase K H C x qs hss tss n ∧ ∀ p cs, H p = none → FrN K H n cs qs → Q (.ref p) (upd H p (.lst cs))
def spCHearer (K : PySem.W.Frag) (C : Addr) : Sp := fun vs H Q _ => ∃ (x : Addr) (qs : List Rat) (hss tss : List (List Rat)) (n : Nat), vs = [.ref x] ∧ IsCase K H C x qs hss tss n ∧ hss.length ≤ 100 ∧ ∀ D rs H', Fresh K H H' D rs hss n → Q (.ref D) H'
def spCTeller (K : PySem.W.Frag) (C : Addr) : Sp := fun vs H Q _ => ∃ (x : Addr) (qs : List Rat) (hss tss : List (List Rat)) (n : Nat), vs = [.ref x] ∧ IsCase K H C x qs hss tss n ∧ tss.length ≤ 100 ∧ ∀ D rs H', Fresh K H H' D rs tss n → Q (.ref D) H'
structure CaM (K : PySem.W.Frag) (C fW fD fS fH fT : Addr) : Prop where
  mW : Meth K C "worlds" fW
  mD : Meth K C "deeds" fD
  mS : Meth K C "shares" fS
  mH : Meth K C "hearer" fH
  mT : Meth K C "teller" fT
/-! ### deeds -/
/-- the best deeds -/
def bestL (hss : List (List Rat)) (ws : List Rat) (dd : Nat) : List Nat := (List.range dd).filter fun d => decide (∀ e, e < dd → wq hss ws e ≤ wq hss ws d)
/-- a case and weights for it -/
structure Wts (K : PySem.W.Frag) (H : Hp) (C x b : Addr) (qs : List Rat) (hss tss : List (List Rat)) (ws : List Rat) (n m ww dd : Nat) : Prop where
  c : IsCase K H C x qs hss tss n
  g : GoodC qs hss tss ww dd
  b : ∃ cs, H b = some (.lst cs) ∧ FrN K H m cs ws
  l : ws.length = ww
  hn : n ≤ 280
  hm : m ≤ 280
theorem Wts.same {K : PySem.W.Frag} {H H' : Hp} {C x b : Addr} {qs : List Rat} {hss tss : List (List Rat)} {ws : List Rat} {n m ww dd : Nat} (h : Wts K H C x b qs hss tss ws n m ww dd) (s : Same H H') : Wts K H' C x b qs hss tss ws n m ww dd :=
  let ⟨cs, e1, e2⟩ := h.b
  ⟨h.c.same s, h.g, ⟨cs, s _ _ e1, e2.same s⟩, h.l, h.hn, h.hm⟩
def spChkB (K : PySem.W.Frag) (C : Addr) : Sp := fun vs H Q _ => ∃ (x b : Addr) (qs : List Rat) (hss tss : List (List Rat)) (ws : List Rat) (n m ww dd : Nat), vs = [.ref x, .ref b] ∧ Wts K H C x b qs hss tss ws n m ww dd ∧ RowOk ww ws ∧ ∀ H', Same H H' → Q .non H'
/-- a list of deeds, as values -/
def dsV (l : List Nat) : List V := l.map fun (d : Nat) => V.int (d : Int)
def spBestBy (K : PySem.W.Frag) (C : Addr) : Sp := fun vs H Q _ => ∃ (x b : Addr) (qs : List Rat) (hss tss : List (List Rat)) (ws : List Rat) (n m ww dd : Nat), vs = [.ref x, .ref b] ∧ Wts K H C x b qs hss tss ws n m ww dd ∧ ∀ p H', Same H H' → SqT K H' p (dsV (bestL hss ws dd)) → Q (.ref p) H'
def spBest (K : PySem.W.Frag) (C : Addr) : Sp := fun vs H Q _ => ∃ (x b : Addr) (qs : List Rat) (hss tss : List (List Rat)) (ws : List Rat) (n m ww dd : Nat), vs = [.ref x, .ref b] ∧ Wts K H C x b qs hss tss ws n m ww dd ∧ RowOk ww ws ∧ ∀ p H', Same H H' → SqT K H' p (dsV (bestL hss ws dd)) → Q (.ref p) H'
def spWorths (K : PySem.W.Frag) (C : Addr) : Sp := fun vs H Q _ => ∃ (x b : Addr) (d : Nat) (qs : List Rat) (hss tss : List (List Rat)) (ws : List Rat) (n m ww dd : Nat), vs = [.ref x, .ref b, .int (d : Int)] ∧ Wts K H C x b qs hss tss ws n m ww dd ∧ RowOk ww ws ∧ d < dd ∧
  ∀ p p1 p2 H', Same H H' → SqT K H' p [.ref p1, .ref p2] → SqT K H' p1 (rp (wq hss ws d)) → SqT K H' p2 (rp (wq tss ws d)) → Q (.ref p) H'
/-! ### the greatest of the worths -/
def worthL (hss : List (List Rat)) (ws : List Rat) (dd : Nat) : List Rat := (List.range dd).map (wq hss ws)
theorem worthL_at {hss : List (List Rat)} {ws : List Rat} {dd d : Nat} (h : d < dd) : (worthL hss ws dd)[d]? = some (wq hss ws d) := by
  unfold worthL
  rw [List.getElem?_map, List.getElem?_range h]
  rfl
theorem worthL_len {hss : List (List Rat)} {ws : List Rat} {dd : Nat} : (worthL hss ws dd).length = dd := by
  unfold worthL
  rw [List.length_map, List.length_range]
theorem take_succ_at {α : Type} {l : List α} {i : Nat} {x : α} (h : l[i]? = some x) : l.take (i + 1) = l.take i ++ [x] := by
  rw [List.take_add_one, h]
  rfl
theorem range_take {dd i : Nat} (h : i ≤ dd) : (List.range dd).take i = List.range i := by
  rw [List.take_range, Nat.min_eq_left h]
theorem best_iff {hss : List (List Rat)} {ws : List Rat} {dd d : Nat} {top : Rat} (h1 : top ∈ worthL hss ws dd) (h2 : ∀ x ∈ worthL hss ws dd, x ≤ top) (hd : d < dd) : decide (wq hss ws d = top) = decide (∀ e, e < dd → wq hss ws e ≤ wq hss ws d) := by
  apply decide_eq_decide.mpr
  constructor
  · intro e e' he
    rw [e]
    exact h2 _ (List.mem_of_getElem? (worthL_at he))
  · intro h
    have hle := h2 _ (List.mem_of_getElem? (worthL_at hd))
    obtain ⟨j, hj, e⟩ := List.mem_map.mp h1
    have := h j (List.mem_range.mp hj)
    rw [e] at this
    exact Rat.le_antisymm hle this
theorem best_ne {hss : List (List Rat)} {ws : List Rat} {dd : Nat} {top : Rat} (h1 : top ∈ worthL hss ws dd) (h2 : ∀ x ∈ worthL hss ws dd, x ≤ top) : bestL hss ws dd ≠ [] := by
  intro e
  obtain ⟨j, hj, ej⟩ := List.mem_map.mp h1
  have hj' := List.mem_range.mp hj
  have : j ∈ bestL hss ws dd := by
    unfold bestL
    refine List.mem_filter.mpr ⟨hj, ?_⟩
    rw [← best_iff h1 h2 hj']
    exact decide_eq_true ej
  rw [e] at this
  cases this
end Hr

set_option Elab.async false
set_option linter.all false
set_option maxRecDepth 100000
set_option maxHeartbeats 4000000
namespace Hr
open PySem PySem.Spec PyProof.Rows L2 BX EXB Co Ru
/-- xs + ys, each a list of any standing -/
def rCatS (K : PySem.W.Frag) : R2 := fun x y H Q => ∃ (l b : Addr) (xs zs : List V), x = .ref l ∧ y = .ref b ∧ SqL K H l xs ∧ SqL K H b zs ∧ xs.length + zs.length ≤ sizeLine ∧ ∀ p, H p = none → Q (.ref p) (upd H p (.lst (xs ++ zs)))
theorem op_catS {X : Cx} : OpR X (binaryOp .Add) (rCatS X.K) := by
  rintro pins s σ H x y v u Q I rx ry ⟨l, b, xs, zs, rfl, rfl, hA, hB, hz, q⟩
  cases rx
  cases ry
  obtain ⟨is1, r1, ⟨⟨c1, m1, t1, o1⟩, n1, g1, h1, h1', h1''⟩, _⟩ := I.list hA
  obtain ⟨is2, r2, ⟨⟨c2, m2, t2, o2⟩, n2, g2, h2, h2', h2''⟩, _⟩ := I.list hB
  cases h1
  cases h2
  cases h1''
  cases h2''
  have size : is1.toArray.size + is2.toArray.size ≤ sizeLine := by
    have a1 := r1.length
    have a2 := r2.length
    simp only [List.size_toArray]
    omega
  have go := list_addW l b is1.toArray is2.toArray n1 n2 m1 m2 o1 o2 size
  have k1 : s.TypeIs (.ref l) "list" := ⟨_, g1, rfl⟩
  have k2 : s.TypeIs (.ref b) "list" := ⟨_, g2, rfl⟩
  apply concat_meets k1 k2 noFill_list_add seq_list_add PySem.F.slot_list_add PySem.F.entry_list_add (PySem.F.args_list_add_2 _ _) go
  refine ⟨g1, g2, ?_⟩
  have glue : is1.toArray ++ is2.toArray = (is1 ++ is2).toArray := by simp
  rw [glue]
  have made := I.lnew (t' := s.toks) (r1.append r2) (by rw [List.length_append]; exact hz)
  exact ⟨.ref _, _, made, rfl, q _ I.fresh⟩
end Hr

set_option Elab.async false
set_option linter.all false
set_option maxRecDepth 100000
set_option maxHeartbeats 4000000
namespace Hr
open PySem PySem.Spec PyProof.Rows L2 BX EXB Co Ru
open Dz Cs
open Fr (Bd)
theorem few_dR {n : Nat} {K : PySem.W.Frag} {H : Hp} {cs : List V} {qs : List Rat} (h : FrN K H n cs qs) : Few n (qs.map dR) := fun d hd q e => by
  obtain ⟨r, hr, rfl⟩ := List.mem_map.mp hd
  rw [ratD_dR] at e
  cases e
  obtain ⟨i, hi, e⟩ := List.getElem_of_mem hr
  obtain ⟨a, q', e1, _, _, e4⟩ := h.at_ i (cs[i]'(by rw [h.len]; exact hi)) (List.getElem?_eq_getElem _)
  rw [List.getElem?_eq_getElem hi] at e1
  rw [← e, Option.some.inj e1]
  exact e4
theorem few_rows {n : Nat} {K : PySem.W.Frag} {H : Hp} {rs : List Addr} {rss : List (List Rat)} (h : RowsAt K H n rs rss) : ∀ d ∈ rss.map (fun qs => PyData.list (qs.map dR)), Few n (itemsD d) := fun d hd => by
  obtain ⟨qs, hq, rfl⟩ := List.mem_map.mp hd
  obtain ⟨i, hi, e⟩ := List.getElem_of_mem hq
  have hir : i < rs.length := by rw [h.1]; exact hi
  obtain ⟨cs, qs', e1, _, e3⟩ := h.2 i _ (List.getElem?_eq_getElem hir)
  rw [List.getElem?_eq_getElem hi, e] at e1
  cases (Option.some.inj e1)
  exact few_dR e3
theorem few_mono {n m : Nat} {ds : List PyData} (h : Few n ds) (l : n ≤ m) : Few m ds := fun d hd q e => (h d hd q e).mono l
theorem dRows_inj : ∀ {r1 r2 : List (List Rat)}, dRows r1 = dRows r2 → r1 = r2 := by
  have dRi : ∀ {a b : Rat}, dR a = dR b → a = b := fun {a b} e => by
    have h1 := ratD_dR a
    rw [e, ratD_dR] at h1
    exact (Option.some.inj h1).symm
  intro r1 r2 e
  have e' : (r1.map fun qs => PyData.list (qs.map dR)) = r2.map fun qs => PyData.list (qs.map dR) := by injection e
  refine (List.map_inj_right (fun x y h => ?_)).mp e'
  have h' : x.map dR = y.map dR := by injection h
  exact (List.map_inj_right (fun a b h => dRi h)).mp h'
theorem dS_inj {a b : List Rat} (e : dS a = dS b) : a = b := by
  have h' : a.map dR = b.map dR := by injection e
  refine (List.map_inj_right (fun x y h => ?_)).mp h'
  have h1 := ratD_dR x
  rw [h, ratD_dR] at h1
  exact (Option.some.inj h1).symm
/-- Case(..) of good parts -/
theorem mk_caseN {K : PySem.W.Frag} {n : Nat} (hn : n ≤ 1000) {C CN A B' C' : Addr} {H : Hp} {cs : List V} {rh rt : List Addr} {qs : List Rat} {hss tss : List (List Rat)} {ww dd : Nat} {Q : Addr → Hp → Prop} (e2 : H A = some (.lst cs)) (e3 : FrN K H n cs qs) (e4 : RwL K H B' rh hss n) (e5 : RwL K H C' rt tss n) (g : GoodC qs hss tss ww dd) (q : ∀ x H', Same H H' → H x = none → IsCase K H' C x qs hss tss n → Q x H') :
    ∀ x dx, H x = none → H dx = none → dx ≠ x → spCInit K C CN [.ref x, .ref A, .ref B', .ref C'] (upd (upd H dx (.own x)) x (.ins C dx [])) (fun v H2 => v = .non ∧ Q x H2) E0 := by
  intro x dx hx hdx hne
  have s1 := same_new hdx (.own x)
  have hx1 : (upd H dx (.own x)) x = none := by rw [upd_ne (Ne.symm hne)]; exact hx
  have s2 := s1.trans (same_new hx1 (.ins C dx []))
  refine ⟨fun _ => False, n, x, dx, .ref A, .ref B', .ref C', dS qs, dRows hss, dRows tss, rfl, upd_same, .lst (s2 _ _ e2) (fun z => z) ((frn_dz e3).same s2), .lst (s2 _ _ e4.1) (fun z => z) ((rows_dz e4.2 fun _ _ z => z).same s2), .lst (s2 _ _ e5.1) (fun z => z) ((rows_dz e5.2 fun _ _ z => z).same s2), hn, few_dR e3, few_rows e4.2, few_rows e5.2, fun p r er => ?_, fun _ sa ha ta cs' rh' rt' qs' hss' tss' H' kp hx' g1 g2 g3 g4 i1 i2 i3 => ⟨rfl, ?_⟩⟩
  · rw [badC_good g] at er
    cases er
  · have j1 := dS_inj i1
    have j2 := dRows_inj i2
    have j3 := dRows_inj i3
    subst j1 j2 j3
    exact q x H' (fun b ob e => kp b ob (ne_of_none e hx) (s2 _ _ e)) hx ⟨dx, sa, ha, ta, cs', rh', rt', hx', g1, g2, g3, g4⟩
/-! ### the laws' own helpers -/
def spLSum (K : PySem.W.Frag) : Sp := fun vs H Q _ => ∃ (l : Addr) (cs : List V) (qs : List Rat) (n : Nat), vs = [.ref l] ∧ SqL K H l cs ∧ FrN K H n cs qs ∧ (n + 1) * qs.length + 1 ≤ 8700 ∧ ∀ r H', Same H H' → SqT K H' r (rp qs.sum) → Q (.ref r) H'
/-- new shares, of the digits at l -/
def Shd (K : PySem.W.Frag) (H : Hp) (l : Addr) (m : Nat) (Q : VK) : Prop := ∀ D cs qs z' H', SameB l H H' → H' l = some (.lst [.int z']) → H D = none → D ≠ l → H' D = some (.lst cs) → FrN K H' 8 cs qs → RowOk m qs → Q (.ref D) H'
def spParted (K : PySem.W.Frag) : Sp := fun vs H Q _ => ∃ (l : Addr) (z : Int) (m : Nat) (top : Int), vs = [.ref l, .int (m : Int), .int top] ∧ H l = some (.lst [.int z]) ∧ 1 ≤ m ∧ m ≤ 30 ∧ 1 ≤ top ∧ top ≤ 4 ∧ Shd K H l m Q
def spAllIn (K : PySem.W.Frag) : Sp := fun vs H Q _ => ∃ (l : Addr) (z : Int) (m : Nat), vs = [.ref l, .int (m : Int)] ∧ H l = some (.lst [.int z]) ∧ 1 ≤ m ∧ m ≤ 30 ∧ Shd K H l m Q
def spGain (K : PySem.W.Frag) : Sp := fun vs H Q _ => ∃ (l : Addr) (z : Int), vs = [.ref l] ∧ H l = some (.lst [.int z]) ∧ ∀ p q z' H', SameB l H H' → H' l = some (.lst [.int z']) → SqT K H' p (rp q) → Bd 43 q → Q (.ref p) H'
def spGains (K : PySem.W.Frag) : Sp := fun vs H Q _ => ∃ (l : Addr) (z : Int) (ww dd : Nat), vs = [.ref l, .int (ww : Int), .int (dd : Int)] ∧ H l = some (.lst [.int z]) ∧ ww ≤ 5 ∧ 1 ≤ dd ∧ dd ≤ 6 ∧
  ∀ D rs rss z' H', New K H H' l D rs rss 43 → D ≠ l → H' l = some (.lst [.int z']) → rss.length = ww → (∀ r ∈ rss, r.length = dd) → Q (.ref D) H'
/-- a case's parts, in a tuple -/
def PartsT (K : PySem.W.Frag) (H : Hp) (P : Addr) (qs : List Rat) (hss tss : List (List Rat)) (n : Nat) : Prop := ∃ (A B C : Addr) (cs : List V) (rh rt : List Addr), SqT K H P [.ref A, .ref B, .ref C] ∧ H A = some (.lst cs) ∧ FrN K H n cs qs ∧ RwL K H B rh hss n ∧ RwL K H C rt tss n
theorem PartsT.same {K : PySem.W.Frag} {H H' : Hp} {P : Addr} {qs : List Rat} {hss tss : List (List Rat)} {n : Nat} (h : PartsT K H P qs hss tss n) (s : Same H H') : PartsT K H' P qs hss tss n :=
  let ⟨A, B, C, cs, rh, rt, e1, e2, e3, e4, e5⟩ := h; ⟨A, B, C, cs, rh, rt, seqT s e1, s _ _ e2, e3.same s, e4.same s, e5.same s⟩
theorem frn_ne {K : PySem.W.Frag} {H : Hp} {n : Nat} {a l : Addr} {z : Int} {cs : List V} {qs : List Rat} (h : FrN K H n cs qs) (ha : H a = some (.lst cs)) (hl : H l = some (.lst [.int z])) : a ≠ l := fun e => by
  rw [e, hl] at ha
  cases ha
  exact Lw.frn_num h
theorem PartsT.but {K : PySem.W.Frag} {H H' : Hp} {P l : Addr} {z : Int} {qs : List Rat} {hss tss : List (List Rat)} {n : Nat} (h : PartsT K H P qs hss tss n) (hl : H l = some (.lst [.int z])) (s : SameB l H H') : PartsT K H' P qs hss tss n :=
  let ⟨A, B, C, cs, rh, rt, e1, e2, e3, e4, e5⟩ := h; ⟨A, B, C, cs, rh, rt, s.tup hl _ _ e1, s _ _ (frn_ne e3 e2 hl) e2, e3.keep (s.tup hl), Rs.RwL.keepB e4 hl s, Rs.RwL.keepB e5 hl s⟩
theorem IsCase.but {K : PySem.W.Frag} {H H' : Hp} {C x l : Addr} {z : Int} {qs : List Rat} {hss tss : List (List Rat)} {n : Nat} (h : IsCase K H C x qs hss tss n) (hl : H l = some (.lst [.int z])) (s : SameB l H H') : IsCase K H' C x qs hss tss n :=
  let ⟨dx, sa, ha, ta, cs, rh, rt, e1, e2, e3, e4, e5⟩ := h; ⟨dx, sa, ha, ta, cs, rh, rt, s _ _ (ne_of e1 hl (by intro w; cases w)) e1, s _ _ (frn_ne e3 e2 hl) e2, e3.keep (s.tup hl), Rs.RwL.keepB e4 hl s, Rs.RwL.keepB e5 hl s⟩
def spParts (K : PySem.W.Frag) : Sp := fun vs H Q _ => ∃ (l : Addr) (z : Int) (ww dd : Nat), vs = [.ref l, .int (ww : Int), .int (dd : Int)] ∧ H l = some (.lst [.int z]) ∧ 1 ≤ ww ∧ ww ≤ 5 ∧ 1 ≤ dd ∧ dd ≤ 6 ∧
  ∀ P qs hss tss z' H', SameB l H H' → H' l = some (.lst [.int z']) → PartsT K H' P qs hss tss 43 → GoodC qs hss tss ww dd → Q (.ref P) H'
theorem New.setRow {K : PySem.W.Frag} {H0 H : Hp} {ex D r : Addr} {rs : List Addr} {rss : List (List Rat)} {n i : Nat} {ys cs : List V} {qs : List Rat} (h : New K H0 H ex D rs rss n) (hr : rs[i]? = some r) (hr0 : H r = some (.lst ys)) (hf : FrN K H n cs qs) : New K H0 (upd H r (.lst cs)) ex D rs (rss.set i qs) n := by
  have hm := List.mem_of_getElem? hr
  have sr : SameB r H (upd H r (.lst cs)) := SameB.upd
  refine ⟨by rw [upd_ne (fun e => h.ne (by rw [e]; exact hm))]; exact h.at_, h.nd, h.ne, h.fresh, h.fD, h.nx, fun b o hb e => ?_, by rw [List.length_set]; exact h.rows.1, fun j x ex => ?_⟩
  · rw [upd_ne (ne_of_none e (h.fresh r hm))]
    exact h.keep b o hb e
  · by_cases hij : i = j
    · subst hij
      rw [hr] at ex
      cases ex
      refine ⟨cs, qs, ?_, upd_same, hf.keep (sr.tup hr0)⟩
      have hi : i < rss.length := by
        rw [← h.rows.1]
        exact (List.getElem?_eq_some_iff.mp hr).1
      rw [List.getElem?_set_self hi]
    · obtain ⟨cs', qs', f1, f2, f3⟩ := h.rows.2 j x ex
      have hne : x ≠ r := fun e => by
        subst e
        obtain ⟨a1, a2⟩ := List.getElem?_eq_some_iff.mp hr
        obtain ⟨b1, b2⟩ := List.getElem?_eq_some_iff.mp ex
        have pw := List.pairwise_iff_getElem.mp h.nd
        rcases Nat.lt_or_gt_of_ne hij with z | z
        · exact pw i j a1 b1 z (a2.trans b2.symm)
        · exact pw j i b1 a1 z (b2.trans a2.symm)
      exact ⟨cs', qs', by rw [List.getElem?_set_ne hij]; exact f1, by rw [upd_ne hne]; exact f2, f3.keep (sr.tup hr0)⟩
theorem tabA {w d : Int} (h0 : 0 ≤ d) (h5 : d < 5) : ∃ v : Int, atI [V.int 1, V.int 1, V.int 1, V.int 1, V.int w] d = some (V.int v) ∧ (v = 1 ∨ v = w) := by
  have : d = 0 ∨ d = 1 ∨ d = 2 ∨ d = 3 ∨ d = 4 := by omega
  rcases this with rfl | rfl | rfl | rfl | rfl
  · exact ⟨1, atI_nat (j := 0) rfl, .inl rfl⟩
  · exact ⟨1, atI_nat (j := 1) rfl, .inl rfl⟩
  · exact ⟨1, atI_nat (j := 2) rfl, .inl rfl⟩
  · exact ⟨1, atI_nat (j := 3) rfl, .inl rfl⟩
  · exact ⟨w, atI_nat (j := 4) rfl, .inr rfl⟩
theorem tabB {w d : Int} (h0 : 0 ≤ d) (h5 : d < 6) : ∃ v : Int, atI [V.int 1, V.int 1, V.int 1, V.int 2, V.int 3, V.int w] d = some (V.int v) ∧ (v = 1 ∨ v = 2 ∨ v = 3 ∨ v = w) := by
  have : d = 0 ∨ d = 1 ∨ d = 2 ∨ d = 3 ∨ d = 4 ∨ d = 5 := by omega
  rcases this with rfl | rfl | rfl | rfl | rfl | rfl
  · exact ⟨1, atI_nat (j := 0) rfl, .inl rfl⟩
  · exact ⟨1, atI_nat (j := 1) rfl, .inl rfl⟩
  · exact ⟨1, atI_nat (j := 2) rfl, .inl rfl⟩
  · exact ⟨2, atI_nat (j := 3) rfl, .inr (.inl rfl)⟩
  · exact ⟨3, atI_nat (j := 4) rfl, .inr (.inr (.inl rfl))⟩
  · exact ⟨w, atI_nat (j := 5) rfl, .inr (.inr (.inr rfl))⟩
/-- the law's own best deeds -/
def spLBest (K : PySem.W.Frag) : Sp := fun vs H Q _ => ∃ (a b : Addr) (rs : List Addr) (rss : List (List Rat)) (cs : List V) (ws : List Rat) (n m dd : Nat), vs = [.ref a, .ref b] ∧ RwL K H a rs rss n ∧ SqL K H b cs ∧ FrN K H m cs ws ∧ ws.length = rss.length ∧ 1 ≤ rss.length ∧ rss.length ≤ 5 ∧ (∀ r ∈ rss, r.length = dd) ∧ 1 ≤ dd ∧ dd ≤ 6 ∧ n ≤ 280 ∧ m ≤ 280 ∧
  ∀ p H', Same H H' → H' p = some (.lst (dsV (bestL rss ws dd))) → H p = none → Q (.ref p) H'
theorem any_map {α : Type} (p : α → Bool) (l : List α) : (l.map p).any id = l.any p := by
  induction l with
  | nil => rfl
  | cons x l ih => rw [List.map_cons, List.any_cons, List.any_cons, ih]; rfl
theorem best_any {hss : List (List Rat)} {ws : List Rat} {dd d : Nat} : (!(worthL hss ws dd).any fun x => decide (wq hss ws d < x)) = decide (∀ e, e < dd → wq hss ws e ≤ wq hss ws d) := by
  by_cases h : ∀ e, e < dd → wq hss ws e ≤ wq hss ws d
  · rw [decide_eq_true h, Bool.not_eq_true']
    rw [List.any_eq_false]
    intro x hx
    obtain ⟨e, he, rfl⟩ := List.mem_map.mp hx
    rw [decide_eq_true_eq]
    exact Rat.not_lt.mpr (h e (List.mem_range.mp he))
  · rw [decide_eq_false h]
    have : ∃ e, e < dd ∧ ¬ wq hss ws e ≤ wq hss ws d := by
      apply Classical.byContradiction
      intro z
      exact h fun e he => Classical.byContradiction fun y => z ⟨e, he, y⟩
    obtain ⟨e, he, hn⟩ := this
    have ha : (worthL hss ws dd).any (fun x => decide (wq hss ws d < x)) = true := List.any_eq_true.mpr ⟨wq hss ws e, List.mem_of_getElem? (worthL_at he), decide_eq_true (Rat.not_le.mp hn)⟩
    rw [ha]
    rfl
def spLBel (K : PySem.W.Frag) : Sp := fun vs H Q _ => ∃ (l P : Addr) (z : Int) (qs : List Rat) (hss tss : List (List Rat)) (n m : Nat), vs = [.ref l, .ref P] ∧ H l = some (.lst [.int z]) ∧ PartsT K H P qs hss tss n ∧ qs.length = m ∧ 1 ≤ m ∧ m ≤ 5 ∧ Shd K H l m Q
def spRight (K : PySem.W.Frag) (C : Addr) : Sp := fun vs H Q _ => ∃ (P x b : Addr) (qs : List Rat) (hss tss : List (List Rat)) (ws : List Rat) (cs : List V) (n m ww dd : Nat), vs = [.ref P, .ref x, .ref b] ∧ PartsT K H P qs hss tss n ∧ IsCase K H C x qs hss tss n ∧ GoodC qs hss tss ww dd ∧ H b = some (.lst cs) ∧ FrN K H m cs ws ∧ RowOk ww ws ∧ n ≤ 280 ∧ m ≤ 280 ∧ ∀ H', Same H H' → Q (.bl true) H'
/-! ### data -/
theorem ds_dp {K : PySem.W.Frag} {H : Hp} : ∀ l : List Nat, DpAll K H (dsV l) (l.map fun (d : Nat) => PyData.int (d : Int))
  | [] => .nil
  | d :: l => .cons (.int _) (ds_dp l)
theorem ds_lay : ∀ l : List Nat, PyData.canLayAll0 (l.map fun (d : Nat) => PyData.int (d : Int)) = true
  | [] => rfl
  | d :: l => ds_lay l
theorem ds_dep : ∀ l : List Nat, PyData.depthAll (l.map fun (d : Nat) => PyData.int (d : Int)) = 0
  | [] => rfl
  | d :: l => by
    show max 0 (PyData.depthAll (l.map fun (d : Nat) => PyData.int (d : Int))) = 0
    rw [ds_dep l]
    rfl
abbrev dDs (l : List Nat) : PyData := .tuple (l.map fun (d : Nat) => PyData.int (d : Int))
theorem dDs_lay (l : List Nat) : (dDs l).canLay0 = true := ds_lay l
theorem dDs_sh (l : List Nat) : SeqAt.shaped (dDs l) = true := by
  unfold SeqAt.shaped
  rw [dDs_lay, Bool.true_and]
  refine decide_eq_true ?_
  show PyData.depthAll (l.map fun (d : Nat) => PyData.int (d : Int)) + 1 ≤ 64
  rw [ds_dep]
  decide
abbrev d2R (a b : Rat) : PyData := .tuple [dR a, dR b]
theorem d2_lay (a b : Rat) : (d2R a b).canLay0 = true := rfl
theorem d2_sh (a b : Rat) : SeqAt.shaped (d2R a b) = true := rfl
theorem d2_dp {K : PySem.W.Frag} {H : Hp} {p p1 p2 : Addr} {a b : Rat} (h : SqT K H p [.ref p1, .ref p2]) (h1 : SqT K H p1 (rp a)) (h2 : SqT K H p2 (rp b)) : Dp K H (.ref p) (d2R a b) := .tup h (.cons (dp_r h1) (.cons (dp_r h2) .nil))
theorem not_bool {K : PySem.W.Frag} {H : Hp} {i : Int} : TyX K H (.int i) (.type "int") := .base (.int _)
theorem cut_int {ns : List Int} {c : Int} {lo hi : Option Int} {i : Nat} {x : V} (h : (cutV (ns.map V.int ++ [V.int c]) lo hi)[i]? = some x) : ∃ c, x = .int c := by
  have := cut_mem (List.mem_of_getElem? h)
  rcases List.mem_append.mp this with h | h
  · obtain ⟨y, _, rfl⟩ := List.mem_map.mp h
    exact ⟨y, rfl⟩
  · exact ⟨c, List.mem_singleton.mp h⟩
end Hr

set_option Elab.async false
set_option linter.all false
set_option maxRecDepth 100000
set_option maxHeartbeats 4000000
namespace Gs
open PySem PySem.Spec PyProof.Rows L2 BX EXB Co Ru
open Dz Cs Hr
open Fr (Bd)
/-- what stands for good (G) among all that stands (H): no list that changes, all tuples -/
structure Frz (K : PySem.W.Frag) (G H : Hp) : Prop where
  s : Same G H
  t : ∀ a xs, SqT K H a xs → SqT K G a xs
/-- G and all that came between H and H' -/
def ext (G H H' : Hp) : Hp := fun a => match H a with | none => H' a | some _ => G a
section
variable {K : PySem.W.Frag} {G H H' H1 H2 : Hp} {a T : Addr} {xs : List V}
theorem ext_new (h : H a = none) : ext G H H' a = H' a := by unfold ext; rw [h]
theorem ext_old {u : HO} (h : H a = some u) : ext G H H' a = G a := by unfold ext; rw [h]
theorem Same.ext (s : Same G H) : Same G (ext G H H') := fun b u e => by rw [ext_old (s _ _ e)]; exact e
theorem ext_same (s : Same G H) (s' : Same G H') : Same (Gs.ext G H H') H' := fun b u e => by
  cases h : H b with
  | none => rw [ext_new h] at e; exact e
  | some w => rw [ext_old h] at e; exact s' _ _ e
/-- what was there and did not stand for good doesn't now -/
theorem ext_off {u : HO} (h : H a = some u) (g : G a = none) : Gs.ext G H H' a = none := by rw [ext_old h]; exact g
/-- the frame grows -/
theorem Frz.grow (f : Frz K G H) (s' : Same G H') (k : ∀ a xs, H a ≠ none → SqT K H' a xs → SqT K H a xs) : Frz K (Gs.ext G H H') H' := ⟨ext_same f.s s', fun a xs z => by
  cases h : H a with
  | none =>
    rcases z with (z | ⟨o, z⟩) | z
    · exact .inl (.inl (by rw [ext_new h]; exact z))
    · exact .inl (.inr ⟨o, by rw [ext_new h]; exact z⟩)
    · exact .inr z
  | some u =>
    have := f.t a xs (k a xs (by rw [h]; exact fun e => by cases e) z)
    rcases this with (z | ⟨o, z⟩) | z
    · exact .inl (.inl (by rw [ext_old h]; exact z))
    · exact .inl (.inr ⟨o, by rw [ext_old h]; exact z⟩)
    · exact .inr z⟩
theorem tup_back (s : Same H H') (n : H a ≠ none) (z : SqT K H' a xs) : SqT K H a xs := by
  cases h : H a with
  | none => exact absurd h n
  | some u =>
    have e := s _ _ h
    rcases z with (z | ⟨o, z⟩) | z
    · exact .inl (.inl (by rw [h, ← e]; exact z))
    · exact .inl (.inr ⟨o, by rw [h, ← e]; exact z⟩)
    · exact .inr z
theorem Frz.more (f : Frz K G H) (s : Same H H') : Frz K (Gs.ext G H H') H' := f.grow (f.s.trans s) fun _ _ n z => tup_back s n z
/-- at T stands a list or a mind now: no tuple -/
theorem Frz.but (f : Frz K G H) (g : G T = none) (s : SameB T H H') (nt : ∀ xs, SqT K H' T xs → SqT K H T xs) : Frz K (Gs.ext G H H') H' := f.grow (fun b u e => s _ _ (ne_of_none e g) (f.s _ _ e)) fun b xs n z => by
  by_cases c : b = T
  · rw [c] at z ⊢; exact nt xs z
  · cases h : H b with
    | none => exact absurd h n
    | some u =>
      have e := s _ _ c h
      rcases z with (z | ⟨o, z⟩) | z
      · exact .inl (.inl (by rw [h, ← e]; exact z))
      · exact .inl (.inr ⟨o, by rw [h, ← e]; exact z⟩)
      · exact .inr z
theorem ext_ext (s : Same H H1) (s2 : Same H1 H2) : Gs.ext (Gs.ext G H H1) H1 H2 = Gs.ext G H H2 := by
  funext a
  cases h1 : H1 a with
  | none => rw [ext_new h1, ext_new (s.free h1)]
  | some u =>
    rw [ext_old h1]
    cases h : H a with
    | none => rw [ext_new h, ext_new h, h1, s2 _ _ h1]
    | some w => rw [ext_old h, ext_old h]
theorem frn_ext {n : Nat} {cs : List V} {qs : List Rat} (f : Frz K (Gs.ext G H H') H') (h : FrN K H' n cs qs) : FrN K (Gs.ext G H H') n cs qs := h.keep f.t
theorem rwl_ext {n : Nat} {l : Addr} {rs : List Addr} {rss : List (List Rat)} (f : Frz K (Gs.ext G H H') H') (h : RwL K H' l rs rss n) (nl : H l = none) (nr : ∀ r ∈ rs, H r = none) : RwL K (Gs.ext G H H') l rs rss n :=
  ⟨by rw [ext_new nl]; exact h.1, h.2.1, fun j r e => let ⟨c, q, a, b, d⟩ := h.2.2 j r e; ⟨c, q, a, by rw [ext_new (nr r (List.mem_of_getElem? e))]; exact b, frn_ext f d⟩⟩
/-- G and all that came between H and H', but lists -/
def extT (G H H' : Hp) : Hp := fun a => match H a with | none => (match H' a with | some (.lst _) => none | o => o) | some _ => G a
theorem extT_old {u : HO} (h : H a = some u) : extT G H H' a = G a := by unfold extT; rw [h]
theorem extT_list (g : G a = none) (h' : H' a = some (.lst xs)) : extT G H H' a = none := by
  unfold extT
  cases h : H a with
  | none => simp only [h']
  | some u => exact g
theorem extT_off {u : HO} (h : H a = some u) (g : G a = none) : extT G H H' a = none := by rw [extT_old h]; exact g
theorem Same.extT (s : Same G H) : Same G (Gs.extT G H H') := fun b u e => by rw [extT_old (s _ _ e)]; exact e
theorem extT_same (s : Same G H) (s' : Same H H') : Same (Gs.extT G H H') H' := fun b u e => by
  cases h : H b with
  | none =>
    unfold Gs.extT at e
    rw [h] at e
    dsimp only at e
    split at e
    · cases e
    · exact e
  | some w => rw [extT_old h] at e; exact s' _ _ (s _ _ e)
theorem Frz.skip (f : Frz K G H) (s : Same H H') : Frz K (Gs.extT G H H') H' := ⟨extT_same f.s s, fun a xs z => by
  cases h : H a with
  | none =>
    have e : ∀ o, H' a = some o → (∀ ys, o ≠ .lst ys) → Gs.extT G H H' a = some o := fun o eo n => by
      unfold Gs.extT
      rw [h]
      dsimp only
      rw [eo]
      split
      · rename_i w; exact absurd (Option.some.inj w) (n _)
      · rfl
    rcases z with (z | ⟨o, z⟩) | z
    · exact .inl (.inl (e _ z (by intro ys w; cases w)))
    · exact .inl (.inr ⟨o, e _ z (by intro ys w; cases w)⟩)
    · exact .inr z
  | some u =>
    have := f.t a xs (tup_back s (by rw [h]; exact fun e => by cases e) z)
    rcases this with (z | ⟨o, z⟩) | z
    · exact .inl (.inl (by rw [extT_old h]; exact z))
    · exact .inl (.inr ⟨o, by rw [extT_old h]; exact z⟩)
    · exact .inr z⟩
/-- all stands for good -/
theorem Frz.all : Frz K H H := ⟨Same.refl _, fun _ _ z => z⟩
/-- all stands for good but the list at T -/
def less (T : Addr) (H : Hp) : Hp := fun a => if a = T then none else H a
theorem less_at : less T H T = none := if_pos rfl
theorem less_ne (n : a ≠ T) : less T H a = H a := if_neg n
theorem less_same : Same (less T H) H := fun b u e => by
  by_cases c : b = T
  · rw [c, less_at] at e; cases e
  · rw [less_ne c] at e; exact e
theorem same_less : SameB T H (less T H) := fun b u n e => by rw [less_ne n]; exact e
theorem Frz.cut {ys : List V} (h : H T = some (.lst ys)) : Frz K (less T H) H := ⟨less_same, fun a xs z => by
  by_cases c : a = T
  · rw [c] at z
    rcases z with (z | ⟨o, z⟩) | z
    · rw [h] at z; cases z
    · rw [h] at z; cases z
    · exact .inr (by rw [c]; exact z)
  · rcases z with (z | ⟨o, z⟩) | z
    · exact .inl (.inl (by rw [less_ne c]; exact z))
    · exact .inl (.inr ⟨o, by rw [less_ne c]; exact z⟩)
    · exact .inr z⟩
/-- a list that stands not for good changes; what stands for good stays -/
theorem Frz.set {ys zs : List V} (f : Frz K G H) (g : G T = none) (h : H T = some (.lst ys)) : Frz K G (upd H T (.lst zs)) := ⟨fun b u e => by rw [upd_ne (ne_of_none e g)]; exact f.s _ _ e, fun a xs z => by
  by_cases c : a = T
  · rw [c] at z
    rcases z with (z | ⟨o, z⟩) | z
    · rw [upd_same] at z; cases z
    · rw [upd_same] at z; cases z
    · exact .inr (by rw [c]; exact z)
  · rcases z with (z | ⟨o, z⟩) | z
    · rw [upd_ne c] at z; exact f.t a xs (.inl (.inl z))
    · rw [upd_ne c] at z; exact f.t a xs (.inl (.inr ⟨o, z⟩))
    · exact .inr z⟩
/-- a new list that stands not for good -/
theorem Frz.newl {zs : List V} (f : Frz K G H) (h : H T = none) : Frz K G (upd H T (.lst zs)) := ⟨f.s.trans (same_new h _), fun a xs z => by
  by_cases c : a = T
  · rw [c] at z
    rcases z with (z | ⟨o, z⟩) | z
    · rw [upd_same] at z; cases z
    · rw [upd_same] at z; cases z
    · exact .inr (by rw [c]; exact z)
  · rcases z with (z | ⟨o, z⟩) | z
    · rw [upd_ne c] at z; exact f.t a xs (.inl (.inl z))
    · rw [upd_ne c] at z; exact f.t a xs (.inl (.inr ⟨o, z⟩))
    · exact .inr z⟩
theorem Frz.off (f : Frz K G H) (h : H a = none) : G a = none := f.s.free h
theorem off_ne (g : G a = none) {b : Addr} {u : HO} (e : G b = some u) : a ≠ b := fun z => by rw [z, e] at g; cases g
end
end Gs

set_option Elab.async false
set_option linter.all false
set_option maxRecDepth 100000
set_option maxHeartbeats 4000000
/-! whole numbers and fractions as texts: the mathematics -/
namespace Nt
open PySem PySem.Spec PyProof.Rows L2
open TL (tl numL)
def sI (i : Int) : Str := Str.ofString (toString i)
def iL (i : Int) : List Nat := tl (sI i)
theorem iL_nat (n : Nat) : iL (n : Int) = numL n := TL.tl_num n
theorem iL_neg (n : Nat) : iL (-((n + 1 : Nat) : Int)) = 45 :: numL (n + 1) := by
  show tl (Str.ofString (toString (Int.negSucc n))) = _
  rw [TL.tl_ofString]
  have h := TL.tl_num (n + 1)
  rw [TL.tl_ofString] at h
  show ("-" ++ Nat.repr (n + 1)).toList.map Char.toNat = _
  rw [String.toList_append, List.map_append]
  exact congrArg (fun z => 45 :: z) h
theorem int_two (i : Int) : (∃ n : Nat, i = (n : Int)) ∨ ∃ n : Nat, i = -((n + 1 : Nat) : Int) := by
  cases i with
  | ofNat n => exact .inl ⟨n, rfl⟩
  | negSucc n => exact .inr ⟨n, rfl⟩
theorem numL_no {n s : Nat} (h : s < 48 ∨ 57 < s) : s ∉ numL n := TL.numL_free h
theorem iL_no {i : Int} {s : Nat} (h : s ≠ 45) (h2 : s < 48 ∨ 57 < s) : s ∉ iL i := by
  rcases int_two i with ⟨n, rfl⟩ | ⟨n, rfl⟩
  · rw [iL_nat]; exact numL_no h2
  · rw [iL_neg]
    intro hm
    rcases List.mem_cons.mp hm with e | hm
    · exact h e
    · exact numL_no h2 hm
theorem iL_ne (i : Int) : iL i ≠ [] := by
  rcases int_two i with ⟨n, rfl⟩ | ⟨n, rfl⟩
  · rw [iL_nat]; exact TL.numL_ne n
  · rw [iL_neg]; exact List.cons_ne_nil _ _
theorem dig {n c : Nat} (h : c ∈ numL n) : 48 ≤ c ∧ c ≤ 57 := TL.numL_digits n c h
theorem iL_inj {i j : Int} (h : iL i = iL j) : i = j := by
  rcases int_two i with ⟨n, rfl⟩ | ⟨n, rfl⟩ <;> rcases int_two j with ⟨m, rfl⟩ | ⟨m, rfl⟩
  · rw [iL_nat, iL_nat] at h; rw [TL.numL_inj h]
  · rw [iL_nat, iL_neg] at h
    have := dig (n := n) (c := 45) (by rw [h]; exact List.mem_cons_self)
    omega
  · rw [iL_nat, iL_neg] at h
    have := dig (n := m) (c := 45) (by rw [← h]; exact List.mem_cons_self)
    omega
  · rw [iL_neg, iL_neg] at h
    have := TL.numL_inj (List.cons.inj h).2
    rw [this]
/-! figures -/
def isFig (l : List Nat) : Bool := l.all (fun c => decide (48 ≤ c) && decide (c ≤ 57)) && !l.isEmpty && (l == [48] || !(l.head? == some 48))
theorem head_num : ∀ n : Nat, (numL n).head? = some 48 → n = 0 := fun n => by
  induction n using Nat.strongRecOn with
  | _ n ih =>
    intro h
    by_cases c : n < 10
    · rw [TL.numL_lt c] at h
      have := Option.some.inj h
      omega
    · rw [TL.numL_step (by omega), List.head?_append] at h
      have z := ih (n / 10) (by omega) (by
        cases e : (numL (n / 10)).head? with
        | none => rw [List.head?_eq_none_iff] at e; exact absurd e (TL.numL_ne _)
        | some x => rw [e] at h; exact h)
      omega
theorem fig_num (n : Nat) : isFig (numL n) = true := by
  unfold isFig
  rw [Bool.and_eq_true, Bool.and_eq_true]
  refine ⟨⟨List.all_eq_true.mpr fun c hc => ?_, ?_⟩, ?_⟩
  · have := dig hc
    rw [Bool.and_eq_true, decide_eq_true_iff, decide_eq_true_iff]
    exact this
  · cases e : numL n with
    | nil => exact absurd e (TL.numL_ne n)
    | cons a l => rfl
  · by_cases h : (numL n).head? = some 48
    · have := head_num n h
      subst this
      rfl
    · have : ((numL n).head? == some 48) = false := beq_eq_false_iff_ne.mpr h
      rw [this]
      simp
theorem of_fig : ∀ (m : Nat) (l : List Nat), l.length = m → isFig l = true → ∃ n, l = numL n := fun m => by
  induction m with
  | zero =>
    intro l hl h
    rw [List.eq_nil_of_length_eq_zero hl] at h
    cases h
  | succ m ih =>
    intro l hl h
    rcases List.eq_nil_or_concat l with rfl | ⟨p, c, e⟩
    · cases hl
    rw [List.concat_eq_append] at e
    subst e
    unfold isFig at h
    rw [Bool.and_eq_true, Bool.and_eq_true] at h
    obtain ⟨⟨h1, h2⟩, h3⟩ := h
    rw [List.all_append, Bool.and_eq_true] at h1
    obtain ⟨ha, hb⟩ := h1
    have hc : 48 ≤ c ∧ c ≤ 57 := by
      have := List.all_eq_true.mp hb c (List.mem_singleton_self c)
      rw [Bool.and_eq_true, decide_eq_true_iff, decide_eq_true_iff] at this
      exact this
    cases p with
    | nil => exact ⟨c - 48, by rw [TL.numL_lt (by omega)]; show [c] = _; congr 1; omega⟩
    | cons d p =>
      have h4 : ¬ d = 48 := fun z => by
        subst z
        rcases Bool.or_eq_true _ _ ▸ h3 with z | z
        · have := eq_of_beq z
          have := congrArg List.length this
          simp at this
        · cases z
      obtain ⟨n, en⟩ := ih (d :: p) (by simpa using hl) (by
        unfold isFig
        rw [ha]
        have : ((d :: p).head? == some 48) = false := beq_eq_false_iff_ne.mpr (fun z => h4 (Option.some.inj z))
        rw [this]
        simp)
      have n1 : 1 ≤ n := by
        cases n with
        | zero => rw [show numL 0 = [48] from TL.numL_lt (by decide)] at en; exact absurd (List.cons.inj en).1 h4
        | succ n => omega
      refine ⟨n * 10 + (c - 48), ?_⟩
      rw [TL.numL_step (by omega), show (n * 10 + (c - 48)) / 10 = n by omega, show 48 + (n * 10 + (c - 48)) % 10 = c by omega, en]
theorem fig_iff (l : List Nat) : isFig l = true ↔ ∃ n, l = numL n := ⟨fun h => of_fig l.length l rfl h, fun ⟨n, e⟩ => by rw [e]; exact fig_num n⟩
/-! the sign -/
def rm (l : List Nat) : List Nat := match l with
  | 45 :: r => r
  | l => l
theorem rm_num (n : Nat) : rm (numL n) = numL n := by
  cases e : numL n with
  | nil => rfl
  | cons a l =>
    have := dig (n := n) (c := a) (by rw [e]; exact List.mem_cons_self)
    unfold rm
    split
    · rename_i h; injection h with h; omega
    · rfl
theorem rm_iL (i : Int) : ∃ n, rm (iL i) = numL n := by
  rcases int_two i with ⟨n, rfl⟩ | ⟨n, rfl⟩
  · exact ⟨n, by rw [iL_nat]; exact rm_num n⟩
  · exact ⟨n + 1, by rw [iL_neg]; rfl⟩
/-- a text is a whole number's just where it is none of two faults -/
theorem int_iff (l : List Nat) : (∃ i, l = iL i) ↔ (l ≠ [45, 48] ∧ isFig (rm l) = true) := by
  constructor
  · rintro ⟨i, rfl⟩
    refine ⟨fun e => ?_, ?_⟩
    · rcases int_two i with ⟨n, rfl⟩ | ⟨n, rfl⟩
      · rw [iL_nat] at e
        have := dig (n := n) (c := 45) (by rw [e]; exact List.mem_cons_self)
        omega
      · rw [iL_neg] at e
        have e2 := (List.cons.inj e).2
        have : n + 1 = 0 := TL.numL_inj (e2.trans (TL.numL_lt (n := 0) (by decide)).symm)
        omega
    · obtain ⟨n, e⟩ := rm_iL i
      rw [e]
      exact fig_num n
  · rintro ⟨h1, h2⟩
    obtain ⟨n, e⟩ := (fig_iff _).mp h2
    by_cases c : ∃ r, l = 45 :: r
    · obtain ⟨r, rfl⟩ := c
      have e : r = numL n := e
      cases n with
      | zero => rw [show numL 0 = [48] from TL.numL_lt (by decide)] at e; exact absurd (by rw [e]) h1
      | succ n => exact ⟨_, by rw [iL_neg, e]⟩
    · have : rm l = l := by
        unfold rm
        split
        · rename_i r; exact absurd ⟨r, rfl⟩ c
        · rfl
      rw [this] at e
      exact ⟨(n : Int), by rw [iL_nat]; exact e⟩
/-! fractions -/
def shR (q : Rat) : Str := if q.den = 1 then sI q.num else (sI q.num ++ Str.ofString "/") ++ sI (q.den : Int)
theorem txt1 {q : Rat} (h : q.den = 1) : tl (shR q) = iL q.num := by unfold shR; rw [if_pos h]; rfl
theorem txt2 {q : Rat} (h : q.den ≠ 1) : tl (shR q) = iL q.num ++ 47 :: numL q.den := by
  unfold shR
  rw [if_neg h, TL.tl_append, TL.tl_append, List.append_assoc]
  have : tl (sI (q.den : Int)) = numL q.den := iL_nat _
  rw [this]
  rfl
theorem txt_no {q : Rat} {s : Nat} (h : s ≠ 45) (h47 : s ≠ 47) (h2 : s < 48 ∨ 57 < s) : s ∉ tl (shR q) := by
  by_cases c : q.den = 1
  · rw [txt1 c]; exact iL_no h h2
  · rw [txt2 c]
    intro hm
    rcases List.mem_append.mp hm with hm | hm
    · exact iL_no h h2 hm
    · rcases List.mem_cons.mp hm with e | hm
      · exact h47 e
      · exact numL_no h2 hm
theorem cut_one {s : Nat} : ∀ {a b x y : List Nat}, s ∉ a → s ∉ x → a ++ s :: b = x ++ s :: y → a = x ∧ b = y
  | [], b, [], y, _, _, h => ⟨rfl, (List.cons.inj h).2⟩
  | [], b, c :: x, y, _, hx, h => absurd (List.mem_cons.mpr (.inl (List.cons.inj h).1)) hx
  | c :: a, b, [], y, ha, _, h => absurd (List.mem_cons.mpr (.inl (List.cons.inj h).1.symm)) ha
  | c :: a, b, d :: x, y, ha, hx, h => by
    obtain ⟨e, h⟩ := List.cons.inj h
    obtain ⟨e1, e2⟩ := cut_one (fun z => ha (List.mem_cons_of_mem _ z)) (fun z => hx (List.mem_cons_of_mem _ z)) h
    exact ⟨by rw [e, e1], e2⟩
theorem first_of {s : Nat} : ∀ {l : List Nat}, s ∈ l → ∃ x y, l = x ++ s :: y ∧ s ∉ x
  | [], h => absurd h (by simp)
  | c :: l, h => by
    by_cases e : s = c
    · exact ⟨[], l, by rw [e]; rfl, by simp⟩
    · rcases List.mem_cons.mp h with z | h
      · exact absurd z e
      · obtain ⟨x, y, e1, e2⟩ := first_of h
        exact ⟨c :: x, y, by rw [e1]; rfl, fun z => by
          rcases List.mem_cons.mp z with z | z
          · exact e z
          · exact e2 z⟩
/-- without a stroke: a whole number -/
theorem of_int {l : List Nat} (h : 47 ∉ l) {q : Rat} : l = tl (shR q) ↔ q.den = 1 ∧ l = iL q.num := by
  constructor
  · intro e
    by_cases c : q.den = 1
    · rw [txt1 c] at e; exact ⟨c, e⟩
    · rw [txt2 c] at e
      exact absurd (by rw [e]; simp) h
  · rintro ⟨c, e⟩
    rw [txt1 c]
    exact e
/-- with a stroke -/
theorem of_frac {x y : List Nat} (h : 47 ∉ x) {q : Rat} : x ++ 47 :: y = tl (shR q) ↔ q.den ≠ 1 ∧ x = iL q.num ∧ y = numL q.den := by
  constructor
  · intro e
    by_cases c : q.den = 1
    · rw [txt1 c] at e
      exact absurd (by rw [← e]; simp) (iL_no (i := q.num) (s := 47) (by decide) (by decide))
    · rw [txt2 c] at e
      obtain ⟨e1, e2⟩ := cut_one h (iL_no (by decide) (by decide)) e
      exact ⟨c, e1, e2⟩
  · rintro ⟨c, e1, e2⟩
    rw [txt2 c, e1, e2]
theorem tl_inj {x y : Str} (h : tl x = tl y) : x = y := TL.ext_tl h
theorem shR_inj {p q : Rat} (h : shR p = shR q) : p = q := by
  have h : tl (shR p) = tl (shR q) := congrArg tl h
  by_cases c : p.den = 1
  · rw [txt1 c] at h
    obtain ⟨d, e⟩ := (of_int (iL_no (by decide) (by decide))).mp h
    exact Rat.ext (iL_inj e) (by rw [c, d])
  · rw [txt2 c] at h
    obtain ⟨d, e1, e2⟩ := (of_frac (iL_no (by decide) (by decide))).mp h
    exact Rat.ext (iL_inj e1) (TL.numL_inj e2)
/-! the language's own -/
theorem int_read {i : Int} (h : (iL i).length ≤ 640) : intText? (sI i) = some i := by
  rcases int_two i with ⟨n, rfl⟩ | ⟨n, rfl⟩
  · rw [iL_nat] at h
    exact TL.int_num (by omega)
  · have e : (sI (-((n + 1 : Nat) : Int))).cps.toList = 45 :: numL (n + 1) := iL_neg n
    rw [iL_neg] at h
    have := intText_neg e (TL.numL_digits _) (TL.numL_ne _) (by rw [TL.len_tl]; show (tl _).length ≤ 4300; rw [show tl (sI (-((n + 1 : Nat) : Int))) = 45 :: numL (n + 1) from e]; omega)
    rw [this, TL.numL_val]
theorem dig_lang : ∀ c, c < 128 → Unicode.isDigit c = (decide (48 ≤ c) && decide (c ≤ 57)) := by decide +kernel
theorem all_tl (a : Str) (p : Nat → Bool) : a.cps.all p = (tl a).all p := by
  show _ = a.cps.toList.all p
  rw [Array.all_toList]
theorem tl0 : tl (Str.ofString "0") = [48] := rfl
theorem tlm : tl (Str.ofString "-") = [45] := rfl
theorem sub0 (a : Str) (y : Str) (c : Nat) (e : tl y = [c]) : Builtin.Str.subAt a y 0 = ((tl a).head? == some c) := by
  rw [StrLaws.subAt_eq, TL.len_tl, e]
  show (((tl a).drop 0).take 1 == tl y) = ((tl a).head? == some c)
  rw [e, List.drop_zero]
  cases tl a with
  | nil => rfl
  | cons d l =>
    show ([d] == [c]) = (some d == some c)
    rw [Bool.eq_iff_iff, beq_iff_eq, beq_iff_eq]
    simp
theorem starts0 (a : Str) : Txt.startswith a (Str.ofString "0") = ((tl a).head? == some 48) := by
  unfold Txt.startswith
  rw [sub0 a _ 48 tl0, TL.len_tl, TL.len_tl, tl0]
  cases e : tl a with
  | nil => rfl
  | cons d l =>
    rw [decide_eq_true (by simp)]
    exact Bool.true_and _
theorem digit_tl {a : Str} (h : (tl a).all (fun c => decide (c < 128)) = true) : Txt.isdigit a = ((tl a).all (fun c => decide (48 ≤ c) && decide (c ≤ 57)) && !(tl a).isEmpty) := by
  unfold Txt.isdigit
  rw [all_tl, TL.len_tl]
  have : (tl a).all Unicode.isDigit = (tl a).all (fun c => decide (48 ≤ c) && decide (c ≤ 57)) := by
    rw [Bool.eq_iff_iff, List.all_eq_true, List.all_eq_true]
    refine forall_congr' fun c => forall_congr' fun hc => ?_
    rw [dig_lang c (of_decide_eq_true (List.all_eq_true.mp h c hc))]
  rw [this, Bool.and_comm]
  cases tl a <;> rfl
theorem ascii_tl (a : Str) : Txt.isascii a = (tl a).all (fun c => decide (c < 128)) := all_tl a _
theorem fig_lang (a : Str) : (Txt.isascii a && Txt.isdigit a && (decide (a = Str.ofString "0") || !Txt.startswith a (Str.ofString "0"))) = isFig (tl a) := by
  have e0 : decide (a = Str.ofString "0") = (tl a == [48]) := by
    rw [Bool.eq_iff_iff, decide_eq_true_iff, beq_iff_eq]
    exact ⟨fun e => by rw [e]; rfl, fun e => tl_inj (e.trans tl0.symm)⟩
  rw [starts0, e0, ascii_tl]
  unfold isFig
  cases h : (tl a).all (fun c => decide (c < 128)) with
  | true => rw [digit_tl h, Bool.true_and]
  | false =>
    have : (tl a).all (fun c => decide (48 ≤ c) && decide (c ≤ 57)) = false := by
      cases z : (tl a).all (fun c => decide (48 ≤ c) && decide (c ≤ 57)) with
      | false => rfl
      | true =>
        exfalso
        have : (tl a).all (fun c => decide (c < 128)) = true := List.all_eq_true.mpr fun c hc => by
          have := List.all_eq_true.mp z c hc
          rw [Bool.and_eq_true, decide_eq_true_iff, decide_eq_true_iff] at this
          exact decide_eq_true (by omega)
        rw [h] at this
        cases this
    rw [this]
    rfl
theorem tl_rm (a : Str) : tl (Txt.removeprefix a (Str.ofString "-")) = rm (tl a) := by
  unfold Txt.removeprefix
  rw [sub0 a _ 45 tlm]
  have l1 : (Str.ofString "-").length = 1 := rfl
  cases e : tl a with
  | nil =>
    have : (([] : List Nat).head? == some 45) = false := rfl
    rw [this, if_neg (by decide)]
    show tl a = _
    rw [e]
    rfl
  | cons d l =>
    by_cases c : d = 45
    · subst c
      have : (((45 : Nat) :: l).head? == some 45) = true := by simp
      rw [this, if_pos rfl, l1]
      have la : a.length = l.length + 1 := by rw [TL.len_tl, e]; rfl
      unfold Txt.affix
      dsimp only
      rw [if_neg (by rw [la]; simp)]
      rw [TL.tl_strSub_end, e]
      rfl
    · have : ((d :: l).head? == some 45) = false := beq_eq_false_iff_ne.mpr (fun z => c (Option.some.inj z))
      rw [this, if_neg (by decide)]
      show tl a = _
      rw [e]
      unfold rm
      split
      · rename_i h; injection h with h; exact absurd h c
      · rfl
end Nt

set_option Elab.async false
set_option linter.all false
set_option maxRecDepth 100000
set_option maxHeartbeats 4000000
/-! promises of the texts' defs -/
namespace Nt
open PySem PySem.Spec PyProof.Rows L2 BX EXB Co Ru
open TL (tl numL)
open Fr (Bd)
theorem ofS_len (s : String) : (Str.ofString s).length = s.toList.length := by
  have := congrArg List.length (TL.tl_ofString s)
  rw [List.length_map] at this
  rw [TL.len_tl]
  exact this
theorem app_len (x y : Str) : (x ++ y).length = x.length + y.length := by
  rw [TL.len_tl, TL.len_tl, TL.len_tl, TL.tl_append, List.length_append]
theorem emp_app (x : Str) : Str.empty ++ x = x := TL.ext_tl (by rw [TL.tl_append]; rfl)
theorem app_assoc (x y z : Str) : (x ++ y) ++ z = x ++ (y ++ z) := TL.ext_tl (by rw [TL.tl_append, TL.tl_append, TL.tl_append, TL.tl_append, List.append_assoc])
theorem szl : 16777216 ≤ sizeLine := by rw [sizeLine_eq]; decide
/-! sizes -/
theorem val_lt : ∀ (k : Nat) (l : List Nat), l.length = k → NumText.AllDigits l → NumText.digitsVal l < 10 ^ l.length := fun k => by
  induction k with
  | zero => intro l hl _; rw [List.eq_nil_of_length_eq_zero hl]; decide
  | succ k ih =>
    intro l hl h
    rcases List.eq_nil_or_concat l with rfl | ⟨p, c, e⟩
    · cases hl
    rw [List.concat_eq_append] at e
    subst e
    rw [List.length_append, List.length_singleton] at hl
    have h1 := ih p (by omega) fun x hx => h x (List.mem_append_left _ hx)
    have hc := h c (List.mem_append_right _ (List.mem_singleton_self c))
    rw [NumText.digitsVal_snoc, List.length_append, List.length_singleton, Nat.pow_succ]
    omega
theorem num_lt (n : Nat) : n < 10 ^ (numL n).length := by
  have := val_lt _ _ rfl (TL.numL_digits n)
  rw [TL.numL_val] at this
  exact this
theorem ten_le (k : Nat) : 10 ^ k ≤ 2 ^ (4 * k) := by
  rw [Nat.pow_mul]
  exact Nat.pow_le_pow_left (by decide) k
theorem iL_bd (i : Int) : i.natAbs < 2 ^ (4 * (iL i).length) := by
  refine Nat.lt_of_lt_of_le ?_ (ten_le _)
  rcases int_two i with ⟨n, rfl⟩ | ⟨n, rfl⟩
  · rw [iL_nat, Int.natAbs_natCast]; exact num_lt n
  · rw [iL_neg, Int.natAbs_neg, Int.natAbs_natCast]
    exact Nat.lt_of_lt_of_le (num_lt (n + 1)) (Nat.pow_le_pow_right (by decide) (by simp))
theorem txt_bd (q : Rat) {L : Nat} (h : (shR q).length ≤ L) : Bd (4 * L) q := by
  rw [TL.len_tl] at h
  by_cases c : q.den = 1
  · rw [txt1 c] at h
    refine ⟨Nat.lt_of_lt_of_le (iL_bd q.num) (Nat.pow_le_pow_right (by decide) (by omega)), ?_⟩
    rw [c]
    have : 1 ≤ (iL q.num).length := by
      cases e : iL q.num with
      | nil => exact absurd e (iL_ne _)
      | cons a l => simp
    exact Nat.lt_of_lt_of_le (by decide : 1 < 2 ^ 4) (Nat.pow_le_pow_right (by decide) (by omega))
  · rw [txt2 c, List.length_append, List.length_cons] at h
    exact ⟨Nat.lt_of_lt_of_le (iL_bd q.num) (Nat.pow_le_pow_right (by decide) (by omega)), Nat.lt_of_lt_of_le (num_lt q.den) (Nat.le_trans (ten_le _) (Nat.pow_le_pow_right (by decide) (by omega)))⟩
theorem log_of {i : Int} {n : Nat} (h : i.natAbs < 2 ^ n) (h0 : 0 < n) (hn : n ≤ 1900) : i.natAbs.log2 < 1920 := by
  have := PySem.Flt.log2_lt_of h0 h
  exact Nat.lt_of_lt_of_le this (by omega)
theorem sI_len {i : Int} {n : Nat} (h : i.natAbs < 2 ^ n) (h0 : 0 < n) : (sI i).length ≤ n + 1 := by
  have hl := PySem.Flt.log2_lt_of h0 h
  show (Str.ofString (toString i)).length ≤ n + 1
  rw [PySem.ofString_length]
  exact PySem.int_text_length_le h0 hl
theorem shR_len {q : Rat} {n : Nat} (h : Bd n q) (h0 : 0 < n) : (shR q).length ≤ 2 * n + 3 := by
  have a := sI_len h.1 h0
  have b := sI_len (i := (q.den : Int)) h.dn h0
  unfold shR
  split
  · omega
  · rw [app_len, app_len]
    have : (Str.ofString "/").length = 1 := rfl
    omega
/-! read -/
open Classical in
noncomputable def rdR (a : Str) : Option Rat := if h : ∃ q, a = shR q then some h.choose else none
theorem rd_sh (q : Rat) : rdR (shR q) = some q := by
  unfold rdR
  have h : ∃ p, shR q = shR p := ⟨q, rfl⟩
  rw [dif_pos h]
  exact congrArg some (shR_inj h.choose_spec).symm
theorem rd_some {a : Str} {q : Rat} (h : rdR a = some q) : a = shR q := by
  unfold rdR at h
  split at h
  · rename_i z
    rw [← Option.some.inj h]
    exact z.choose_spec
  · cases h
theorem rd_none {a : Str} (h : ∀ q, a ≠ shR q) : rdR a = none := by
  unfold rdR
  rw [dif_neg (fun ⟨q, e⟩ => h q e)]
/-! rows -/
def rowS (qs : List Rat) : Str := Txt.join (Str.ofString " ") (qs.map shR)
def wrS (rss : List (List Rat)) : Str := Txt.join (Str.ofString " | ") (rss.map rowS)
theorem split_row {qs : List Rat} (h : qs ≠ []) : Txt.split (rowS qs) (Str.ofString " ") = qs.map shR := by
  unfold rowS
  refine TL.split_join (y := Str.ofString " ") (s := 32) (S := []) (by rfl) (by decide +kernel) (parts := qs.map shR) (by simpa using h) fun p hp => ?_
  obtain ⟨q, _, rfl⟩ := List.mem_map.mp hp
  exact txt_no (by decide) (by decide) (by decide)
theorem join_no {s : Nat} {y : Str} (hy : s ∉ tl y) : ∀ {ps : List Str}, (∀ p ∈ ps, s ∉ tl p) → s ∉ tl (Txt.join y ps) := fun {ps} h => by
  rw [TL.join_eq, TL.tl_join]
  induction ps with
  | nil => intro z; cases z
  | cons p ps ih =>
    cases ps with
    | nil => exact h p (by simp)
    | cons r ps =>
      show s ∉ tl p ++ (tl y ++ TL.joinL (tl y) ((r :: ps).map tl))
      intro z
      rcases List.mem_append.mp z with z | z
      · exact h p (by simp) z
      · rcases List.mem_append.mp z with z | z
        · exact hy z
        · exact ih (fun x hx => h x (by simp [List.mem_cons] at hx ⊢; exact .inr hx)) z
theorem row_no {s : Nat} (h : s ≠ 45) (h47 : s ≠ 47) (h32 : s ≠ 32) (h2 : s < 48 ∨ 57 < s) (qs : List Rat) : s ∉ tl (rowS qs) := join_no (by show s ∉ [32]; simpa using h32) fun p hp => by
  obtain ⟨q, _, rfl⟩ := List.mem_map.mp hp
  exact txt_no h h47 h2
theorem wr_no {s : Nat} (h : s ≠ 45) (h47 : s ≠ 47) (h32 : s ≠ 32) (h124 : s ≠ 124) (h2 : s < 48 ∨ 57 < s) (rss : List (List Rat)) : s ∉ tl (wrS rss) := join_no (by show s ∉ [32, 124, 32]; simp [h32, h124]) fun p hp => by
  obtain ⟨q, _, rfl⟩ := List.mem_map.mp hp
  exact row_no h h47 h32 h2 q
theorem pre_bar {p rest : List Nat} (h : 124 ∉ p) (i : Nat) (hi : i < p.length) : TL.pre [32, 124, 32] ((p ++ ([32, 124, 32] ++ rest)).drop i) = false := by
  unfold TL.pre
  refine beq_eq_false_iff_ne.mpr fun e => ?_
  have e1 := congrArg (fun l => l[1]?) e
  simp only [List.length_cons, List.length_nil, List.getElem?_cons_succ, List.getElem?_cons_zero] at e1
  rw [List.getElem?_take_of_lt (by decide), List.getElem?_drop] at e1
  by_cases c : i + 1 < p.length
  · rw [List.getElem?_append_left c] at e1
    exact h (List.mem_of_getElem? e1)
  · have : i + 1 = p.length := by omega
    rw [this, List.getElem?_append_right (Nat.le_refl _), Nat.sub_self] at e1
    cases e1
theorem pre_bar0 {p : List Nat} (h : 124 ∉ p) (i : Nat) (hi : i < p.length) : TL.pre [32, 124, 32] (p.drop i) = false := by
  unfold TL.pre
  refine beq_eq_false_iff_ne.mpr fun e => ?_
  have e1 := congrArg (fun l => l[1]?) e
  simp only [List.length_cons, List.length_nil, List.getElem?_cons_succ, List.getElem?_cons_zero] at e1
  rw [List.getElem?_take_of_lt (by decide), List.getElem?_drop] at e1
  exact h (List.mem_of_getElem? e1)
theorem spl_bar : ∀ {ps : List (List Nat)}, ps ≠ [] → (∀ p ∈ ps, 124 ∉ p) → TL.spl [32, 124, 32] 0 [] (TL.joinL [32, 124, 32] ps) = ps
  | [], h, _ => absurd rfl h
  | [p], _, hp => by
    show TL.spl [32, 124, 32] 0 [] p = [p]
    rw [TL.spl_last (acc := []) (pre_bar0 (hp p (by simp)))]
    rfl
  | p :: q :: r, _, hp => by
    show TL.spl [32, 124, 32] 0 [] (p ++ ([32, 124, 32] ++ TL.joinL [32, 124, 32] (q :: r))) = _
    rw [TL.spl_part (acc := []) (by simp) (pre_bar (hp p (by simp))), spl_bar (by simp) fun x hx => hp x (by simp [List.mem_cons] at hx ⊢; exact .inr hx)]
    rfl
theorem split_wr {rss : List (List Rat)} (h : rss ≠ []) : Txt.split (wrS rss) (Str.ofString " | ") = rss.map rowS := by
  refine TL.map_tl_inj ?_
  rw [TL.split_spl _ _ (by show [32, 124, 32] ≠ []; decide) (TL.kind_ok (by decide +kernel))]
  unfold wrS
  rw [TL.join_eq, TL.tl_join]
  refine spl_bar (by simpa using h) fun p hp => ?_
  obtain ⟨x, hx, rfl⟩ := List.mem_map.mp hp
  obtain ⟨qs, _, rfl⟩ := List.mem_map.mp hx
  exact row_no (by decide) (by decide) (by decide) (by decide) qs
/-! what the defs promise -/
def spShR (K : PySem.W.Frag) : Sp := fun vs H Q _ => ∃ (a : Addr) (q : Rat) (n : Nat), vs = [.ref a] ∧ SqT K H a (rp q) ∧ Bd n q ∧ 0 < n ∧ n ≤ 1900 ∧ Q (.str (shR q)) H
def spFig : Sp := fun vs H Q _ => ∃ a : Str, vs = [.str a] ∧ Q (.bl (isFig (tl a))) H
def spRat (K : PySem.W.Frag) : Sp := fun vs H Q _ => ∃ a : Str, vs = [.str a] ∧ a.length ≤ 640 ∧ (∀ q p H', rdR a = some q → Same H H' → SqT K H' p (rp q) → Q (.ref p) H') ∧ (∀ H', rdR a = none → Same H H' → Q .non H')
def spShRw (K : PySem.W.Frag) : Sp := fun vs H Q _ => ∃ (r : Addr) (cs : List V) (qs : List Rat) (n : Nat), vs = [.ref r] ∧ H r = some (.lst cs) ∧ FrN K H n cs qs ∧ 0 < n ∧ n ≤ 1900 ∧ qs.length ≤ 30 ∧ ∀ H', Same H H' → Q (.str (rowS qs)) H'
end Nt

set_option Elab.async false
set_option linter.all false
set_option maxRecDepth 100000
set_option maxHeartbeats 4000000
namespace Nt
open PySem PySem.Spec PyProof.Rows L2 BX EXB Co Ru
open TL (tl numL)
open Fr (Bd)
theorem sum_len {L : Nat} : ∀ {ys : List Str}, (∀ y ∈ ys, y.length ≤ L) → (ys.map (·.length)).sum ≤ ys.length * L
  | [], _ => by simp
  | y :: ys, h => by
    rw [List.map_cons, List.sum_cons, List.length_cons, Nat.succ_mul]
    have h1 := h y (by simp)
    have h2 := sum_len (ys := ys) fun z hz => h z (List.mem_cons_of_mem _ hz)
    omega
theorem join_len {y : Str} {L : Nat} : ∀ {ps : List Str}, (∀ p ∈ ps, p.length ≤ L) → (Txt.join y ps).length ≤ ps.length * (L + y.length) := fun {ps} h => by
  rw [TL.join_eq, TL.len_tl, TL.tl_join]
  induction ps with
  | nil => simp [TL.joinL]
  | cons p ps ih =>
    cases ps with
    | nil =>
      show (tl p).length ≤ _
      rw [← TL.len_tl]
      have := h p (by simp)
      simp
      omega
    | cons r ps =>
      show (tl p ++ (tl y ++ TL.joinL (tl y) ((r :: ps).map tl))).length ≤ _
      have i := ih fun x hx => h x (List.mem_cons_of_mem _ hx)
      have h1 := h p (by simp)
      rw [List.length_append, List.length_append, ← TL.len_tl, ← TL.len_tl, List.length_cons, Nat.succ_mul]
      omega
theorem row_len {qs : List Rat} {n : Nat} (b : ∀ q ∈ qs, Bd n q) (h0 : 0 < n) : (rowS qs).length ≤ qs.length * (2 * n + 4) := by
  have := join_len (y := Str.ofString " ") (ps := qs.map shR) (L := 2 * n + 3) fun p hp => by
    obtain ⟨q, hq, rfl⟩ := List.mem_map.mp hp
    exact shR_len (b q hq) h0
  rw [List.length_map] at this
  exact this
theorem wr_len {rss : List (List Rat)} {n m : Nat} (b : ∀ r ∈ rss, ∀ q ∈ r, Bd n q) (hm : ∀ r ∈ rss, r.length ≤ m) (h0 : 0 < n) : (wrS rss).length ≤ rss.length * (m * (2 * n + 4) + 3) := by
  have := join_len (y := Str.ofString " | ") (ps := rss.map rowS) (L := m * (2 * n + 4)) fun p hp => by
    obtain ⟨q, hq, rfl⟩ := List.mem_map.mp hp
    exact Nat.le_trans (row_len (b q hq) h0) (Nat.mul_le_mul_right _ (hm q hq))
  rw [List.length_map] at this
  exact this
/-! the parts of a text are no longer than it -/
theorem spl_len (S : List Nat) : ∀ (l : List Nat) (k : Nat) (acc : List Nat), ∀ p ∈ TL.spl S k acc l, p.length ≤ acc.length + l.length
  | [], k, acc, p, h => by
    rw [TL.spl_nil] at h
    rw [List.mem_singleton.mp h]
    simp
  | c :: l, 0, acc, p, h => by
    have h : p ∈ (if TL.pre S (c :: l) = true then acc :: TL.spl S (S.length - 1) [] l else TL.spl S 0 (acc ++ [c]) l) := h
    split at h
    · rcases List.mem_cons.mp h with h | h
      · rw [h]; simp
      · have := spl_len S l _ _ p h
        simp at this ⊢
        omega
    · have := spl_len S l _ _ p h
      simp at this ⊢
      omega
  | c :: l, k + 1, acc, p, h => by
    have := spl_len S l k acc p h
    simp at this ⊢
    omega
theorem split_le' {a b : Str} (hb : tl b ≠ []) (hk : b.cps.all (· < 256) = true) : ∀ p ∈ Txt.split a b, p.length ≤ a.length := fun p hp => by
  have h := TL.split_spl a b hb (TL.kind_ok hk)
  have hm : tl p ∈ (Txt.split a b).map tl := List.mem_map.mpr ⟨p, hp, rfl⟩
  rw [h] at hm
  have := spl_len _ _ _ _ _ hm
  rw [TL.len_tl, TL.len_tl]
  simpa using this
/-! rows of what was read -/
structure FrO (K : PySem.W.Frag) (H : Hp) (cs : List V) (os : List (Option Rat)) : Prop where
  len : cs.length = os.length
  at_ : ∀ (i : Nat) (v : V), cs[i]? = some v → ∃ o, os[i]? = some o ∧ ((o = none ∧ v = .non) ∨ ∃ q p, o = some q ∧ v = .ref p ∧ SqT K H p (rp q))
section
variable {K : PySem.W.Frag} {H H' : Hp} {cs : List V} {os : List (Option Rat)}
theorem FrO.keep (h : FrO K H cs os) (k : ∀ a xs, SqT K H a xs → SqT K H' a xs) : FrO K H' cs os :=
  ⟨h.len, fun i v e => let ⟨o, e1, e2⟩ := h.at_ i v e; ⟨o, e1, e2.imp id fun ⟨q, p, a, b, c⟩ => ⟨q, p, a, b, k _ _ c⟩⟩⟩
theorem FrO.same (h : FrO K H cs os) (e : Same H H') : FrO K H' cs os := h.keep fun _ _ => seqT e
theorem FrO.nil : FrO K H [] [] := ⟨rfl, fun i v e => by simp at e⟩
theorem FrO.snoc {v : V} {o : Option Rat} (h : FrO K H cs os) (hv : (o = none ∧ v = .non) ∨ ∃ q p, o = some q ∧ v = .ref p ∧ SqT K H p (rp q)) : FrO K H (cs ++ [v]) (os ++ [o]) := by
  refine ⟨by rw [List.length_append, List.length_append, h.len]; rfl, fun i w e => ?_⟩
  by_cases c : i < cs.length
  · rw [List.getElem?_append_left c] at e
    obtain ⟨o', e1, e2⟩ := h.at_ i w e
    exact ⟨o', by rw [List.getElem?_append_left (by rw [← h.len]; exact c)]; exact e1, e2⟩
  · have : i = cs.length := by
      have := (List.getElem?_eq_some_iff.mp e).1
      rw [List.length_append, List.length_singleton] at this
      omega
    subst this
    rw [List.getElem?_append_right (Nat.le_refl _), Nat.sub_self] at e
    cases e
    exact ⟨o, by rw [h.len, List.getElem?_append_right (Nat.le_refl _), Nat.sub_self]; rfl, hv⟩
def dO : Option Rat → PyData
  | none => .none
  | some q => dR q
theorem FrO.dp : ∀ {cs : List V} {os : List (Option Rat)}, FrO K H cs os → DpAll K H cs (os.map dO)
  | [], [], _ => .nil
  | [], _ :: _, h => by have := h.len; cases this
  | _ :: _, [], h => by have := h.len; cases this
  | v :: cs, o :: os, h => by
    refine .cons ?_ (FrO.dp ⟨by have := h.len; simpa using this, fun i v e => h.at_ (i + 1) v e⟩)
    obtain ⟨o', e1, e2⟩ := h.at_ 0 v rfl
    cases e1
    rcases e2 with ⟨rfl, rfl⟩ | ⟨q, p, rfl, rfl, hp⟩
    · exact .non
    · exact Co.dp_r hp
theorem any_none : ∀ os : List (Option Rat), ((os.map dO).any fun z => PyData.eqv z .none) = os.any Option.isNone
  | [] => rfl
  | none :: os => rfl
  | some q :: os => by
    rw [List.map_cons, List.any_cons, List.any_cons, any_none os]
    rfl
theorem os_lay : ∀ os : List (Option Rat), PyData.canLayAll0 (os.map dO) = true
  | [] => rfl
  | none :: os => by
    show (PyData.canLay0 .none && PyData.canLayAll0 (os.map dO)) = true
    rw [os_lay os]; rfl
  | some q :: os => by
    show (PyData.canLay0 (dR q) && PyData.canLayAll0 (os.map dO)) = true
    rw [os_lay os]; rfl
theorem os_dep : ∀ os : List (Option Rat), PyData.depthAll (os.map dO) ≤ 1
  | [] => Nat.zero_le _
  | none :: os => by
    show max (PyData.depth .none) (PyData.depthAll (os.map dO)) ≤ 1
    have := os_dep os
    have : PyData.depth .none = 0 := rfl
    omega
  | some q :: os => by
    show max (PyData.depth (dR q)) (PyData.depthAll (os.map dO)) ≤ 1
    have := os_dep os
    have : PyData.depth (dR q) = 1 := rfl
    omega
theorem os_shaped (os : List (Option Rat)) : SeqAt.shaped (.list (os.map dO)) = true := by
  unfold SeqAt.shaped
  show (PyData.canLayAll0 (os.map dO) && _) = true
  rw [os_lay, Bool.true_and]
  refine decide_eq_true ?_
  have := os_dep os
  show PyData.depthAll (os.map dO) + 1 ≤ 64
  omega
theorem FrO.frn {qs : List Rat} {n : Nat} (h : FrO K H cs (qs.map some)) (b : ∀ q ∈ qs, Bd n q) : FrN K H n cs qs := by
  refine ⟨by rw [h.len, List.length_map], fun i v e => ?_⟩
  obtain ⟨o, e1, e2⟩ := h.at_ i v e
  rw [List.getElem?_map] at e1
  cases eq : qs[i]? with
  | none => rw [eq] at e1; cases e1
  | some q =>
    rw [eq] at e1
    cases e1
    rcases e2 with ⟨z, _⟩ | ⟨q', p, z, rfl, hp⟩
    · cases z
    · cases z
      exact ⟨p, q, rfl, rfl, hp, b q (List.mem_of_getElem? eq)⟩
end
theorem no_none : ∀ {os : List (Option Rat)}, os.any Option.isNone = false → ∃ qs : List Rat, os = qs.map some
  | [], _ => ⟨[], rfl⟩
  | none :: os, h => by cases h
  | some q :: os, h => by
    obtain ⟨qs, e⟩ := no_none (os := os) h
    exact ⟨q :: qs, by rw [e]; rfl⟩
noncomputable def osOf (a : Str) : List (Option Rat) := (Txt.split a (Str.ofString " ")).map rdR
theorem os_bd {a : Str} {qs : List Rat} (h : osOf a = qs.map some) : ∀ q ∈ qs, Bd (4 * a.length) q := fun q hq => by
  have hm : some q ∈ osOf a := by rw [h]; exact List.mem_map.mpr ⟨q, hq, rfl⟩
  obtain ⟨w, hw, e⟩ := List.mem_map.mp hm
  refine txt_bd q ?_
  rw [← rd_some e]
  exact split_le' (b := Str.ofString " ") (by show [32] ≠ []; decide) (by decide +kernel) w hw
theorem os_row {qs : List Rat} (h : qs ≠ []) : osOf (rowS qs) = qs.map some := by
  unfold osOf
  rw [split_row h, List.map_map]
  exact List.map_congr_left fun q _ => rd_sh q
def spRowOf (K : PySem.W.Frag) : Sp := fun vs H Q _ => ∃ a : Str, vs = [.str a] ∧ a.length ≤ 640 ∧
  (∀ qs D cs H', osOf a = qs.map some → Same H H' → H D = none → H' D = some (.lst cs) → FrN K H' (4 * a.length) cs qs → Q (.ref D) H') ∧ ((osOf a).any Option.isNone = true → ∀ H', Same H H' → Q .non H')
/-! repr of plain signs -/
def Plain (c : Nat) : Prop := 32 ≤ c ∧ c ≤ 126 ∧ c ≠ 39 ∧ c ≠ 34 ∧ c ≠ 92
theorem print_ok : ∀ c, c < 128 → 32 ≤ c → c ≤ 126 → Unicode.isPrintable c = true := by decide +kernel
theorem rep_char {c : Nat} (h : Plain c) : Builtin.Str.reprChar 39 c = [c] := by
  obtain ⟨h1, h2, h3, h4, h5⟩ := h
  unfold Builtin.Str.reprChar
  dsimp only
  rw [if_neg (by simp; omega), if_neg (by simp; omega), if_neg (by simp; omega), if_neg (by simp; omega), if_pos (print_ok c (by omega) h1 h2)]
theorem rep_fold : ∀ (l : List Nat) (acc : Array Nat), (∀ c ∈ l, Plain c) → (l.foldl (fun out c => out ++ (Builtin.Str.reprChar 39 c).toArray) acc).toList = acc.toList ++ l
  | [], acc, _ => by simp
  | c :: l, acc, h => by
    rw [List.foldl_cons, rep_fold l _ fun x hx => h x (List.mem_cons_of_mem _ hx), rep_char (h c (by simp))]
    simp
theorem rep_plain {y : Str} (h : ∀ c ∈ tl y, Plain c) : reprText y = (Str.ofString "'" ++ y) ++ Str.ofString "'" := by
  have q : reprQuote y = 39 := by
    unfold reprQuote
    have : y.cps.contains 39 = false := by
      cases e : y.cps.contains 39 with
      | false => rfl
      | true =>
        have hm : 39 ∈ tl y := by
          have := Array.contains_iff.mp e
          exact Array.mem_toList_iff.mpr this
        exact absurd rfl (h 39 hm).2.2.1
    rw [this]
    rfl
  refine TL.ext_tl ?_
  rw [TL.tl_append, TL.tl_append]
  unfold reprText
  rw [q]
  show ((y.cps.foldl _ #[39]).push 39).toList = _
  rw [Array.toList_push, ← Array.foldl_toList, rep_fold _ _ h]
  rfl
theorem plain_row (rss : List (List Rat)) : ∀ c ∈ tl (wrS rss), Plain c := fun c hc => by
  have k : c = 45 ∨ c = 47 ∨ c = 32 ∨ c = 124 ∨ (48 ≤ c ∧ c ≤ 57) := by
    by_cases h1 : c = 45
    · exact .inl h1
    by_cases h2 : c = 47
    · exact .inr (.inl h2)
    by_cases h3 : c = 32
    · exact .inr (.inr (.inl h3))
    by_cases h4 : c = 124
    · exact .inr (.inr (.inr (.inl h4)))
    by_cases h5 : 48 ≤ c ∧ c ≤ 57
    · exact .inr (.inr (.inr (.inr h5)))
    · exact absurd hc (wr_no h1 h2 h3 h4 (by omega) rss)
  unfold Plain
  omega
end Nt

set_option Elab.async false
set_option linter.all false
set_option maxRecDepth 100000
set_option maxHeartbeats 4000000
/-! the text of a case: its three parts -/
namespace Nt
open PySem PySem.Spec PyProof.Rows L2 BX EXB Co Ru
open TL (tl numL)
open Fr (Bd)
theorem subAt_app (a y : Str) : Builtin.Str.subAt (a ++ y) a 0 = true := by
  rw [StrLaws.subAt_eq]
  show (((tl (a ++ y)).drop 0).take a.length == tl a) = true
  rw [TL.tl_append, List.drop_zero, TL.len_tl, List.take_left]
  exact beq_self_eq_true _
theorem starts_app (a y : Str) : Txt.startswith (a ++ y) a = true := by
  unfold Txt.startswith
  rw [subAt_app, Bool.and_true]
  exact decide_eq_true (by rw [app_len]; omega)
theorem rmp_app (a y : Str) (h : 0 < a.length) : Txt.removeprefix (a ++ y) a = y := by
  unfold Txt.removeprefix
  rw [subAt_app, if_pos rfl]
  unfold Txt.affix
  dsimp only
  rw [if_neg (by rw [beq_iff_eq, app_len]; omega)]
  refine TL.ext_tl ?_
  rw [TL.tl_strSub_end, TL.tl_append, TL.len_tl a, List.drop_left]
theorem app_inj {a x y : Str} (h : a ++ x = a ++ y) : x = y := by
  have := congrArg tl h
  rw [TL.tl_append, TL.tl_append] at this
  exact tl_inj (List.append_cancel_left this)
def hS : Str := Str.ofString "shares "
def hH : Str := Str.ofString "hearer "
def hT : Str := Str.ofString "teller "
def ptC (qs : List Rat) (hss tss : List (List Rat)) : List Str := [hS ++ rowS qs, hH ++ wrS hss, hT ++ wrS tss]
def wrC (qs : List Rat) (hss tss : List (List Rat)) : Str := Txt.join (Str.ofString "; ") (ptC qs hss tss)
theorem split_wrC (qs : List Rat) (hss tss : List (List Rat)) : Txt.split (wrC qs hss tss) (Str.ofString "; ") = ptC qs hss tss := by
  unfold wrC
  refine TL.split_join (y := Str.ofString "; ") (s := 59) (S := [32]) (by rfl) (by decide +kernel) (parts := ptC qs hss tss) (by unfold ptC; simp) fun p hp => ?_
  unfold ptC at hp
  simp only [List.mem_cons, List.not_mem_nil, or_false] at hp
  rcases hp with rfl | rfl | rfl
  · rw [TL.tl_append]
    exact fun h => (List.mem_append.mp h).elim (by show ¬ (59 ∈ [115, 104, 97, 114, 101, 115, 32]); decide) (row_no (by decide) (by decide) (by decide) (by decide) qs)
  · rw [TL.tl_append]
    exact fun h => (List.mem_append.mp h).elim (by show ¬ (59 ∈ [104, 101, 97, 114, 101, 114, 32]); decide) (wr_no (by decide) (by decide) (by decide) (by decide) (by decide) hss)
  · rw [TL.tl_append]
    exact fun h => (List.mem_append.mp h).elim (by show ¬ (59 ∈ [116, 101, 108, 108, 101, 114, 32]); decide) (wr_no (by decide) (by decide) (by decide) (by decide) (by decide) tss)
theorem rowS_inj {a b : List Rat} (ha : a ≠ []) (hb : b ≠ []) (h : rowS a = rowS b) : a = b := by
  have e := split_row ha
  rw [h, split_row hb] at e
  exact (List.map_inj_right (f := shR) (fun _ _ => shR_inj)).mp e.symm
theorem rows_inj : ∀ {a b : List (List Rat)}, (∀ r ∈ a, r ≠ []) → (∀ r ∈ b, r ≠ []) → a.map rowS = b.map rowS → a = b
  | [], [], _, _, _ => rfl
  | [], _ :: _, _, _, h => by cases h
  | _ :: _, [], _, _, h => by cases h
  | x :: a, y :: b, ha, hb, h => by
    rw [List.map_cons, List.map_cons] at h
    obtain ⟨h1, h2⟩ := List.cons.inj h
    rw [rowS_inj (ha x (by simp)) (hb y (by simp)) h1, rows_inj (fun r hr => ha r (List.mem_cons_of_mem _ hr)) (fun r hr => hb r (List.mem_cons_of_mem _ hr)) h2]
theorem wrS_inj {a b : List (List Rat)} (ha : a ≠ []) (hb : b ≠ []) (ra : ∀ r ∈ a, r ≠ []) (rb : ∀ r ∈ b, r ≠ []) (h : wrS a = wrS b) : a = b := by
  have e := split_wr ha
  rw [h, split_wr hb] at e
  exact rows_inj ra rb e.symm
theorem wrC_inj {qs us : List Rat} {hss tss iss kss : List (List Rat)} (n1 : qs ≠ []) (n2 : us ≠ []) (n3 : hss ≠ []) (n4 : iss ≠ []) (n5 : tss ≠ []) (n6 : kss ≠ []) (r1 : ∀ r ∈ hss, r ≠ []) (r2 : ∀ r ∈ iss, r ≠ []) (r3 : ∀ r ∈ tss, r ≠ []) (r4 : ∀ r ∈ kss, r ≠ []) (h : wrC qs hss tss = wrC us iss kss) : qs = us ∧ hss = iss ∧ tss = kss := by
  have e := split_wrC qs hss tss
  rw [h, split_wrC us iss kss] at e
  unfold ptC at e
  obtain ⟨e1, e⟩ := List.cons.inj e
  obtain ⟨e2, e⟩ := List.cons.inj e
  obtain ⟨e3, _⟩ := List.cons.inj e
  exact ⟨(rowS_inj n2 n1 (app_inj e1)).symm, (wrS_inj n4 n3 r2 r1 (app_inj e2)).symm, (wrS_inj n6 n5 r4 r3 (app_inj e3)).symm⟩
theorem wrC_len {qs : List Rat} {hss tss : List (List Rat)} {L : Nat} (h1 : (rowS qs).length ≤ L) (h2 : (wrS hss).length ≤ L) (h3 : (wrS tss).length ≤ L) : (wrC qs hss tss).length ≤ 3 * (L + 9) := by
  have e : ∀ p ∈ ptC qs hss tss, p.length ≤ L + 7 := fun p hp => by
    unfold ptC at hp
    simp only [List.mem_cons, List.not_mem_nil, or_false] at hp
    rcases hp with rfl | rfl | rfl
    · rw [app_len, show hS.length = 7 from rfl]; omega
    · rw [app_len, show hH.length = 7 from rfl]; omega
    · rw [app_len, show hT.length = 7 from rfl]; omega
  have := join_len (y := Str.ofString "; ") e
  rw [show (Str.ofString "; ").length = 2 from rfl] at this
  have l3 : (ptC qs hss tss).length = 3 := rfl
  rw [l3] at this
  exact this
end Nt

set_option Elab.async false
set_option linter.all false
set_option maxRecDepth 100000
set_option maxHeartbeats 4000000
/-! numbers as a law reads them: figures alone, no nought ahead; parts at a slash -/
namespace Nt
open PySem PySem.Spec PyProof.Rows L2 BX EXB Co Ru
open Dz
open TL (tl numL)
open Fr (Bd)
def isD (c : Nat) : Bool := decide (48 ≤ c) && decide (c ≤ 57)
def numO (l : List Nat) : Option Nat := if isFig l = true then some (NumText.digitsVal l) else none
def numV : Option Nat → V
  | none => .non
  | some n => .int (n : Int)
def numD : Option Nat → PyData
  | none => .none
  | some n => .int (n : Int)
theorem numO_num (n : Nat) : numO (numL n) = some n := by
  unfold numO
  rw [if_pos (fig_num n), TL.numL_val]
theorem numO_some {l : List Nat} {n : Nat} (h : numO l = some n) : l = numL n := by
  unfold numO at h
  split at h
  · rename_i c
    obtain ⟨m, rfl⟩ := (fig_iff l).mp c
    rw [TL.numL_val] at h
    cases h
    rfl
  · cases h
theorem numO_none {l : List Nat} (h : numO l = none) : ∀ n, l ≠ numL n := fun n e => by
  rw [e, numO_num] at h
  cases h
theorem fig_parts {l : List Nat} (h : isFig l = true) : l.all isD = true ∧ l ≠ [] := by
  unfold isFig at h
  rw [Bool.and_eq_true, Bool.and_eq_true] at h
  refine ⟨h.1.1, fun e => ?_⟩
  rw [e] at h
  cases h.1.2
/-- all figures: read, and it is that text again if no nought stands ahead -/
theorem dg_all {a : Str} (h : (tl a).all isD = true) : NumText.AllDigits a.cps.toList := fun c hc => by
  have := List.all_eq_true.mp h c hc
  unfold isD at this
  rw [Bool.and_eq_true, decide_eq_true_eq, decide_eq_true_eq] at this
  exact this
theorem dg_read {a : Str} (h : (tl a).all isD = true) (ne : tl a ≠ []) (hl : a.length ≤ 640) : intText? a = some ((NumText.digitsVal (tl a) : Nat) : Int) := intText_digits (dg_all h) ne (by omega)
theorem dg_same {a : Str} : sI ((NumText.digitsVal (tl a) : Nat) : Int) = a ↔ isFig (tl a) = true := by
  constructor
  · intro e
    have := congrArg tl e
    rw [show tl (sI ((NumText.digitsVal (tl a) : Nat) : Int)) = iL _ from rfl, iL_nat] at this
    rw [← this]
    exact fig_num _
  · intro h
    obtain ⟨n, en⟩ := (fig_iff _).mp h
    refine tl_inj ?_
    rw [show tl (sI ((NumText.digitsVal (tl a) : Nat) : Int)) = iL _ from rfl, iL_nat, en, TL.numL_val]
theorem dg_bd {a : Str} (h : (tl a).all isD = true) (hl : a.length ≤ 400) : ((NumText.digitsVal (tl a) : Nat) : Int).natAbs < 2 ^ 1600 := by
  have h1 := val_lt _ (tl a) rfl (dg_all h)
  have h2 := ten_le (tl a).length
  rw [Int.natAbs_natCast]
  refine Nat.lt_of_lt_of_le (Nat.lt_of_lt_of_le h1 h2) (Nat.pow_le_pow_right (by decide) ?_)
  have : (tl a).length = a.length := (TL.len_tl a).symm
  omega
/-- signs that there are -/
def Okc (l : List Nat) : Prop := ∀ c ∈ l, c < 1114112
def spNum : Sp := fun vs H Q _ => ∃ a : Str, vs = [.str a] ∧ a.length ≤ 400 ∧ Okc (tl a) ∧ ∀ H', Same H H' → Q (numV (numO (tl a))) H'
/-- the signs of a text that are no figures -/
def odd (l : List Nat) : List V := (l.filter fun c => !isD c).map fun c => V.str ⟨#[c]⟩
theorem odd_nil {l : List Nat} : odd l = [] ↔ l.all isD = true := by
  unfold odd
  rw [List.map_eq_nil_iff, List.filter_eq_nil_iff, List.all_eq_true]
  constructor
  · intro h c hc
    have := h c hc
    simpa using this
  · intro h c hc
    rw [h c hc]
    decide
theorem dig_in {c : Nat} : decide (c ∈ (Str.ofString "0123456789").cps.toList) = isD c := by
  have e : (Str.ofString "0123456789").cps.toList = [48, 49, 50, 51, 52, 53, 54, 55, 56, 57] := rfl
  rw [e]
  unfold isD
  rw [← Bool.decide_and]
  refine decide_eq_decide.mpr ?_
  simp only [List.mem_cons, List.not_mem_nil, or_false]
  omega
theorem dp_odd {K : PySem.W.Frag} {H : Hp} : ∀ l : List Nat, DpAll K H ((l.map fun c => V.str ⟨#[c]⟩)) (l.map fun c => PyData.str ⟨#[c]⟩)
  | [] => .nil
  | _ :: l => .cons (.str _) (dp_odd l)
abbrev dOdd (l : List Nat) : PyData := .list (l.map fun c => PyData.str ⟨#[c]⟩)
theorem strs_lay : ∀ l : List Nat, Okc l → PyData.canLayAll0 (l.map fun c => PyData.str ⟨#[c]⟩) = true
  | [], _ => rfl
  | c :: l, h => by
    rw [List.map_cons, PyData.canLayAll0, strs_lay l fun x hx => h x (List.mem_cons_of_mem _ hx)]
    have hc := h c (List.mem_cons_self ..)
    have : (PyData.str ⟨#[c]⟩).canLay0 = true := by
      show (#[c] : Array Nat).all (· < 0x110000) = true
      simp
      exact hc
    rw [this]
    rfl
theorem strs_dep : ∀ l : List Nat, PyData.depthAll (l.map fun c => PyData.str ⟨#[c]⟩) ≤ 1
  | [] => by decide
  | _ :: l => by
    rw [List.map_cons, PyData.depthAll]
    have := strs_dep l
    have h : (PyData.str ⟨#[‹Nat›]⟩).depth ≤ 1 := by show 0 ≤ 1; decide
    omega
theorem odd_shaped (l : List Nat) (h : Okc l) : SeqAt.shaped (dOdd l) = true := by
  unfold SeqAt.shaped
  have h1 := strs_lay l h
  have h2 := strs_dep l
  have e : (dOdd l).canLay0 = PyData.canLayAll0 (l.map fun c => PyData.str ⟨#[c]⟩) := rfl
  rw [e, h1, Bool.true_and]
  refine decide_eq_true ?_
  show PyData.depthAll (l.map fun c => PyData.str ⟨#[c]⟩) + 1 ≤ 64
  omega
theorem eqv_odd (l : List Nat) : PyData.eqv (dOdd l) (.list []) = decide (l = []) := by
  cases l with
  | nil => rfl
  | cons c l => rfl
end Nt

set_option Elab.async false
set_option linter.all false
set_option maxRecDepth 100000
set_option maxHeartbeats 4000000
/-! fractions as a law reads them: cut at each slash -/
namespace Nt
open PySem PySem.Spec PyProof.Rows L2 BX EXB Co Ru
open Dz
open TL (tl numL)
open Fr (Bd)
def slOf (l : List Nat) : List (List Nat) := TL.spl [47] 0 [] l
theorem sl_none {l : List Nat} (h : 47 ∉ l) : slOf l = [l] := by
  unfold slOf
  rw [TL.spl_last1 h]
  rfl
theorem sl_cons {x y : List Nat} (h : 47 ∉ x) : slOf (x ++ 47 :: y) = x :: slOf y := TL.spl_part1 (S := []) (acc := []) (rest := y) h
theorem sl_ne : ∀ (n : Nat) (l : List Nat), l.length ≤ n → slOf l ≠ [] := fun n l _ => by
  by_cases c : 47 ∈ l
  · obtain ⟨x, y, rfl, hx⟩ := first_of c
    rw [sl_cons hx]
    simp
  · rw [sl_none c]
    simp
theorem sl_mem : ∀ (n : Nat) (l : List Nat), l.length ≤ n → ∀ p ∈ slOf l, ∀ c ∈ p, c ∈ l := fun n => by
  induction n with
  | zero =>
    intro l h p hp c hc
    have : l = [] := List.eq_nil_of_length_eq_zero (by omega)
    subst this
    rw [sl_none (by simp)] at hp
    rw [List.mem_singleton.mp hp] at hc
    exact hc
  | succ n ih =>
    intro l h p hp c hc
    by_cases k : 47 ∈ l
    · obtain ⟨x, y, rfl, hx⟩ := first_of k
      rw [sl_cons hx] at hp
      rcases List.mem_cons.mp hp with rfl | hp
      · exact List.mem_append_left _ hc
      · rw [List.length_append, List.length_cons] at h
        exact List.mem_append_right _ (List.mem_cons_of_mem _ (ih y (by omega) p hp c hc))
    · rw [sl_none k] at hp
      rw [List.mem_singleton.mp hp] at hc
      exact hc
theorem split_sl (a : Str) : (Txt.split a (Str.ofString "/")).map tl = slOf (tl a) := TL.split_spl _ _ (by show [47] ≠ []; decide) (TL.kind_ok (by decide +kernel))
def ratL : List (Option Nat) → Option Rat
  | [some n] => some ((n : Int) : Rat)
  | [some n, some m] => if m ≠ 0 ∧ 1 < (Rat.divInt n m).den ∧ (Rat.divInt n m).num = (n : Int) then some (Rat.divInt n m) else none
  | _ => none
def ratN (l : List Nat) : Option Rat := ratL ((slOf l).map numO)
theorem ratL_none : ∀ {fo : List (Option Nat)}, fo.any Option.isNone = true → ratL fo = none
  | [], h => by cases h
  | [none], _ => rfl
  | [some n], h => by cases h
  | [none, none], _ => rfl
  | [none, some _], _ => rfl
  | [some _, none], _ => rfl
  | [some _, some _], h => by cases h
  | _ :: _ :: _ :: _, _ => by
    unfold ratL
    split
    · rename_i e; cases e
    · rename_i e; cases e
    · rfl
theorem ratL_long {a b c : Option Nat} {r : List (Option Nat)} : ratL (a :: b :: c :: r) = none := by
  unfold ratL
  split
  · rename_i e; cases e
  · rename_i e; cases e
  · rfl
theorem num_nat {q : Rat} (h : 0 ≤ q) : ∃ n : Nat, q.num = (n : Int) := ⟨q.num.toNat, by have := Rat.num_nonneg.mpr h; omega⟩
theorem nat_rat {q : Rat} {n : Nat} (h : q.den = 1) (e : q.num = (n : Int)) : ((n : Int) : Rat) = q := by
  refine Rat.ext ?_ ?_
  · rw [Rat.num_intCast, e]
  · rw [Rat.den_intCast, h]
theorem ratN_iff {l : List Nat} {q : Rat} : ratN l = some q ↔ 0 ≤ q ∧ l = tl (shR q) := by
  by_cases c : 47 ∈ l
  · obtain ⟨x, y, rfl, hx⟩ := first_of c
    rw [of_frac hx]
    unfold ratN
    rw [sl_cons hx]
    by_cases cy : 47 ∈ y
    · have : ratL ((x :: slOf y).map numO) = none := by
        obtain ⟨x2, y2, rfl, hx2⟩ := first_of cy
        rw [sl_cons hx2]
        cases e : slOf y2 with
        | nil => exact absurd e (sl_ne _ y2 (Nat.le_refl _))
        | cons p r => exact ratL_long
      rw [this]
      constructor
      · intro h; cases h
      · rintro ⟨_, _, _, e⟩
        rw [e] at cy
        exact absurd cy (numL_no (by decide))
    · rw [sl_none cy]
      show ratL [numO x, numO y] = some q ↔ _
      constructor
      · intro h
        cases ex : numO x with
        | none => rw [ex] at h; cases ey : numO y <;> rw [ey] at h <;> cases h
        | some n =>
          rw [ex] at h
          cases ey : numO y with
          | none => rw [ey] at h; cases h
          | some m =>
            rw [ey] at h
            have h' : (if m ≠ 0 ∧ 1 < (Rat.divInt n m).den ∧ (Rat.divInt n m).num = (n : Int) then some (Rat.divInt n m) else none) = some q := h
            split at h'
            · rename_i k
              obtain ⟨m0, d1, en⟩ := k
              cases h'
              have m0' : (m : Int) ≠ 0 := by omega
              have nn : 0 ≤ Rat.divInt (n : Int) (m : Int) := Rat.divInt_nonneg (by omega) (by omega)
              refine ⟨nn, by omega, ?_, ?_⟩
              · rw [numO_some ex, en, iL_nat]
              · rw [numO_some ey]
                congr 1
                have eq1 : Rat.divInt (n : Int) (m : Int) = Rat.divInt (Rat.divInt (n : Int) (m : Int)).num (Rat.divInt (n : Int) (m : Int)).den := (Rat.num_divInt_den _).symm
                have eq2 := (Rat.divInt_eq_divInt_iff m0' (by have := (Rat.divInt (n : Int) (m : Int)).den_nz; omega)).mp eq1
                rw [en] at eq2
                by_cases n0 : n = 0
                · subst n0
                  rw [show Rat.divInt ((0 : Nat) : Int) (m : Int) = 0 from Rat.zero_divInt _] at d1
                  exact absurd d1 (by decide)
                · have : ((Rat.divInt (n : Int) (m : Int)).den : Int) = (m : Int) := Int.eq_of_mul_eq_mul_left (by omega) eq2
                  omega
            · cases h'
      · rintro ⟨q0, d1, e1, e2⟩
        obtain ⟨n, en⟩ := num_nat q0
        rw [e1, e2, en, iL_nat, numO_num, numO_num]
        have e : Rat.divInt (n : Int) (q.den : Int) = q := by rw [← en]; exact Rat.num_divInt_den q
        show (if q.den ≠ 0 ∧ 1 < (Rat.divInt n q.den).den ∧ (Rat.divInt n q.den).num = (n : Int) then some (Rat.divInt n q.den) else none) = some q
        rw [e, if_pos ⟨q.den_nz, by have := q.den_pos; omega, en⟩]
  · rw [of_int c]
    unfold ratN
    rw [sl_none c]
    show ratL [numO l] = some q ↔ _
    constructor
    · intro h
      cases ex : numO l with
      | none => rw [ex] at h; cases h
      | some n =>
        rw [ex] at h
        have h' : some ((n : Int) : Rat) = some q := h
        cases h'
        refine ⟨Rat.intCast_nonneg.mpr (by omega), Rat.den_intCast _, ?_⟩
        rw [numO_some ex, Rat.num_intCast, iL_nat]
    · rintro ⟨q0, d1, e1⟩
      obtain ⟨n, en⟩ := num_nat q0
      rw [e1, en, iL_nat, numO_num]
      show some ((n : Int) : Rat) = some q
      rw [nat_rat d1 en]
/-- against the program's own reading -/
theorem ratN_rd (a : Str) : ratN (tl a) = (rdR a).filter (fun q => decide (0 ≤ q)) := by
  cases e : ratN (tl a) with
  | some q =>
    obtain ⟨q0, ea⟩ := ratN_iff.mp e
    rw [tl_inj ea, rd_sh]
    show some q = if decide (0 ≤ q) = true then some q else none
    rw [if_pos (decide_eq_true q0)]
  | none =>
    cases r : rdR a with
    | none => rfl
    | some q =>
      by_cases q0 : 0 ≤ q
      · have := ratN_iff.mpr ⟨q0, congrArg tl (rd_some r)⟩
        rw [e] at this
        cases this
      · show none = if decide (0 ≤ q) = true then some q else none
        rw [if_neg (fun z => q0 (of_decide_eq_true z))]
theorem dp_num {K : PySem.W.Frag} {H : Hp} : ∀ fo : List (Option Nat), DpAll K H (fo.map numV) (fo.map numD)
  | [] => .nil
  | none :: fo => .cons .non (dp_num fo)
  | some n :: fo => .cons (.int _) (dp_num fo)
theorem num_lay : ∀ fo : List (Option Nat), PyData.canLayAll0 (fo.map numD) = true
  | [] => rfl
  | none :: fo => by
    show (PyData.canLay0 .none && PyData.canLayAll0 (fo.map numD)) = true
    rw [num_lay fo]; rfl
  | some q :: fo => by
    show (PyData.canLay0 (.int q) && PyData.canLayAll0 (fo.map numD)) = true
    rw [num_lay fo]; rfl
theorem num_dep : ∀ fo : List (Option Nat), PyData.depthAll (fo.map numD) ≤ 0
  | [] => Nat.le_refl _
  | none :: fo => by
    show max (PyData.depth .none) (PyData.depthAll (fo.map numD)) ≤ 0
    have := num_dep fo
    have : PyData.depth .none = 0 := rfl
    omega
  | some q :: fo => by
    show max (PyData.depth (.int q)) (PyData.depthAll (fo.map numD)) ≤ 0
    have := num_dep fo
    have : PyData.depth (.int (q : Int)) = 0 := rfl
    omega
theorem num_shaped (fo : List (Option Nat)) : SeqAt.shaped (.list (fo.map numD)) = true := by
  unfold SeqAt.shaped
  show (PyData.canLayAll0 (fo.map numD) && _) = true
  rw [num_lay, Bool.true_and]
  refine decide_eq_true ?_
  have := num_dep fo
  show PyData.depthAll (fo.map numD) + 1 ≤ 64
  omega
theorem any_numN : ∀ fo : List (Option Nat), ((fo.map numD).any fun z => PyData.eqv z .none) = fo.any Option.isNone
  | [] => rfl
  | none :: fo => rfl
  | some q :: fo => by
    rw [List.map_cons, List.any_cons, List.any_cons, any_numN fo]
    rfl
theorem num_none : ∀ {fo : List (Option Nat)}, fo.any Option.isNone = false → ∃ ns : List Nat, fo = ns.map some
  | [], _ => ⟨[], rfl⟩
  | none :: _, h => by cases h
  | some n :: fo, h => by
    rw [List.any_cons] at h
    obtain ⟨ns, e⟩ := num_none (fo := fo) h
    exact ⟨n :: ns, by rw [e]; rfl⟩
/-- each number is small -/
theorem num_bd {w : Str} {n : Nat} (h : numO (tl w) = some n) (hl : w.length ≤ 400) : (n : Int).natAbs < 2 ^ 1600 := by
  have e := numO_some h
  have d : (tl w).all isD = true := (fig_parts (l := tl w) (by rw [e]; exact fig_num n)).1
  have := dg_bd d hl
  rw [e, TL.numL_val] at this
  exact this
/-- a row of any length, of words that are not long -/
def spRowW (K : PySem.W.Frag) : Sp := fun vs H Q _ => ∃ (a : Str) (n : Nat), vs = [.str a] ∧ a.length ≤ 100000 ∧ (∀ w ∈ Txt.split a (Str.ofString " "), w.length ≤ 640 ∧ 4 * w.length ≤ n) ∧
  (∀ qs D cs H', osOf a = qs.map some → Same H H' → H D = none → H' D = some (.lst cs) → FrN K H' n cs qs → Q (.ref D) H') ∧ ((osOf a).any Option.isNone = true → ∀ H', Same H H' → Q .non H')
theorem os_bdW {a : Str} {qs : List Rat} {n : Nat} (h : osOf a = qs.map some) (hw : ∀ w ∈ Txt.split a (Str.ofString " "), 4 * w.length ≤ n) : ∀ q ∈ qs, Bd n q := fun q hq => by
  have m : some q ∈ osOf a := by rw [h]; exact List.mem_map_of_mem hq
  unfold osOf at m
  obtain ⟨w, hm, e⟩ := List.mem_map.mp m
  have ew := rd_some e
  exact (txt_bd q (L := w.length) (by rw [← ew]; exact Nat.le_refl _)).mono (hw w hm)
def spLRat (K : PySem.W.Frag) : Sp := fun vs H Q _ => ∃ a : Str, vs = [.str a] ∧ a.length ≤ 400 ∧ Okc (tl a) ∧ (∀ q p H', ratN (tl a) = some q → Same H H' → SqT K H' p (rp q) → Q (.ref p) H') ∧ (ratN (tl a) = none → ∀ H', Same H H' → Q .non H')
theorem okc_part {a w : Str} (h : Okc (tl a)) (hw : w ∈ Txt.split a (Str.ofString "/")) : Okc (tl w) := fun c hc => by
  have m : tl w ∈ slOf (tl a) := by
    rw [← split_sl]
    exact List.mem_map_of_mem hw
  exact h c (sl_mem _ (tl a) (Nat.le_refl _) _ m c hc)
end Nt

set_option Elab.async false
set_option linter.all false
set_option maxRecDepth 100000
set_option maxHeartbeats 4000000
/-! numbers of many figures: str(i) below 10 ** 4300; a text n times -/
namespace Nt
open PySem PySem.Spec PyProof.Rows L2 BX EXB Co Ru
open TL (tl numL)
/-- the limit of figures is the language's own -/
structure NoDg (K : PySem.W.Frag) : Prop where
  a : PySem.W.nsOkIn K cStatics = true
  b : PySem.W.nsIn K cStatics "sys.int_max_str_digits" = some none
theorem NoDg.heap {K : PySem.W.Frag} {h : Heap} (n : NoDg K) (X : K.In h) : h.NoDigits :=
  ⟨_, .of_isNs (PySem.W.isNs_of_in X n.a), PySem.W.nsMap_none_of_in X n.a n.b⟩
section
variable {X : Cx}
theorem call_str_big (n : NoDg X.K) (hc : X.calm = true) : CallR X (.type "str") (fun xs H Q => ∃ i, xs = [.int i] ∧ i.natAbs < 10 ^ 4300 ∧ Q (.str (Str.ofString (toString i))) H) := by
  intro pins s σ H xs us Q I r h
  obtain ⟨i, rfl, hz, q⟩ := h
  obtain ⟨u, rfl, t, rfl⟩ := vals1 r
  exact str_of_int_or (I.ok.hd hc) (n.heap I.kIn) (fun _ => ⟨.str _, H, I.tok _, ⟨_, rfl⟩, q⟩) (fun hge => absurd hz (Nat.not_lt.mpr hge))
def repS (x : Str) (n : Nat) : Str := ⟨(List.replicate n x.cps).foldl (· ++ ·) #[]⟩
theorem repS_one (x : Str) : repS x 1 = x := by
  unfold repS
  show (⟨#[] ++ x.cps⟩ : Str) = x
  rw [Array.empty_append]
theorem repS_fold (x : Str) : ∀ (n : Nat) (acc : Array Nat), ((List.replicate n x.cps).foldl (· ++ ·) acc).toList = acc.toList ++ (List.replicate n (tl x)).flatten
  | 0, acc => by simp
  | n + 1, acc => by
    rw [List.replicate_succ, List.foldl_cons, repS_fold x n, List.replicate_succ, List.flatten_cons, Array.toList_append, List.append_assoc]
theorem tl_rep (x : Str) (n : Nat) : tl (repS x n) = (List.replicate n (tl x)).flatten := by
  have := repS_fold x n #[]
  exact this.trans (List.nil_append _)
theorem op_mulS : OpR X (binaryOp .Mult) (fun x y H Q => ∃ (a : Str) (n : Nat), x = .str a ∧ y = .int (n : Int) ∧ 1 ≤ n ∧ n ≤ 10000 ∧ 1 ≤ a.length ∧ a.length ≤ 100 ∧ Q (.str (repS a n)) H) := by
  rintro pins s σ H x y v u Q I rx ry ⟨a, n, rfl, rfl, n1, n4, a1, a2, q⟩
  obtain ⟨t, rfl⟩ := rx
  obtain ⟨t2, rfl⟩ := ry
  have hm : a.length * ((n : Int)).toNat ≤ 1000000 := by
    rw [Int.toNat_natCast]
    have := Nat.mul_le_mul a2 n4
    omega
  have zz := szl
  refine PySem.P.mul_str (by rw [decide_eq_false (show ¬ (n : Int) < -(2 ^ 63 : Int) by omega), decide_eq_false (show ¬ (n : Int) ≥ 2 ^ 63 by omega)]; rfl) (fun _ _ => ?_) (fun _ _ => ?_) ?_
  · have : (100 : Int) ≤ (2 ^ 63 - 1) / (n : Int) := by
      refine (Int.le_ediv_iff_mul_le (by omega)).mpr ?_
      have : 100 * (n : Int) ≤ 100 * 10000 := by omega
      omega
    omega
  · exact decide_eq_false (by omega)
  · rw [if_neg (by omega)]
    by_cases c : n = 1
    · subst c
      rw [if_pos (by rfl)]
      rw [repS_one] at q
      exact ⟨.str a, H, I, ⟨t, rfl⟩, q⟩
    · rw [if_neg (by
        rw [Bool.or_eq_true, beq_iff_eq, beq_iff_eq]
        omega)]
      refine ⟨?_, .str (repS a n), H, I.tok _, ⟨_, rfl⟩, q⟩
      have e : tl (repS a n) = _ := tl_rep a n
      show (repS a (n : Int).toNat).length ≤ sizeLine
      rw [TL.len_tl, tl_rep, List.length_flatten, List.map_replicate, List.sum_replicate_nat]
      rw [Int.toNat_natCast] at hm ⊢
      have : (tl a).length = a.length := (TL.len_tl a).symm
      rw [this, Nat.mul_comm]
      omega
end
end Nt

set_option Elab.async false
set_option linter.all false
set_option maxRecDepth 100000
set_option maxHeartbeats 4000000
/-! int(text) of more than 640 signs -/
namespace Nt
open PySem PySem.Spec PyProof.Rows L2 BX EXB Co Ru PySem.W
theorem wp_text_big {M : Model} {A : Around} {E : Value → Shared → Prop} {s : Shared} {Q : Value → Shared → Prop} {v : Value} {text : List Nat} {n : Int} (hn : s.heap.NoDigits)
    (hs : ¬ (text.takeWhile (· != 0)).length ≤ 640) (hr : (int_private% "readNumeral") 4300 10 (text.takeWhile (· != 0)) = (int_private% "Numeral.value") n)
    (ha : ((text.takeWhile (· != 0)).length == text.length) = true) (h : Q (.int n s.toks) { s with toks := s.toks + 1 }) :
    wpAny M A ((int_private% "intFromText") v text 10) Q E s := by
  obtain ⟨hp, g, d, tk, os⟩ := s
  obtain ⟨mc, hns, hnone⟩ := hn
  have lim : ∀ {Q' : Nat → Shared → Prop}, Q' 4300 ⟨hp, g, d, tk, os⟩ → wpAny M A Builtin.intMaxStrDigits Q' E ⟨hp, g, d, tk, os⟩ := fun {Q'} q => by
    unfold Builtin.intMaxStrDigits
    refine wpAny_bind (wpAny_nsGet hns ?_)
    rw [hnone]
    exact wpAny_pure q
  repeat (any_goals (first
    | assumption
    | (with_reducible refine wpAny_ite_false (decide_eq_false hs) ?_)
    | (with_reducible refine wpAny_ite_true (decide_eq_true ha) ?_)
    | (with_reducible refine lim ?_)
    | wp_step))
  all_goals (try rw [hr])
  all_goals (try dsimp only)
  repeat (any_goals (first
    | assumption
    | (with_reducible refine wpAny_ite_true (decide_eq_true ha) ?_)
    | wp_step))
set_option maxHeartbeats 8000000 in
theorem meets_text_big {x : PySem.Str} {u : Tok} {n : Int} (hs : ¬ (numSeenOf x).length ≤ 640) (hr : (int_private% "readNumeral") 4300 10 (numSeenOf x) = (int_private% "Numeral.value") n) (ha : ((numSeenOf x).length == (numTextOf x).length) = true) :
    Meets (Builtin.«int.__new__» ⟨[.type "int", .str x u], []⟩) (fun _ R s => s.heap.NoDigits ∧ R (.ok (.ret (.int n s.toks))) { s with toks := s.toks + 1 }) :=
  .of_wp fun _ _ A R s hh => by
    obtain ⟨hn, h⟩ := hh
    obtain ⟨hp, g, d, tk, os⟩ := s
    have f1 := F.conv_sub_int
    have f2 := F.madeHere_int
    have f3 := KIN.str_int
    have f4 := KIN.str_idx
    have f5 := KIN.str_trunc
    have f6 : typeOf (.str x u) = pure (.type "str") := rfl
    have hk := KIN.Hid.mk (And.intro hs (And.intro hr ha))
    have hk2 := KIN.Hid.mk hn
    clear hs hr ha hn
    repeat (any_goals (first
      | assumption
      | ((with_reducible show wpAny _ _ ((int_private% "intFromText") _ _ _) _ _ _); refine wp_text_big hk2.out hk.out.1 hk.out.2.1 hk.out.2.2 ?_)
      | wp_step))
    all_goals exact ⟨_, rfl, h⟩
open TL (tl)
def s7 : Str := repS (Str.ofString "7") 900
theorem seen7 : ¬ (numSeenOf s7).length ≤ 640 := by decide +kernel
theorem tl7 : tl s7 = List.replicate 900 55 := by
  unfold s7
  rw [tl_rep]
  show (List.replicate 900 [55]).flatten = _
  rw [List.flatten_replicate_singleton]
theorem call_int_long {X : Cx} (nd : NoDg X.K) : CallR X (.type "int") (fun xs H Q => ∃ (a : Str) (n : Int), xs = [.str a] ∧ PySem.intText? a = some n ∧ ¬ (numSeenOf a).length ≤ 640 ∧ a.length ≤ 4300 ∧ Q (.int n) H) := by
  intro pins s σ H xs us Q I r h
  obtain ⟨a, n, rfl, hn, hs, hl, q⟩ := h
  obtain ⟨u, rfl, t, rfl⟩ := vals1 r
  have z : a.length ≤ sizeLine := by have := szl; omega
  rcases read4300 a z with ⟨m, e1, e2, e3⟩ | ⟨e1, _⟩
  · rw [hn] at e1
    cases e1
    exact call_int_1 (meets_text_big hs e3 e2) ⟨nd.heap I.kIn, typeIs_int _ _ _, .int n, H, I.tok _, ⟨_, rfl⟩, q⟩
  · rw [hn] at e1
    cases e1
end Nt

set_option Elab.async false
set_option linter.all false
set_option maxRecDepth 100000
set_option maxHeartbeats 4000000
/-! str.replace once -/
namespace Nt
open PySem PySem.Builtin PySem.Builtin.Str
def cut1 (x y : Str) : List Nat := occurrences x y 0 x.length 1
def rep1 (x y z : Str) : Str := if ((cut1 x y).isEmpty || (y.length == 0 && z.length == 0)) = true then x else glued z (partsBetween x (cut1 x y) y.length)
theorem rep1_tree (x y z : Str) (t u v w : Tok) : «str.replace» ⟨[.str x t, .str y u, .str z v, .int 1 w], []⟩ =
    (if ((cut1 x y).isEmpty || (y.length == 0 && z.length == 0)) = true then (do rule "str.replace.nothing"; ret (.str x t)) else
      (do let same ← isSame (.str y u) (.str z v)
          if same = true then (do rule "str.replace.old-is-new"; ret (.str x t)) else
          if tooLong (x.length + (cut1 x y).length * z.length) = true then unsupported "str.replace:memory" else
          retStr (glued z (partsBetween x (cut1 x y) y.length)))) := by
  show (do let limit ← countLimit "str.replace" (some (.int 1 w)) (x.length + 1); _) = _
  rw [countLimit_int "str.replace" 1 w (x.length + 1) (by decide)]
  rfl
theorem gives_rep1 (x y z : Str) (t u v w : Tok) (h0 : (u == 0 || v == 0) = false) (huv : (u == v) = false) (hyz : (y == z) = false) (hl : tooLong (x.length + (cut1 x y).length * z.length) = false) :
    Gives («str.replace» ⟨[.str x t, .str y u, .str z v, .int 1 w], []⟩) (if ((cut1 x y).isEmpty || (y.length == 0 && z.length == 0)) = true then .val (.str x t) else .str (glued z (partsBetween x (cut1 x y) y.length))) := by
  rw [rep1_tree]
  cases hc : ((cut1 x y).isEmpty || (y.length == 0 && z.length == 0))
  · rw [isSame_str_other y z u v h0 huv hyz, hl]
    exact .of_eq rfl
  · exact .rule (.of_eq rfl)
section
variable {prog : Program} {w : World} {A : Around} {E : Value → Shared → Prop} {s : Shared} {x y z : Str} {t u v k1 : Tok} {Q : Value → Shared → Prop}
theorem rep1_len (x y : Str) : (glued Str.empty (partsBetween x (cut1 x y) y.length)).length ≤ x.length := by
  have hy : (glued y (partsBetween x (cut1 x y) y.length)).length = x.length := by unfold cut1; rw [StrLaws.glued_between_self]
  rw [size_glued] at hy ⊢
  have : Str.empty.length = 0 := rfl
  rw [this, Nat.mul_zero]
  omega
theorem call_rep1 (hu : u ≠ 0) (hv : v ≠ 0) (huv : u ≠ v) (hyz : (y == Str.empty) = false) (hb : x.length ≤ 1000000) (hq : ∀ t' k, Q (.str (rep1 x y Str.empty) t') { s with toks := k }) :
    wpAny (model prog w) A (call (.builtin "str.replace") [.str x t, .str y u, .str Str.empty v, .int 1 k1]) Q E s := by
  have hl : tooLong (x.length + (cut1 x y).length * Str.empty.length) = false := by
    have : Str.empty.length = 0 := rfl
    rw [this, Nat.mul_zero]
    unfold tooLong
    have := szl
    exact decide_eq_false (by omega)
  refine call_gives F.slot_str_replace (typeIs_str _ _ _) F.entry_str_replace (F.args_str_replace_4 _ _ _ _)
    (gives_rep1 x y Str.empty t u v k1 (by simp [hu, hv]) (by simp [huv]) hyz hl) ?_
  have hq' := hq
  unfold rep1 at hq'
  cases hc : ((cut1 x y).isEmpty || (y.length == 0 && Str.empty.length == 0))
  · rw [hc] at hq'
    simp only [Bool.false_eq_true, if_false] at hq' ⊢
    exact ⟨by have := rep1_len x y; have := szl; omega, hq' _ _⟩
  · rw [hc] at hq'
    simp only [if_true] at hq' ⊢
    exact hq' t s.toks
end
open TL (tl)
abbrev dash : Str := Str.ofString "-"
theorem rep1_cases (x : Str) : (45 ∉ tl x ∧ rep1 x dash Str.empty = x) ∨ ∃ p q : List Nat, tl x = p ++ 45 :: q ∧ tl (rep1 x dash Str.empty) = p ++ q := by
  have fo : (!(cut1 x dash).isEmpty) = decide (45 ∈ tl x) := StrLaws.found_one x 45
  have le : (cut1 x dash).length ≤ 1 := StrLaws.occ_length_le x dash 0 x.length 1
  cases e : cut1 x dash with
  | nil =>
    rw [e] at fo
    refine .inl ⟨fun m => ?_, ?_⟩
    · rw [decide_eq_true m] at fo
      cases fo
    · unfold rep1
      rw [e]
      rfl
  | cons i r =>
    rw [e] at le
    have r0 : r = [] := List.eq_nil_of_length_eq_zero (by simp at le; exact List.length_eq_zero_iff.mpr (by simpa using le))
    subst r0
    refine .inr ?_
    have l2 : (partsBetween x [i] dash.length).length = 2 := by rw [length_partsBetween]; rfl
    have gb : glued dash (partsBetween x [i] dash.length) = x := by rw [← e]; unfold cut1; exact StrLaws.glued_between_self x dash 1
    have er : rep1 x dash Str.empty = glued Str.empty (partsBetween x [i] dash.length) := by
      unfold rep1
      rw [e]
      rfl
    rw [er]
    match partsBetween x [i] dash.length, l2, gb with
    | [a, b], _, gb =>
      refine ⟨tl a, tl b, ?_, ?_⟩
      · rw [← gb, StrLaws.glued_eq_join, TL.tl_join]
        rfl
      · rw [StrLaws.glued_eq_join, TL.tl_join]
        rfl
theorem rep1_minus {x : Str} {l : List Nat} (h : tl x = 45 :: l) (hl : 45 ∉ l) : tl (rep1 x dash Str.empty) = l := by
  rcases rep1_cases x with ⟨n, _⟩ | ⟨p, q, e1, e2⟩
  · rw [h] at n
    exact absurd (List.mem_cons_self ..) n
  · rw [e2]
    rw [h] at e1
    cases p with
    | nil => exact (List.cons.inj e1).2.symm
    | cons c p =>
      have := (List.cons.inj e1).2
      exact absurd (by rw [this]; simp) hl
theorem rep1_none {x : Str} (h : 45 ∉ tl x) : rep1 x dash Str.empty = x := by
  rcases rep1_cases x with ⟨_, e⟩ | ⟨p, q, e1, _⟩
  · exact e
  · exact absurd (by rw [e1]; simp) h
theorem rep1_sub (x : Str) : ∀ c ∈ tl (rep1 x dash Str.empty), c ∈ tl x := fun c hc => by
  rcases rep1_cases x with ⟨_, e⟩ | ⟨p, q, e1, e2⟩
  · rw [e] at hc; exact hc
  · rw [e2] at hc
    rw [e1]
    rcases List.mem_append.mp hc with hc | hc
    · exact List.mem_append_left _ hc
    · exact List.mem_append_right _ (List.mem_cons_of_mem _ hc)
theorem rep1_le (x : Str) : (rep1 x dash Str.empty).length ≤ x.length := by
  rcases rep1_cases x with ⟨_, e⟩ | ⟨p, q, e1, e2⟩
  · rw [e]; exact Nat.le_refl _
  · rw [TL.len_tl, TL.len_tl x, e1, e2, List.length_append, List.length_append, List.length_cons]
    omega
end Nt

set_option Elab.async false
set_option linter.all false
set_option maxRecDepth 100000
set_option maxHeartbeats 4000000
/-! text.replace(y, '', 1) where a token is out; a token is out behind x = text.split(c) -/
namespace CwR
open PySem PySem.Spec PyProof.Rows L2
theorem Call_method3 {prog : Program} {w : World} {A : Around} {E : Value → Shared → Prop} {s : Shared} {env : Env} {o e₁ e₂ e₃ : Expr} {name : Str} {apos pos : Pos} {Q : Value → Shared → Prop}
    (hbase : attributeBase o name env (eval o env) = eval o env) (hs : starEach [e₁, e₂, e₃] env = [(false, eval e₁ env), (false, eval e₂ env), (false, eval e₃ env)]) (hline : (apos.endLine == pos.line) = true)
    (h : wpAny (model prog w) A (eval o env) (fun ov s₁ => MethodOnS prog w A E name ov pos [(false, eval e₁ env), (false, eval e₂ env), (false, eval e₃ env)] Q s₁) E s) :
    wpAny (model prog w) A (eval (.Call (.Attribute o name apos) [e₁, e₂, e₃] [] pos) env) Q E s := by
  refine wpAny_Call_method_lateS hbase (by rw [hs]; rfl) hline ?_
  rw [hs]; exact h
section
variable {X : Cx} {o e f : Expr} {te tf : TE} {to : TE} {y : Str} {j k : Nat} {c0 c1 c2 apos pos p p' : Pos}
def tRep1 (to : TE) (y : Str) : TE := fun σ H Q => to σ H fun v H1 => ∃ x, v = .str x ∧ x.length ≤ 1000000 ∧ Q (.str (Nt.rep1 x y Str.empty)) H1
theorem pet_rep1 {l : Nat} (ho : PE X o to) (hyz : (y == Str.empty) = false := by decide)
    (hst : starEach [.Constant (.str y) j c0, .Constant (.str Str.empty) k c1, .Constant (.int 1) l c2] X.env = [(false, eval (.Constant (.str y) j c0) X.env), (false, eval (.Constant (.str Str.empty) k c1) X.env), (false, eval (.Constant (.int 1) l c2) X.env)] := by rfl)
    (hbase : attributeBase o "replace" X.env (eval o X.env) = eval o X.env := by rfl) (hline : (apos.endLine == pos.line) = true := by rfl) :
    PET X (.Call (.Attribute o "replace" apos) [.Constant (.str y) j c0, .Constant (.str Str.empty) k c1, .Constant (.int 1) l c2] [] pos) (tRep1 to y) := by
  intro pins s σ H Q h0 I h
  refine Call_method3 hbase hst hline (wpAny_mono (PySem.wpAny_toks (ho.run pins s σ H _ I h)) (fun v s1 q => ?_) fun _ _ z => z.2)
  obtain ⟨hk, v', H1, I1, r1, x, e1, hb, q⟩ := q
  subst e1
  obtain ⟨tx, e2⟩ := r1
  subst e2
  refine ⟨"str", _, PySem.F.plainAttrs_str, PySem.F.slot_str_replace, PySem.F.type_str_replace, typeIs_str _ _ _, (fun _ e => nomatch e), Calls.callWith_builtin rfl (Calls.evalArgs_plain (Calls.spliced_cons ?_))⟩
  refine Calls.Constant_str (Calls.spliced_cons ?_)
  refine Calls.Constant_str (Calls.spliced_cons ?_)
  refine wpAny_Constant_int (Calls.spliced_nil ?_)
  exact Nt.call_rep1 (by show s1.toks ≠ 0; omega) (by show s1.toks + 1 ≠ 0; omega) (by show s1.toks ≠ s1.toks + 1; omega) hyz hb fun t' k => ⟨.str (Nt.rep1 x y Str.empty), H1, I1.tok k, ⟨t', rfl⟩, q⟩
def rSplit (X : Cx) : V → List V → Hp → VK → Prop := fun x xs H Q => ∃ a b, x = .str a ∧ xs = [.str b] ∧ (b.length == 0) = false ∧ a.length + 2 ≤ sizeLine ∧ rNewStrs (Txt.split a b) H Q
theorem pss_splitT {i : Nat} {x c : Str} {rest : List Stmt} {u : TS} {cpos pos' cp : Pos} (hN : X.N.Nodup) (hi : X.N[i]? = some x) (hx : Loc X.env.scope x) (ho : PE X o to) (h2 : PSsT X rest u)
    (hst : starEach [.Constant (.str c) j cpos] X.env = [(false, eval (.Constant (.str c) j cpos) X.env)] := by rfl) (hbase : attributeBase o "split" X.env (eval o X.env) = eval o X.env := by rfl) (hline : (apos.endLine == cp.line) = true := by rfl)
    (hs : swapsWith (.Call (.Attribute o "split" apos) [.Constant (.str c) j cpos] [] cp) (some (.Name x pos')) pos.line X.env = pure false := by rfl) (hf : X.fn x = true ∨ X.env.scope.names.lookup x = some .local := by first | exact .inl rfl | exact .inr rfl | assumption) :
    PSs X (.Assign [.Name x pos'] (.Call (.Attribute o "split" apos) [.Constant (.str c) j cpos] [] cp) pos :: rest) (tSeq (tAsg (tM1 (rSplit X) to (tC (.str c))) (gName i)) u) := by
  refine ⟨fun pins s σ H D I h => ?_⟩
  refine wpAny_execs_cons (wpAny_Assign_Name ?_ hs)
  refine PySem.Call_method1 hbase hst hline (thn (ho.run pins s σ H _ I h) fun v s1 ⟨x, H1, I1, r1, q1⟩ => ?_)
  obtain ⟨⟨a, rfl⟩, q1⟩ := q1
  obtain ⟨t, rfl⟩ := _root_.id r1
  refine ⟨"str", _, PySem.F.plainAttrs_str, PySem.F.slot_str_split, PySem.F.type_str_split, typeIs_str _ _ _, (fun _ e => nomatch e), Calls.callWith_builtin rfl (Calls.evalArgs_plain (Calls.spliced_cons ?_))⟩
  refine Calls.Constant_str (Calls.spliced_nil ?_)
  refine wpAny_mono (PySem.wpAny_toks (mt_split pins { s1 with toks := s1.toks + 1 } σ H1 _ [.str c] _ [_] _ (I1.tok _) r1 (.cons ⟨_, rfl⟩ .nil) q1)) (fun v s3 q => ?_) fun _ _ z => z.2
  obtain ⟨hk, z, H3, I3, r3, q3⟩ := q
  have hk : s1.toks + 1 ≤ s3.toks := hk
  refine wpAny_mono (PySem.wpAny_toks (store_ok (Q := fun _ s2 => Inv X pins (σ.set i (some z)) H3 s2) I3 hN hi hx r3 (fun _ I2 => I2) hf)) (fun _ s4 q => ?_) fun _ _ z => z.2
  have hk2 : s3.toks ≤ s4.toks := q.1
  exact h2 pins s4 _ H3 D (by omega) q.2 q3
/-- f(e) where e wants a token -/
theorem pet_call1 {CX : CXT} {kk : Nat} {fa : Addr} {fd : FuncData} {ps : List Str} {sp : Sp} {fx : Str} {E : XK} (F : FnOk X.prog X.w X.K X.mg X.base CX kk fa fd ps sp) (hr : Room kk X.A) (hg : Gl X fx) (hm : X.mg fx = some (.ref fa)) (hk : PySem.W.keepIn X.K (.ref fa) = true) (hb : Binds X.K fd ps []) (hx : Passes CX X E)
    (ha : PAT X [e] tf') (hdb : (fx == ("__debug__" : Str)) = false := by decide) (he : starEach [e] X.env = (false, eval e X.env) :: starEach [] X.env := by rfl) (hpl : (backTo pos (starEach [] X.env)).any (·.1) = false := by rfl) :
    PET X (.Call (.Name fx p) [e] [] pos) (tCall sp [] E tf') := by
  intro pins s σ H Q h0 I h
  refine wpAny_Call_Name_kw (ld_glob I hg hm ?_ hdb)
  refine PySem.W.callWith_K (h₀ := X.base) I.ok.mod.kin hk (thn (ha pos pins s σ H _ h0 I h) fun us s1 ⟨vs, H1, I1, r, q⟩ => ⟨I1.kIn, ?_⟩) he hpl
  exact run_fn F hr hb .nil hx I1 r q
theorem pst_set {i : Nat} {x : Str} {pos' : Pos} (hN : X.N.Nodup) (hi : X.N[i]? = some x) (hx : Loc X.env.scope x) (he : PET X e te) (hs : swapsWith e (some (.Name x pos')) pos.line X.env = pure false := by rfl) (hf : X.fn x = true ∨ X.env.scope.names.lookup x = some .local := by first | exact .inl rfl | exact .inr rfl | assumption) :
    PST X (.Assign [.Name x pos'] e pos) (tAsg te (gName i)) := by
  intro pins s σ H D h0 I h
  refine wpAny_Assign_Name (thn (he pins s σ H _ h0 I h) fun v s1 ⟨y, H1, I1, r1, q1⟩ => ?_) hs
  exact store_ok I1 hN hi hx r1 (fun s2 I2 => ⟨_, H1, I2, q1⟩) hf
end
end CwR

set_option Elab.async false
set_option linter.all false
set_option maxRecDepth 100000
set_option maxHeartbeats 4000000
/-! int(text) of up to 4300 signs; the program's fractions read from such -/
namespace Nt
open PySem PySem.Spec PyProof.Rows L2 BX EXB Co Ru
open TL (tl numL)
open Fr (Bd)
theorem take_all {p : Nat → Bool} : ∀ {l : List Nat}, (∀ c ∈ l, p c = true) → l.takeWhile p = l
  | [], _ => rfl
  | c :: l, h => by
    rw [List.takeWhile_cons, if_pos (h c (List.mem_cons_self ..)), take_all fun x hx => h x (List.mem_cons_of_mem _ hx)]
theorem seen_all {a : Str} (h : ∀ c ∈ tl a, c < 128 ∧ c ≠ 0) : (numSeenOf a).length = a.length := by
  have e : a.cps.all (· < 128) = true := by
    rw [all_tl]
    exact List.all_eq_true.mpr fun c hc => decide_eq_true (h c hc).1
  show ((if a.cps.all (· < 128) then a.cps.toList else Unicode.numberText a.cps.toList).takeWhile (· != 0)).length = _
  rw [if_pos e, take_all (l := a.cps.toList) fun c hc => by
    have := (h c hc).2
    simpa using this]
  exact Array.length_toList
theorem call_int_any {X : Cx} (nd : NoDg X.K) : CallR X (.type "int") (fun xs H Q => ∃ (a : Str) (n : Int), xs = [.str a] ∧ PySem.intText? a = some n ∧ a.length ≤ 4300 ∧ (∀ c ∈ tl a, c < 128 ∧ c ≠ 0) ∧ Q (.int n) H) := by
  intro pins s σ H xs us Q I r h
  obtain ⟨a, n, rfl, hn, hl, hc, q⟩ := h
  by_cases c : a.length ≤ 640
  · exact call_int_str pins s σ H _ us Q I r ⟨a, n, rfl, hn, c, q⟩
  · exact call_int_long nd pins s σ H _ us Q I r ⟨a, n, rfl, hn, by rw [seen_all hc]; exact c, hl, q⟩
theorem int_read43 {i : Int} (h : (iL i).length ≤ 4300) : intText? (sI i) = some i := by
  rcases int_two i with ⟨n, rfl⟩ | ⟨n, rfl⟩
  · rw [iL_nat] at h
    exact TL.int_num (by omega)
  · have e : (sI (-((n + 1 : Nat) : Int))).cps.toList = 45 :: numL (n + 1) := iL_neg n
    rw [iL_neg] at h
    have := intText_neg e (TL.numL_digits _) (TL.numL_ne _) (by rw [TL.len_tl]; show (tl _).length ≤ 4300; rw [show tl (sI (-((n + 1 : Nat) : Int))) = 45 :: numL (n + 1) from e]; exact h)
    rw [this, TL.numL_val]
theorem iL_low (i : Int) : ∀ c ∈ iL i, c < 128 ∧ c ≠ 0 := fun c hc => by
  by_cases h1 : c = 45
  · subst h1; decide
  · by_cases h2 : c < 48 ∨ 57 < c
    · exact absurd hc (iL_no h1 h2)
    · omega
/-- figures alone, some: the number, whatever stands ahead -/
def numW (l : List Nat) : Option Nat := if (l.all isD && !l.isEmpty) = true then some (NumText.digitsVal l) else none
def spNum03 : Sp := fun vs H Q _ => ∃ a : Str, vs = [.str a] ∧ a.length ≤ 900 ∧ Okc (tl a) ∧ ∀ H', Same H H' → Q (numV (numW (tl a))) H'
theorem pow_4300 : 2 ^ 14000 ≤ 10 ^ 4300 := by decide +kernel
theorem lt_big {i : Int} {n : Nat} (h : i.natAbs < 2 ^ n) (hn : n ≤ 14000) : i.natAbs < 10 ^ 4300 := Nat.lt_of_lt_of_le (Nat.lt_of_lt_of_le h (Nat.pow_le_pow_right (by decide) hn)) pow_4300
def spLTxt03 (K : PySem.W.Frag) : Sp := fun vs H Q _ => ∃ (a : Addr) (q : Rat) (n : Nat), vs = [.ref a] ∧ SqT K H a (rp q) ∧ Bd n q ∧ 0 < n ∧ n ≤ 14000 ∧ Q (.str (shR q)) H
def spLRatio03 (K : PySem.W.Frag) : Sp := fun vs H Q _ => ∃ (l : Addr) (z : Int), vs = [.ref l] ∧ H l = some (.lst [.int z]) ∧ ∀ p q z' H', SameB l H H' → H' l = some (.lst [.int z']) → SqT K H' p (rp q) → Bd 101 q → Q (.ref p) H'
/-- no text -/
def NoStr (K : PySem.W.Frag) (H : Hp) (v : V) : Prop := ∃ t, TyX K H v t ∧ PySem.W.kitOne K t (.type "str") = some false
def spRat43 (K : PySem.W.Frag) : Sp := fun vs H Q _ => ∃ v : V, vs = [v] ∧ ((NoStr K H v ∧ Q .non H) ∨ ∃ a : Str, v = .str a ∧ a.length ≤ 4300 ∧ (∀ q p H', rdR a = some q → Same H H' → SqT K H' p (rp q) → Q (.ref p) H') ∧ (∀ H', rdR a = none → Same H H' → Q .non H'))
end Nt

set_option Elab.async false
set_option linter.all false
set_option maxRecDepth 100000
set_option maxHeartbeats 4000000
namespace Ru
open PySem PySem.Spec PyProof.Rows L2 BX EXB Co
theorem ns_some {K : PySem.W.Frag} {h : Heap} {N : Addr} {mm : Str → Option Value} {n : Str} {v : Value} (X : K.In h) (G : h.Ns N mm) (e : PySem.W.nsIn K N n = some (some v)) : mm n = some v := by
  obtain ⟨o, es, ep, ho, hd, _, hf⟩ := G
  unfold PySem.W.nsIn at e
  split at e
  · rename_i c d es' n' sl q
    have := X _ _ q
    rw [ho] at this
    cases this
    cases hd
    split at e
    · rename_i en he
      cases e
      rw [← hf]
      unfold nsFind findBy
      rw [← Array.find?_toList, he]
      rfl
    · split at e <;> cases e
  · cases e
/-- x != y, both instances of the class at C with its own __eq__ alone -/
def rNeO (C : Addr) (sp : Sp) : R2 := fun x y H Q => ∃ (a b dx dy : Addr) (fs gs : List (Str × V)), x = .ref a ∧ y = .ref b ∧ H a = some (.ins C dx fs) ∧ H b = some (.ins C dy gs) ∧ sp [.ref a, .ref b] H (fun v H' => ∃ c : Bool, v = .bl c ∧ Q (.bl (!c)) H') (fun _ _ _ => False)
/-- what the written part says of such a class -/
structure NeC (K : PySem.W.Frag) (C f : Addr) : Prop where
  cls : ∃ nm q N bs hdct sn sub ab col dd k0 k1 k2 k3 k5 newId, K.lookup C = some (excClassObj nm q C N bs [.type "object"] hdct sn sub ab col dd k0 k1 k2 k3 k5 newId) ∧ PySem.W.nsOkIn K N = true ∧ PySem.W.nsIn K N "__eq__" = some (some (.ref f)) ∧ PySem.W.nsIn K N "__ne__" = some none
  fn : ∃ oF, K.lookup f = some oF ∧ oF.cls = .type "function"
theorem op_neO {X : Cx} {C f : Addr} {fd : FuncData} {k : Nat} {sp : Sp} {ps : List Str} (T : NeC X.K C f) (F : FnOk X.prog X.w X.K X.mg X.base CX0 k f fd ps sp) (hr : Room (k + 1) X.A) (hb : Binds X.K fd ps []) : OpR X (compareOp .NotEq) (rNeO C sp) := by
  intro pins s σ H x y v u Q I rx ry h
  obtain ⟨a, b, dx, dy, fs, gs, rfl, rfl, ha, hb', hq⟩ := h
  cases (show v = Value.ref a from rx)
  cases (show u = Value.ref b from ry)
  obtain ⟨nm, q, N, bs, hdct, sn, sub, ab, col, dd, k0, k1, k2, k3, k5, newId, hC, ok, heq, hne⟩ := T.cls
  obtain ⟨oF, hF, hFc⟩ := T.fn
  obtain ⟨mA, JA, _⟩ := ins_get I.hok ha
  obtain ⟨mB, JB, _⟩ := ins_get I.hok hb'
  obtain ⟨oda, JA, _⟩ := JA.look
  obtain ⟨odb, JB, _⟩ := JB.look
  have hns : s.heap.Ns N (s.heap.nsMap N) := .of_isNs (PySem.W.isNs_of_in I.kIn ok)
  have Y : s.heap.OwnEqNoNe a C f "object" [.type "object"] := ⟨_, _, nm, q, N, bs, hdct, sn, sub, ab, col, dd, k0, k1, k2, k3, k5, newId, _, _, JA.at_, JA.cls, I.kIn _ _ hC, hns, ns_some I.kIn hns heq, I.kIn _ _ hF, hFc, PySem.F.cmp_object.mro, PySem.F.cmp_object.eq.lookup, PySem.W.ns_none_of I.kIn hns hne⟩
  obtain ⟨hp, g, d, t, os⟩ := s
  refine compareOp_ne_ownEq PySem.F.cmp_object Y JB.at_ JB.cls (by have := hr.un; omega) ?_
  have e0 : Env0 X.prog X.w X.K X.mg X.base X.A.in1 X.stack ⟨hp, g, d, t, os⟩ H := by
    have e := I.env0
    exact ⟨e.frames, e.mod, e.bs, e.bsz, e.funs, e.frf, e.hok, e.bare⟩
  have hl := F.len _ _ _ _ hq
  have r2 : Vals [V.ref a, V.ref b] [Value.ref a, Value.ref b] := .cons rfl (.cons rfl .nil)
  refine wpAny_call (codeAny_mono (F.run X.A.in1 X.stack _ H ⟨[.ref a, .ref b], []⟩ [.ref a, .ref b] [.ref a, .ref b] _ (fun _ _ _ => False) hr.in1 e0 (by
    have := hb ⟨hp, g, d, t, os⟩ [.ref a, .ref b] I.kIn (by simpa using hl)
    simpa using this) r2 hq) fun r s' hq' => ?_)
  cases r with
  | error e => exact False.elim hq'
  | ok fl =>
    cases fl with
    | ret u =>
      obtain ⟨z, H', I', rz, c, ez, q'⟩ := I.after hq'
      subst ez
      cases (show u = Value.bool c from rz)
      exact ⟨c, rfl, .bl (!c), H', I', rfl, q'⟩
    | next => exact False.elim hq'
    | brk => exact False.elim hq'
    | cont => exact False.elim hq'
end Ru

set_option Elab.async false
set_option linter.all false
set_option maxRecDepth 100000
set_option maxHeartbeats 4000000
namespace Ru
open PySem PySem.Spec PyProof.Rows L2 BX EXB Co
section
variable {prog : Program} {w : World} {A : Around} {E : Value → Shared → Prop} {h : Heap} {g : Array GenState} {d : Drawn} {t : Nat} {os : OsState}
/-- a comparison by an own special def of the left thing, whatever stands on the right, so long as its type is none of the left one's heirs -/
theorem rich_ask {op : CmpOp} {sym : String} {f r : Str} {x C : Addr} {v tv : Value} {Q : Value → Shared → Prop} (hop : cmpInfo op = (sym, f, r)) {o : Obj} (px : h.get? x = some o) (pc : o.cls = .ref C)
    (ty : ∀ P : Value → Shared → Prop, P tv ⟨h, g, d, t, os⟩ → wpAny (model prog w) A (typeOf v) P E ⟨h, g, d, t, os⟩)
    (sb : ∀ (k : Bool → Sem Value) (P : Value → Shared → Prop), wpAny (model prog w) A (k false) P E ⟨h, g, d, t, os⟩ → wpAny (model prog w) A (if Value.ref C != tv then isSubtype tv (.ref C) >>= k else pure false >>= k) P E ⟨h, g, d, t, os⟩) (room : A.units < cLine)
    (ask : wpAny (model prog w) A (tryCompare (.ref x) f v) (fun a s' => ∃ u, a = some u ∧ Q u s') E ⟨h, g, d, t, os⟩) : wpAny (model prog w) A (richCompare op (.ref x) v) Q E ⟨h, g, d, t, os⟩ := by
  unfold richCompare
  simp only [oneThing_ref]
  refine wpAny_holding (wpAny_bind (wpAny_cRoomFor room ?_))
  rw [hop]
  dsimp only
  refine wpAny_bind (wpAny_typeOf_ref px ?_)
  rw [pc]
  refine wpAny_bind (ty _ (sb _ _ ?_))
  simp only [Bool.false_eq_true, if_false]
  refine wpAny_bind (wpAny_mono ask (fun a s' ha => ?_) fun _ _ e => e)
  obtain ⟨u, rfl, q⟩ := ha
  exact wpAny_pure q
/-- the right one is of a type of the language -/
theorem sb_type {C : Addr} {T : String} {m : List Value} (e : fastBuiltinMro T = some m) (n : m.contains (.ref C) = false) (k : Bool → Sem Value) (P : Value → Shared → Prop) (q : wpAny (model prog w) A (k false) P E ⟨h, g, d, t, os⟩) :
    wpAny (model prog w) A (if Value.ref C != Value.type T then isSubtype (.type T) (.ref C) >>= k else pure false >>= k) P E ⟨h, g, d, t, os⟩ := by
  rw [if_pos (by rfl), isSubtype_type, e]
  dsimp only
  rw [n]
  exact wpAny_bind (wpAny_pure q)
theorem mro_noref {C : Addr} {T : String} {m : List Value} (e : fastBuiltinMro T = some m) : m.contains (.ref C) = false := by
  unfold fastBuiltinMro at e
  obtain ⟨r, _, rfl⟩ := Option.map_eq_some_iff.mp e
  have : ∀ l : List String, (l.map Value.type).contains (.ref C) = false := fun l => by
    induction l with
    | nil => rfl
    | cons a l ih => rw [List.map_cons, List.contains_cons, ih]; rfl
  exact this _
/-- == asks the own __eq__ -/
theorem eq_ask {x C fA : Addr} {B : String} {v : Value} {Q : Value → Shared → Prop} (X : h.OwnSpecial x C fA B "__eq__") (c : wpAny (model prog w) A (call (.ref fA) [.ref x, v]) (fun u s' => ∃ b, u = .bool b ∧ Q u s') E ⟨h, g, d, t, os⟩) :
    wpAny (model prog w) A (tryCompare (.ref x) "__eq__" v) (fun a s' => ∃ u, a = some u ∧ Q u s') E ⟨h, g, d, t, os⟩ := by
  unfold tryCompare
  refine wpAny_bind (wpAny_callSpecialIfBound?_own X (wpAny_mono c (fun u s' hu => ?_) fun _ _ z => z))
  obtain ⟨b, rfl, q⟩ := hu
  exact wpAny_pure ⟨_, rfl, q⟩
/-- the other's != for a class with an own __eq__ alone -/
theorem ne_body {x C f : Addr} {B : String} {bm : List Value} {v : Value} (X : h.OwnEqNoNe x C f B bm) (room : A.units < cLine) {Q : Fin → Shared → Prop} (c : wpAny (model prog w) A (call (.ref f) [.ref x, v]) (fun u s' => ∃ b, u = .bool b ∧ Q (.done (.ret (.bool (!b)))) s') E ⟨h, g, d, t, os⟩) :
    wpAny (model prog w) A (Builtin.«object.__ne__» ⟨[.ref x, v], []⟩) Q E ⟨h, g, d, t, os⟩ := by
  unfold Builtin.«object.__ne__»
  repeat (first
    | with_reducible refine wpAny_cRoomFor room ?_
    | (refine wpAny_bind (m := callSpecialIfBound? (.ref x) (Str.ofString "__eq__") [v]) (wpAny_callSpecialIfBound?_own X.ownEq (wpAny_mono c (fun u s' hu => by
          obtain ⟨b, rfl, q⟩ := hu
          repeat (first | exact q | exact wpAny_pure q | exact wpAny_truthy_bool q | (refine wpAny_bind (m := truthy (.bool _)) (wpAny_truthy_bool ?_)) | wp_step)) fun _ _ z => z)))
    | wp_step)
theorem ne_ask {x C f : Addr} {B : String} {bm : List Value} {v : Value} {Q : Value → Shared → Prop} (FB : CmpFacts B bm) (X : h.OwnEqNoNe x C f B bm) (room : A.units + 1 < cLine) (c : wpAny (model prog w) A.in1 (call (.ref f) [.ref x, v]) (fun u s' => ∃ b, u = .bool b ∧ Q (.bool (!b)) s') E ⟨h, g, d, t, os⟩) :
    wpAny (model prog w) A (tryCompare (.ref x) "__ne__" v) (fun a s' => ∃ u, a = some u ∧ Q u s') E ⟨h, g, d, t, os⟩ := by
  obtain ⟨o, _, nm, q, N, bs, hdct, sn, sub, ab, col, dd, k0, k1, k2, k3, k5, newId, mN, _, px, pc, pC, pn, _, _, _, _, _, pe⟩ := id X
  simp only [tryCompare]
  refine wpAny_bind (wpAny_callSpecialIfBound?_inst px pc pC pn pe FB.mro FB.ne (wpAny_call (codeAny_call_builtin FB.ne.plain F.cmpEntry_ne (wpAny_check_slot_inst F.cmpKind_ne F.cmpSplit_ne (F.cmpArgs_ne _ _) FB.hasObject px pc pC (ne_body (A := A.in1) X room (wpAny_mono c (fun u s' hu => ?_) fun _ _ z => z))))))
  obtain ⟨b, rfl, q⟩ := hu
  first | exact ⟨b, rfl, wpAny_pure ⟨_, rfl, q⟩⟩ | exact ⟨b, rfl, wpAny_pure (wpAny_pure ⟨_, rfl, q⟩)⟩
end
/-- what may stand on the right: nothing, a truth, a whole number, a text, a list, a tuple, or an instance of a plain own class -/
def Rt (K : PySem.W.Frag) (H : Hp) (y : V) : Prop := y = .non ∨ (∃ b, y = .bl b) ∨ (∃ i, y = .int i) ∨ (∃ z, y = .str z) ∨ (∃ a xs, y = .ref a ∧ H a = some (.lst xs)) ∨ (∃ a xs, y = .ref a ∧ SqT K H a xs) ∨ ∃ a D dx fs f, y = .ref a ∧ H a = some (.ins D dx fs) ∧ NeC K D f
section
variable {X : Cx} {pins : List (Addr × Obj)} {σ : L2.St} {H : Hp} {s : Shared} {A : Around} {E : Value → Shared → Prop}
def Tyd (X : Cx) (A : Around) (E : Value → Shared → Prop) (s : Shared) (u : Value) : Prop := ∃ tv : Value, (∀ P : Value → Shared → Prop, P tv s → wpAny (model X.prog X.w) A (typeOf u) P E s) ∧
  ∀ (C : Addr) (k : Bool → Sem Value) (P : Value → Shared → Prop), wpAny (model X.prog X.w) A (k false) P E s → wpAny (model X.prog X.w) A (if Value.ref C != tv then isSubtype tv (.ref C) >>= k else pure false >>= k) P E s
theorem tyd_b {u : Value} {T : String} (e0 : (fastBuiltinMro T).isSome = true) (h : ∀ P : Value → Shared → Prop, P (.type T) s → wpAny (model X.prog X.w) A (typeOf u) P E s) : Tyd X A E s u := by
  obtain ⟨m, e⟩ := Option.isSome_iff_exists.mp e0
  obtain ⟨hp, g, d, t, os⟩ := s
  exact ⟨.type T, h, fun C k P q => sb_type e (mro_noref e) k P q⟩
theorem rt_ty (I : Inv X pins σ H s) {y : V} {u : Value} (h : Rt X.K H y) (r : RelV y u) : Tyd X A E s u := by
  rcases h with rfl | ⟨b, rfl⟩ | ⟨i, rfl⟩ | ⟨z, rfl⟩ | ⟨a, xs, rfl, e⟩ | ⟨a, xs, rfl, e⟩ | ⟨a, D, dx, fs, f, rfl, e, N⟩
  · cases (show u = Value.none from r)
    exact tyd_b (T := "NoneType") (by decide +kernel) fun P q => by simp only [typeOf]; exact wpAny_pure q
  · cases (show u = Value.bool b from r)
    exact tyd_b (T := "bool") (by decide +kernel) fun P q => by simp only [typeOf]; exact wpAny_pure q
  · obtain ⟨t, rfl⟩ := r
    exact tyd_b (T := "int") (by decide +kernel) fun P q => by simp only [typeOf]; exact wpAny_pure q
  · obtain ⟨t, rfl⟩ := r
    exact tyd_b (T := "str") (by decide +kernel) fun P q => by simp only [typeOf]; exact wpAny_pure q
  · cases (show u = Value.ref a from r)
    obtain ⟨_, its, n, _, _, ea⟩ := I.lstM e
    exact tyd_b (T := "list") (by decide +kernel) fun P q => wpAny_typeOf_ref ea q
  · cases (show u = Value.ref a from r)
    obtain ⟨its, _, ⟨o, ea, ec, _⟩, _⟩ := I.tuple e
    exact tyd_b (T := "tuple") (by decide +kernel) fun P q => wpAny_typeOf_ref ea (by rw [ec]; exact q)
  · cases (show u = Value.ref a from r)
    obtain ⟨nm, q, N', bs, hdct, sn, sub, ab, col, dd, k0, k1, k2, k3, k5, newId, hC, _⟩ := N.cls
    obtain ⟨mA, J, _⟩ := ins_get I.hok e
    obtain ⟨od, J, _⟩ := J.look
    have gD := I.kIn _ _ hC
    have ja := J.at_
    have jc := J.cls
    obtain ⟨hp, g, d, t, os⟩ := s
    refine ⟨.ref D, fun P p => wpAny_typeOf_ref ja (by rw [jc]; exact p), fun C k P p => wpAny_rightFirst_false (fun a => by first | rfl | simp) gD p⟩
/-- x == y (x != y), x an instance of the class at C with its own __eq__ alone, y of another kind or of its own -/
def rAsk (K : PySem.W.Frag) (C : Addr) (sp : Sp) (g : Bool → Bool) : R2 := fun x y H Q => ∃ (a dx : Addr) (fs : List (Str × V)), x = .ref a ∧ H a = some (.ins C dx fs) ∧ Rt K H y ∧ sp [.ref a, y] H (fun v H' => ∃ c : Bool, v = .bl c ∧ Q (.bl (g c)) H') E0
theorem own_ne {C f : Addr} {a dx : Addr} {fs : List (Str × V)} (T : NeC X.K C f) (I : Inv X pins σ H s) (ha : H a = some (.ins C dx fs)) : s.heap.OwnEqNoNe a C f "object" [.type "object"] ∧ ∃ o : Obj, s.heap.get? a = some o ∧ o.cls = .ref C := by
  obtain ⟨nm, q, N, bs, hdct, sn, sub, ab, col, dd, k0, k1, k2, k3, k5, newId, hC, ok, heq, hne⟩ := T.cls
  obtain ⟨oF, hF, hFc⟩ := T.fn
  obtain ⟨mA, J, _⟩ := ins_get I.hok ha
  obtain ⟨od, J, _⟩ := J.look
  have hns : s.heap.Ns N (s.heap.nsMap N) := .of_isNs (PySem.W.isNs_of_in I.kIn ok)
  exact ⟨⟨_, _, nm, q, N, bs, hdct, sn, sub, ab, col, dd, k0, k1, k2, k3, k5, newId, _, _, J.at_, J.cls, I.kIn _ _ hC, hns, ns_some I.kIn hns heq, I.kIn _ _ hF, hFc, PySem.F.cmp_object.mro, PySem.F.cmp_object.eq.lookup, PySem.W.ns_none_of I.kIn hns hne⟩, _, J.at_, J.cls⟩
/-- the own __eq__, asked -/
theorem ask_run {f : Addr} {fd : FuncData} {k : Nat} {sp : Sp} {ps : List Str} {B : Around} (F : FnOk X.prog X.w X.K X.mg X.base CX0 k f fd ps sp) (hr : Room k B) (fr : B = X.A ∨ B = X.A.in1) (hb : Binds X.K fd ps []) (I : Inv X pins σ H s) {a : Addr} {y : V} {u : Value} (ry : RelV y u) {Q : Bool → VK} (hq : sp [.ref a, y] H (fun v H' => ∃ c : Bool, v = .bl c ∧ Q c (.bl c) H') E0) {E2 : Value → Shared → Prop} :
    wpAny (model X.prog X.w) B (call (.ref f) [.ref a, u]) (fun z s' => ∃ b, z = .bool b ∧ ∃ H', Inv X pins σ H' s' ∧ Q b (.bl b) H') E2 s := by
  have e0 : Env0 X.prog X.w X.K X.mg X.base B X.stack s H := by
    rcases fr with e | e
    · rw [e]; exact I.env0
    · rw [e]
      have z := I.env0
      exact ⟨z.frames, z.mod, z.bs, z.bsz, z.funs, z.frf, z.hok, z.bare⟩
  have hl := F.len _ _ _ _ hq
  have r2 : Vals [V.ref a, y] [Value.ref a, u] := .cons rfl (.cons ry .nil)
  refine wpAny_call (codeAny_mono (F.run B X.stack _ H ⟨[.ref a, u], []⟩ [.ref a, u] [.ref a, y] _ (fun _ _ _ => False) hr e0 (by
    have := hb s [.ref a, u] I.kIn (by simpa using hl)
    simpa using this) r2 hq) fun r s' hq' => ?_)
  cases r with
  | error e => exact False.elim hq'
  | ok fl =>
    cases fl with
    | ret z =>
      obtain ⟨v, H', I', rz, c, ez, q'⟩ := I.after hq'
      subst ez
      cases (show z = Value.bool c from rz)
      exact ⟨c, rfl, H', I', q'⟩
    | next => exact False.elim hq'
    | brk => exact False.elim hq'
    | cont => exact False.elim hq'
theorem op_eqA {C f : Addr} {fd : FuncData} {k : Nat} {sp : Sp} {ps : List Str} (T : NeC X.K C f) (F : FnOk X.prog X.w X.K X.mg X.base CX0 k f fd ps sp) (hr : Room (k + 1) X.A) (hb : Binds X.K fd ps []) : OpR X (compareOp .Eq) (rAsk X.K C sp id) := by
  intro pins s σ H x y v u Q I rx ry h
  obtain ⟨a, dx, fs, rfl, ha, hy, hq⟩ := h
  cases (show v = Value.ref a from rx)
  obtain ⟨Y, o, px, pc⟩ := own_ne T I ha
  obtain ⟨tv, ty, sb⟩ := rt_ty (A := X.A) (E := X.xe) I hy ry
  have c := ask_run (E2 := X.xe) F (hr.mono (by omega)) (.inl rfl) hb I ry (Q := fun b _ H' => Q (.bl b) H') hq
  obtain ⟨hp, g, d, t, os⟩ := s
  unfold compareOp
  refine rich_ask cmpInfo_Eq px pc ty (sb C) (by have := hr.un; omega) (eq_ask Y.ownEq (wpAny_mono c (fun z s' hz => ?_) fun _ _ e => e))
  obtain ⟨b, rfl, H', I', q⟩ := hz
  exact ⟨b, rfl, .bl b, H', I', rfl, q⟩
theorem op_neA {C f : Addr} {fd : FuncData} {k : Nat} {sp : Sp} {ps : List Str} (T : NeC X.K C f) (F : FnOk X.prog X.w X.K X.mg X.base CX0 k f fd ps sp) (hr : Room (k + 1) X.A) (hb : Binds X.K fd ps []) : OpR X (compareOp .NotEq) (rAsk X.K C sp not) := by
  intro pins s σ H x y v u Q I rx ry h
  obtain ⟨a, dx, fs, rfl, ha, hy, hq⟩ := h
  cases (show v = Value.ref a from rx)
  obtain ⟨Y, o, px, pc⟩ := own_ne T I ha
  obtain ⟨tv, ty, sb⟩ := rt_ty (A := X.A) (E := X.xe) I hy ry
  have c := ask_run (E2 := X.xe) F hr.in1 (.inr rfl) hb I ry (Q := fun b _ H' => Q (.bl (!b)) H') hq
  obtain ⟨hp, g, d, t, os⟩ := s
  unfold compareOp
  refine rich_ask cmpInfo_NotEq px pc ty (sb C) (by have := hr.un; omega) (ne_ask PySem.F.cmp_object Y (by have := hr.un; omega) (wpAny_mono c (fun z s' hz => ?_) fun _ _ e => e))
  obtain ⟨b, rfl, H', I', q⟩ := hz
  exact ⟨b, rfl, .bl (!b), H', I', rfl, q⟩
end
end Ru

set_option Elab.async false
set_option linter.all false
set_option maxRecDepth 100000
set_option maxHeartbeats 4000000
/-! str(x), repr(x) of an own class's instance; an f-string's own list; x in [None, y] -/
namespace Ru
open PySem PySem.Spec PyProof.Rows L2 BX EXB Co
def rTxO (C : Addr) (sp : Sp) : List V → Hp → VK → Prop := fun xs H Q => ∃ (x dx : Addr) (fs : List (Str × V)), xs = [.ref x] ∧ H x = some (.ins C dx fs) ∧ sp [.ref x] H (fun v H' => ∃ z : Str, v = .str z ∧ Q (.str z) H') (fun _ _ _ => False)
section
variable {X : Cx} {pins : List (Addr × Obj)} {σ : L2.St} {H : Hp} {s : Shared}
theorem env_in1 {B : Around} (e : Env0 X.prog X.w X.K X.mg X.base B X.stack s H) : Env0 X.prog X.w X.K X.mg X.base B.in1 X.stack s H := ⟨e.frames, e.mod, e.bs, e.bsz, e.funs, e.frf, e.hok, e.bare⟩
theorem back_text {r : Result} {s' : Shared} {Q : VK} {E2 : Value → Shared → Prop} (I : Inv X pins σ H s) (hq : CR CX0 X.stack X.prog X.w H s (fun v H' => ∃ z : Str, v = .str z ∧ Q (.str z) H') (fun _ _ _ => False) r s') : wants (PySem.W.StrBack (EP X pins σ Q)) E2 r s' := by
  cases r with
  | error e => exact False.elim hq
  | ok fl =>
    cases fl with
    | ret u =>
      obtain ⟨v, H', I', rz, z, ez, q⟩ := I.after hq
      subst ez
      obtain ⟨t, rfl⟩ := (show ∃ t, u = Value.str z t from rz)
      exact ⟨.str z, H', I', ⟨_, rfl⟩, q⟩
    | next => exact False.elim hq
    | brk => exact False.elim hq
    | cont => exact False.elim hq
/-- str(x), x an instance with its own __str__ -/
theorem call_strO {C f : Addr} {fd : FuncData} {k : Nat} {sp : Sp} (hs : PySem.W.findIn X.K (.ref C) "__str__" = some (some (.ref f))) (hf : PySem.W.isFn X.K (.ref f) = true) (F : FnOk X.prog X.w X.K X.mg X.base CX0 k f fd ["self"] sp) (hr : Room (k + 2) X.A) (hb : Binds X.K fd ["self"] []) :
    CallR X (.type "str") (rTxO C sp) := by
  intro pins s σ H xs us Q I r h
  obtain ⟨x, dx, fs, rfl, hx, hq⟩ := h
  cases r with
  | @cons _ u _ _ ru rn =>
    cases rn
    cases (show u = Value.ref x from ru)
    obtain ⟨mA, J, _⟩ := ins_get I.hok hx
    obtain ⟨od, J, _⟩ := J.look
    have e0 := env_in1 (env_in1 I.env0)
    have r2 : Vals [V.ref x] [Value.ref x] := .cons rfl .nil
    refine PySem.W.kso_call (hr.in1.in1.units0) I.kIn J hs hf ?_
    exact wpAny_call (codeAny_mono (F.run _ X.stack s H ⟨[.ref x], []⟩ [.ref x] [.ref x] _ (fun _ _ _ => False) hr.in1.in1 e0 (by
      have := hb s [.ref x] I.kIn rfl
      simpa using this) r2 hq) fun r s' hq' => back_text I hq')
/-- repr(x), x an instance with its own __repr__ -/
theorem call_reprOw {C f : Addr} {fd : FuncData} {k : Nat} {sp : Sp} (hs : PySem.W.findIn X.K (.ref C) "__repr__" = some (some (.ref f))) (hf : PySem.W.isFn X.K (.ref f) = true) (F : FnOkG X.prog X.w X.K X.mg X.base CX0 k f fd ["self"] sp) (hr : Room (k + 1) X.A) (hgd : X.A.guards = some []) (hb : Binds X.K fd ["self"] []) :
    CallR X (.builtin "repr") (rTxO C sp) := by
  intro pins s σ H xs us Q I r h
  obtain ⟨x, dx, fs, rfl, hx, hq⟩ := h
  cases r with
  | @cons _ u _ _ ru rn =>
    cases rn
    cases (show u = Value.ref x from ru)
    obtain ⟨mA, J, _⟩ := ins_get I.hok hx
    obtain ⟨od, J, _⟩ := J.look
    obtain ⟨m, hF⟩ := I.fr
    have e0 := env_in1 I.env0
    have r2 : Vals [V.ref x] [Value.ref x] := .cons rfl .nil
    refine PySem.W.repr_K (hr.in1.units0) hF I.ok.mod.kin J hs hf ?_
    exact wpAny_call (codeAny_mono (F.run _ X.stack s H ⟨[.ref x], []⟩ [.ref x] [.ref x] _ (fun _ _ _ => False) hr.in1 hgd e0 (by
      have := hb s [.ref x] I.kIn rfl
      simpa using this) r2 hq) fun r s' hq' => back_text I hq')
/-- {x!r}: a list or tuple of data -/
def tFmtD (K : PySem.W.Frag) (te : TE) : TE := fun σ H Q => te σ H fun x H1 => ∃ a d, x = .ref a ∧ Dp K H1 x d ∧ d.showable = true ∧ d.depth ≤ 64 ∧ d.shown.length ≤ sizeLine ∧ Q (.str d.shown) H1
theorem pe_fmtD (hgd : X.A.guards = some []) (hu : X.A.units + 80 < cLine) {e : Expr} {te : TE} {pos : Pos} (he : PE X e te) : PE X (.FormattedValue e 114 none pos) (tFmtD X.K te) := by
  refine ⟨fun pins s σ H Q I h => ?_⟩
  refine wpAny_FormattedValue_repr (thn (he.run pins s σ H _ I h) fun v s1 hv => ?_)
  obtain ⟨x, H1, I1, r1, a, d, rfl, hd, hs, hdp, hsz, q⟩ := hv
  cases (show v = Value.ref a from r1)
  obtain ⟨as, rd⟩ := Dp.reads I1 _ _ _ hd (show RelV (.ref a) (.ref a) from rfl)
  have nd := noDict d _ hd
  refine pyReprObj_of_reads rd hs (fun z => by rw [nd] at z; cases z) hgd (by omega) (fun _ _ z => z) (fun h' u tk hk => ?_) hsz
  exact wpAny_formatField_str ⟨.str d.shown, H1, I1.kept hk, ⟨_, rfl⟩, q⟩ ⟨.str d.shown, H1, (I1.kept (t' := tk) hk).tok _, ⟨_, rfl⟩, q⟩ hsz
end
end Ru

set_option Elab.async false
set_option linter.all false
set_option maxRecDepth 100000
set_option maxHeartbeats 4000000
/-! x in [None, y] by an own __eq__ -/
namespace Ru
open PySem PySem.Spec PyProof.Rows L2 BX EXB Co
open AutoSeq1 (wpAny_loadPart')
open MeetsSeq MeetsSeq2 MeetsSeq3 SeqRoads2 SeqAt
section
variable {prog : Program} {w : World} {A : Around} {R : Result → Shared → Prop}
/-- a turn of `in` over a list whose i-th thing is y -/
theorem in_turn {l : Addr} {items : Array Value} {n : Nat} {x y : Value} {i : Nat} {s : Shared} (hl : s.heap.get? l = some { cls := .type "list", data := .seq items n }) (hi : items[i]? = some y)
    (h : wpAny (model prog w) A.in1 (eqBool y x) (fun b s' => if b = true then R (.ok (.ret (.bool true))) s' else
      wpAny (model prog w) A.in1 (Builtin.«list.__contains__.loop» ⟨[.ref l, x, rawInt (i + 1 : Nat)], []⟩) (GQ.FinOf prog w A R) (fun e s' => R (.error e) s') s') (fun e s' => R (.error e) s') s) :
    wpAny (model prog w) A.in1 (Builtin.«list.__contains__.loop» ⟨[.ref l, x, rawInt i], []⟩) (GQ.FinOf prog w A R) (fun e s' => R (.error e) s') s := by
  obtain ⟨hp, g, d, tk, os⟩ := s
  wp_walk using wpAny_loadPart' hl
  have hi' : items[((i : Nat) : Int).toNat]? = some y := hi
  rw [hi']
  refine wpAny_bind (wpAny_mono h (fun b s2 h2 => ?_) fun _ _ x => x)
  obtain ⟨hp2, g2, d2, tk2, os2⟩ := s2
  cases b with
  | true =>
    wp_walk
    exact h2
  | false =>
    have hc : ((i : Int) + 1) = ((i + 1 : Nat) : Int) := by push_cast; rfl
    wp_walk
    rw [hc]
    exact ⟨plainId_quiet plain_contains_loop _, codeAny_builtin entry_contains_loop (by
      rw [Around.under_plainId plain_contains_loop _]
      exact h2)⟩
theorem in_done {l : Addr} {items : Array Value} {n : Nat} {x : Value} {i : Nat} {s : Shared} (hl : s.heap.get? l = some { cls := .type "list", data := .seq items n }) (hi : items[i]? = none) (h : R (.ok (.ret (.bool false))) s) :
    wpAny (model prog w) A.in1 (Builtin.«list.__contains__.loop» ⟨[.ref l, x, rawInt i], []⟩) (GQ.FinOf prog w A R) (fun e s' => R (.error e) s') s := by
  obtain ⟨hp, g, d, tk, os⟩ := s
  wp_walk using wpAny_loadPart' hl
  have hi' : items[((i : Nat) : Int).toNat]? = none := hi
  rw [hi']
  wp_walk
  exact h
theorem in_begin {l : Addr} {items : Array Value} {n : Nat} {x : Value} {s : Shared} (hl : s.heap.get? l = some { cls := .type "list", data := .seq items n })
    (h : wpAny (model prog w) A.in1 (Builtin.«list.__contains__.loop» ⟨[.ref l, x, rawInt (0 : Nat)], []⟩) (GQ.FinOf prog w A R) (fun e s' => R (.error e) s') s) :
    wpAny (model prog w) A.in1 (Builtin.«list.__contains__» ⟨[.ref l, x], []⟩) (GQ.FinOf prog w A R) (fun e s' => R (.error e) s') s := by
  obtain ⟨hp, g, d, tk, os⟩ := s
  wp_walk using wpAny_loadPart' hl
  exact ⟨plainId_quiet plain_contains_loop _, codeAny_builtin entry_contains_loop (by
    rw [Around.under_plainId plain_contains_loop _]
    exact h)⟩
end
section
variable {prog : Program} {w : World} {A : Around} {E : Value → Shared → Prop} {h : Heap} {g : Array GenState} {d : Drawn} {t : Nat} {os : OsState}
/-- None == x asks x's own __eq__ -/
theorem none_ask {x C : Addr} {Q : Value → Shared → Prop} (room : A.units < cLine) {o : Obj} (px : h.get? x = some o) (pc : o.cls = .ref C)
    (sb : PySem.W.Looks (model prog w) h (isSubtype (.ref C) (.type "NoneType")) false)
    (ask : wpAny (model prog w) A (tryCompare (.ref x) "__eq__" .none) (fun a s' => ∃ u, a = some u ∧ Q u s') E ⟨h, g, d, t, os⟩) : wpAny (model prog w) A (richCompare .Eq .none (.ref x)) Q E ⟨h, g, d, t, os⟩ := by
  unfold richCompare
  simp only [(show oneThing? .Eq .none (.ref x) = none from rfl)]
  refine wpAny_holding (wpAny_bind (wpAny_cRoomFor room ?_))
  rw [cmpInfo_Eq]
  dsimp only
  refine wpAny_bind (wpAny_typeOf (T := "NoneType") rfl ?_)
  refine wpAny_bind (wpAny_typeOf_ref px ?_)
  rw [pc]
  rw [if_pos (by rfl)]
  refine wpAny_bind (sb.here ?_)
  simp only [Bool.false_eq_true, if_false, Bool.not_false, if_true]
  refine wpAny_bind (m := tryCompare .none _ (.ref x)) (wpAny_tryCompare_declines (T := "NoneType") rfl F.slot_NoneType_eq (call_gives F.slot_NoneType_eq rfl F.entry_NoneType_eq (F.args_NoneType_eq_2 _ _) (NoneType___eq___none_ref_0 x) ⟨rfl, ?_⟩))
  refine wpAny_bind (wpAny_mono ask (fun a s' ha => ?_) fun _ _ e => e)
  obtain ⟨u, rfl, q⟩ := ha
  exact wpAny_pure q
end
section
variable {X : Cx}
def rInNY (K : PySem.W.Frag) (C : Addr) (sp : Sp) : R2 := fun x y H Q => ∃ (a b l dx dy : Addr) (fs gs : List (Str × V)), x = .ref a ∧ y = .ref l ∧ H l = some (.lst [.non, .ref b]) ∧ H a = some (.ins C dx fs) ∧ H b = some (.ins C dy gs) ∧ a ≠ b ∧
  sp [.ref a, .non] H (fun v H1 => ∃ c : Bool, v = .bl c ∧ c = false ∧ H1 l = some (.lst [.non, .ref b]) ∧ (∃ (ex ey : Addr) (gs1 gs2 : List (Str × V)), H1 a = some (.ins C ex gs1) ∧ H1 b = some (.ins C ey gs2)) ∧
    sp [.ref b, .ref a] H1 (fun v H2 => ∃ c : Bool, v = .bl c ∧ H2 l = some (.lst [.non, .ref b]) ∧ Q (.bl c) H2) E0) E0
theorem op_inNY {C f : Addr} {fd : FuncData} {k : Nat} {sp : Sp} {ps : List Str} (T : NeC X.K C f) (nn : PySem.W.mroIn X.K C (.type "NoneType") = some false) (G : FnOk X.prog X.w X.K X.mg X.base CX0 k f fd ps sp) (hr : Room (k + 2) X.A) (hb : Binds X.K fd ps []) : OpR X (compareOp .In) (rInNY X.K C sp) := by
  intro pins s σ H x y v u Q I rx ry h
  obtain ⟨a, b, l, dx, dy, fs, gs, rfl, rfl, hl, ha, hb', ab, hq⟩ := h
  cases (show v = Value.ref a from rx)
  cases (show u = Value.ref l from ry)
  have lst : ∀ {H1 : Hp} {s1 : Shared}, Inv X pins σ H1 s1 → H1 l = some (.lst [.non, .ref b]) → ∃ n, s1.heap.get? l = some { cls := .type "list", data := .seq #[.none, .ref b] n } := fun {H1 s1} I1 e => by
    obtain ⟨_, its, n, r, _, ho⟩ := I1.lstM e
    cases r with
    | cons r1 r =>
      cases r with
      | cons r2 r =>
        cases r
        cases r1
        cases r2
        exact ⟨n, ho⟩
  obtain ⟨n, hls⟩ := lst I hl
  show wpAny (model X.prog X.w) X.A (do return Value.bool (← contains (.ref l) (.ref a))) (EP X pins σ Q) X.xe s
  refine wpAny_bind (wpAny_contains_slot ⟨_, hls, rfl⟩ F.slot_list_contains (wpAny_mono (GQ.call_here F.slot_list_contains ⟨_, hls, rfl⟩ F.entry_list_contains (F.args_list_contains_2 _ _) (in_begin (R := wants (fun v s' => ∃ b : Bool, v = .bool b ∧ EP X pins σ Q (.bool b) s') X.xe) hls ?_)) (fun v s' hv => ?_) fun _ _ e => e))
  rotate_left
  · obtain ⟨b, rfl, q⟩ := hv
    exact wpAny_truthy_bool (wpAny_pure q)
  refine in_turn (y := .none) hls rfl ?_
  unfold eqBool
  refine wpAny_holding (wpAny_ite_split (fun hab => absurd (eq_of_beq hab) nofun) (fun _ => ?_))
  obtain ⟨Y, o, px, pc⟩ := own_ne T I ha
  have c1 := ask_run (E2 := fun e s' => wants (fun v s' => ∃ b : Bool, v = .bool b ∧ EP X pins σ Q (.bool b) s') X.xe (.error e) s') G (B := X.A.in1) (hr.in1.mono (by omega)) (.inr rfl) hb I (a := a) (y := .non) (u := .none) rfl
    (Q := fun c _ H1 => c = false ∧ H1 l = some (.lst [.non, .ref b]) ∧ (∃ (ex ey : Addr) (gs1 gs2 : List (Str × V)), H1 a = some (.ins C ex gs1) ∧ H1 b = some (.ins C ey gs2)) ∧ sp [.ref b, .ref a] H1 (fun v H2 => ∃ c : Bool, v = .bl c ∧ H2 l = some (.lst [.non, .ref b]) ∧ Q (.bl c) H2) E0) hq
  have sb := PySem.W.looks_mroIn (M := model X.prog X.w) I.kIn nn
  have room := (hr.in1).units0
  obtain ⟨hp, g, d, t, os⟩ := s
  refine wpAny_bind (none_ask room px pc sb (eq_ask Y.ownEq (wpAny_mono c1 (fun z s' hz => ?_) fun _ _ e => e)))
  obtain ⟨c, rfl, H1, I1, rfl, hl1, ⟨ex, ey, gs1, gs2, ha1, hb1⟩, hq1⟩ := hz
  refine ⟨_, rfl, wpAny_truthy_bool ?_⟩
  rw [if_neg (by decide)]
  obtain ⟨n1, hls1⟩ := lst I1 hl1
  obtain ⟨Y1, o1, px1, pc1⟩ := own_ne T I1 hb1
  refine in_turn (i := 1) (y := .ref b) hls1 rfl ?_
  obtain ⟨tv, ty, sb1⟩ := rt_ty (A := X.A.in1) (E := fun e s' => wants (fun v s' => ∃ b : Bool, v = .bool b ∧ EP X pins σ Q (.bool b) s') X.xe (.error e) s') I1 (y := .ref a) (.inr (.inr (.inr (.inr (.inr (.inr ⟨a, C, ex, gs1, f, rfl, ha1, T⟩)))))) (u := .ref a) rfl
  have c2 := ask_run (E2 := fun e s' => wants (fun v s' => ∃ b : Bool, v = .bool b ∧ EP X pins σ Q (.bool b) s') X.xe (.error e) s') G (B := X.A.in1) (hr.in1.mono (by omega)) (.inr rfl) hb I1 (a := b) (y := .ref a) (u := .ref a) rfl
    (Q := fun c _ H2 => H2 l = some (.lst [.non, .ref b]) ∧ Q (.bl c) H2) hq1
  obtain ⟨hp1, g1, d1, t1, os1⟩ := s'
  refine GQ.eqBool_refG (Ne.symm ab) (rich_ask cmpInfo_Eq px1 pc1 ty (sb1 C) room (eq_ask Y1.ownEq (wpAny_mono c2 (fun z s' hz => ?_) fun _ _ e => e)))
  obtain ⟨c, rfl, H2, I2, hl2, q⟩ := hz
  refine ⟨_, rfl, c, rfl, ?_⟩
  cases c with
  | true =>
    rw [if_pos rfl]
    exact ⟨true, rfl, .bl true, H2, I2, rfl, q⟩
  | false =>
    rw [if_neg (by decide)]
    obtain ⟨n2, hls2⟩ := lst I2 hl2
    exact in_done (i := 2) hls2 rfl ⟨false, rfl, .bl false, H2, I2, rfl, q⟩
end
end Ru

set_option Elab.async false
set_option linter.all false
set_option maxRecDepth 100000
set_option maxHeartbeats 4000000
/-! the truth of an own class's instance by its own __len__ -/
namespace Ru
open PySem PySem.Spec PyProof.Rows L2 BX EXB Co
def rTruO (C : Addr) (sp : Sp) : V → Hp → (Bool → Hp → Prop) → Prop := fun x H Q => ∃ (a dx : Addr) (fs : List (Str × V)), x = .ref a ∧ H a = some (.ins C dx fs) ∧ sp [.ref a] H (fun v H' => ∃ n : Nat, v = .int (n : Int) ∧ n < 1000 ∧ Q (decide (n ≠ 0)) H') (fun _ _ _ => False)
section
variable {X : Cx}
open PySem.Calls in
theorem tru_lenO {C f : Addr} {fd : FuncData} {k : Nat} {sp : Sp} (hb0 : PySem.W.findIn X.K (.ref C) "__bool__" = some none) (hs : PySem.W.findIn X.K (.ref C) "__len__" = some (some (.ref f))) (hf : PySem.W.isFn X.K (.ref f) = true) (F : FnOk X.prog X.w X.K X.mg X.base CX0 k f fd ["self"] sp) (hr : Room (k + 1) X.A) (hb : Binds X.K fd ["self"] []) :
    TruR X (rTruO C sp) := by
  intro pins s σ H x v Q I rx h
  obtain ⟨a, dx, fs, rfl, ha, hq⟩ := h
  cases (show v = Value.ref a from rx)
  obtain ⟨mA, J, _⟩ := ins_get I.hok ha
  obtain ⟨od, J, _⟩ := J.look
  have X0 := I.kIn
  have e0 : Env0 X.prog X.w X.K X.mg X.base X.A X.stack s H := I.env0
  have r2 : Vals [V.ref a] [Value.ref a] := .cons rfl .nil
  have c : ∀ {B : Around} {E2 : Value → Shared → Prop}, B = X.A ∨ B = X.A.in1 → wpAny (model X.prog X.w) B (call (.ref f) [.ref a]) (fun u s' => ∃ n : Nat, (∃ t, u = .int (n : Int) t) ∧ n < 1000 ∧ ∃ H', Inv X pins σ H' s' ∧ Q (decide (n ≠ 0)) H') E2 s := fun {B E2} hB => by
    have rB : Room k B := by rcases hB with rfl | rfl; exact hr.mono (by omega); exact hr.in1
    have eB : Env0 X.prog X.w X.K X.mg X.base B X.stack s H := by rcases hB with rfl | rfl; exact e0; exact env_in1 e0
    refine wpAny_call (codeAny_mono (F.run B X.stack s H ⟨[.ref a], []⟩ [.ref a] [.ref a] _ (fun _ _ _ => False) rB eB (by
      have := hb s [.ref a] I.kIn rfl
      simpa using this) r2 hq) fun r s' hq' => ?_)
    cases r with
    | error e => exact False.elim hq'
    | ok fl =>
      cases fl with
      | ret u =>
        obtain ⟨z, H', I', rz, n, ez, hn, q⟩ := I.after hq'
        subst ez
        exact ⟨n, rz, hn, H', I', q⟩
      | next => exact False.elim hq'
      | brk => exact False.elim hq'
      | cont => exact False.elim hq'
  have key : wpAny (model X.prog X.w) X.A (runValue (.builtin "len" ⟨[.ref a], []⟩)) (fun r s' => ∃ n : Nat, (∃ t, r = .int (n : Int) t) ∧ ∃ H', Inv X pins σ H' s' ∧ Q (decide (n ≠ 0)) H') X.xe s := by
    refine wpAny_runValue (codeAny_builtin entry_len ?_)
    rw [Around.under_plainId plain_len _]
    unfold Builtin.«len»
    refine wpAny_bind (m := oneArg "len" _) (wpAny_pure ?_)
    refine wpAny_bind (m := callSpecial? (.ref a) (Str.ofString "__len__")) (PySem.W.special_fn X0 J hs (beq_iff_eq.mp hf) (wpAny_mono (c (by first | exact .inl rfl | exact .inr rfl)) (fun r s' hr => ?_) fun _ _ y => y))
    obtain ⟨n, ⟨t, rfl⟩, hn, H', I', q⟩ := hr
    refine wpAny_bind (wpAny_holding (wpAny_pure ?_))
    refine wpAny_bind (wpAny_letGo ?_)
    show wpAny _ _ (if ((n : Nat) : Int) < 0 then _ else _) _ _ _
    rw [if_neg (by omega)]
    show wpAny _ _ (if ((n : Nat) : Int) ≥ 2 ^ 63 then _ else _) _ _ _
    rw [if_neg (by omega)]
    exact wpAny_bind (wpAny_mkInt (wpAny_pure ⟨n, ⟨_, rfl⟩, H', I'.tok _, q⟩))
  have ne : ∀ n : Nat, ((n : Int) != 0) = decide (n ≠ 0) := fun n => by cases n <;> simp <;> omega
  unfold truthy
  refine wpAny_bind (m := callSpecial? (.ref a) (Str.ofString "__bool__")) (wpAny_bind (wpAny_bind (J.type.here ((PySem.W.looks_findIn X0 hb0).here (wpAny_pure ?_)))))
  refine wpAny_bind (wpAny_bind (J.type.here ((PySem.W.looks_findIn X0 hs).here ?_)))
  refine wpAny_bind (wpAny_mono key (fun r s' h' => ?_) fun _ _ e => e)
  obtain ⟨n, ⟨t, rfl⟩, H', I', q⟩ := h'
  refine wpAny_pure ?_
  rw [ne]
  exact ⟨H', I', q⟩
end
end Ru

set_option Elab.async false
set_option linter.all false
set_option maxRecDepth 100000
set_option maxHeartbeats 4000000
namespace Hr
open PySem PySem.Spec PyProof.Rows L2 BX EXB Co Ru
open Dz Cs
open Fr (Bd)
/-- the first of l whose key is the greatest -/
def IsDone (key : Nat → Rat) (l : List Nat) (d : Nat) : Prop := ∃ j : Nat, l[j]? = some d ∧ (∀ e ∈ l, key e ≤ key d) ∧ ∀ (i e : Nat), i < j → l[i]? = some e → key e < key d
theorem IsDone.mem {key : Nat → Rat} {l : List Nat} {d : Nat} (h : IsDone key l d) : d ∈ l := let ⟨_, e, _⟩ := h; List.mem_of_getElem? e
theorem IsDone.uniq {key : Nat → Rat} {l : List Nat} {d e : Nat} (h1 : IsDone key l d) (h2 : IsDone key l e) : d = e := by
  obtain ⟨i, a1, a2, a3⟩ := h1
  obtain ⟨j, b1, b2, b3⟩ := h2
  rcases Nat.lt_trichotomy i j with h | h | h
  · exact absurd (b3 i d h a1) (Rat.not_lt.mpr (a2 e (List.mem_of_getElem? b1)))
  · subst h
    rw [a1] at b1
    exact Option.some.inj b1
  · exact absurd (a3 j e h b1) (Rat.not_lt.mpr (b2 d (List.mem_of_getElem? a1)))
theorem IsDone.one (key : Nat → Rat) (d : Nat) : IsDone key [d] d := ⟨0, rfl, fun e he => by rw [List.mem_singleton.mp he]; exact Rat.le_refl, fun i e hi => absurd hi (Nat.not_lt_zero _)⟩
theorem IsDone.more {key : Nat → Rat} {l : List Nat} {d e : Nat} (h : IsDone key l d) (hlt : key d < key e) : IsDone key (l ++ [e]) e := by
  obtain ⟨j, a1, a2, a3⟩ := h
  refine ⟨l.length, by rw [List.getElem?_append_right (Nat.le_refl _), Nat.sub_self]; rfl, fun x hx => ?_, fun i x hi hx => ?_⟩
  · rcases List.mem_append.mp hx with hx | hx
    · exact Rat.le_trans (a2 x hx) (Rat.le_of_lt hlt)
    · rw [List.mem_singleton.mp hx]
      exact Rat.le_refl
  · rw [List.getElem?_append_left hi] at hx
    exact Std.lt_of_le_of_lt (a2 x (List.mem_of_getElem? hx)) hlt
theorem IsDone.stay {key : Nat → Rat} {l : List Nat} {d e : Nat} (h : IsDone key l d) (hn : ¬ key d < key e) : IsDone key (l ++ [e]) d := by
  obtain ⟨j, a1, a2, a3⟩ := h
  have hj : j < l.length := (List.getElem?_eq_some_iff.mp a1).1
  refine ⟨j, by rw [List.getElem?_append_left hj]; exact a1, fun x hx => ?_, fun i x hi hx => ?_⟩
  · rcases List.mem_append.mp hx with hx | hx
    · exact a2 x hx
    · rw [List.mem_singleton.mp hx]
      exact Rat.not_lt.mp hn
  · rw [List.getElem?_append_left (by omega)] at hx
    exact a3 i x hi hx
theorem first_at {α : Type} [DecidableEq α] : ∀ {l : List α} {x : α}, x ∈ l → ∃ j : Nat, l[j]? = some x ∧ ∀ (m : Nat) (y : α), m < j → l[m]? = some y → y ≠ x
  | [], x, h => by cases h
  | y :: l, x, h => by
    by_cases e : y = x
    · exact ⟨0, by rw [e]; rfl, fun m z hm => absurd hm (Nat.not_lt_zero _)⟩
    · have : x ∈ l := by
        rcases List.mem_cons.mp h with h | h
        · exact absurd h.symm e
        · exact h
      obtain ⟨j, a, b⟩ := first_at this
      refine ⟨j + 1, a, fun m z hm hz => ?_⟩
      cases m with
      | zero => cases (Option.some.inj hz); exact e
      | succ m => exact b m z (by omega) hz
def keyT (tss : List (List Rat)) (ws : List Rat) (hard : Bool) (d : Nat) : Rat := if hard = true then 0 - wq tss ws d else wq tss ws d
theorem keyT_f {tss : List (List Rat)} {ws : List Rat} : keyT tss ws false = wq tss ws := rfl
theorem neg_lt' {a b : Rat} : (0 - a < 0 - b) ↔ b < a := by
  constructor
  · intro h
    have := (Rat.add_lt_add_left (c := a + b)).mpr h
    have e1 : a + b + (0 - a) = b := by rw [Rat.sub_eq_add_neg, Rat.zero_add, Rat.add_comm a b, Rat.add_assoc, Rat.add_neg_cancel, Rat.add_zero]
    have e2 : a + b + (0 - b) = a := by rw [Rat.sub_eq_add_neg, Rat.zero_add, Rat.add_assoc, Rat.add_neg_cancel, Rat.add_zero]
    rw [e1, e2] at this
    exact this
  · intro h
    have := (Rat.add_lt_add_left (c := (0 - a) + (0 - b))).mpr h
    have e1 : (0 - a) + (0 - b) + b = 0 - a := by rw [Rat.add_assoc, Rat.sub_eq_add_neg 0 b, Rat.zero_add, Rat.neg_add_cancel, Rat.add_zero]
    have e2 : (0 - a) + (0 - b) + a = 0 - b := by rw [Rat.add_comm (0 - a), Rat.add_assoc, Rat.sub_eq_add_neg 0 a, Rat.zero_add, Rat.neg_add_cancel, Rat.add_zero]
    rw [e1, e2] at this
    exact this
/-- the deed done, by weights -/
def spDoneBy (K : PySem.W.Frag) (C : Addr) : Sp := fun vs H Q _ => ∃ (x b : Addr) (hard : Bool) (qs : List Rat) (hss tss : List (List Rat)) (ws : List Rat) (n m ww dd : Nat), vs = [.ref x, .ref b, .bl hard] ∧ Wts K H C x b qs hss tss ws n m ww dd ∧ ∀ (d : Nat) H', Same H H' → IsDone (keyT tss ws hard) (bestL hss ws dd) d → Q (.int (d : Int)) H'
def spDeedBy (K : PySem.W.Frag) (C : Addr) : Sp := fun vs H Q _ => ∃ (x b : Addr) (hard : Bool) (qs : List Rat) (hss tss : List (List Rat)) (ws : List Rat) (n m ww dd : Nat), vs = [.ref x, .ref b, .bl hard] ∧ Wts K H C x b qs hss tss ws n m ww dd ∧ RowOk ww ws ∧ ∀ (d : Nat) H', Same H H' → IsDone (keyT tss ws hard) (bestL hss ws dd) d → Q (.int (d : Int)) H'
theorem done_lt {key : Nat → Rat} {hss : List (List Rat)} {ws : List Rat} {dd d : Nat} (h : IsDone key (bestL hss ws dd) d) : d < dd := by
  have := h.mem
  unfold bestL at this
  exact List.mem_range.mp (List.mem_filter.mp this).1
theorem best_ne' {hss : List (List Rat)} {ws : List Rat} {dd : Nat} (h : 1 ≤ dd) : bestL hss ws dd ≠ [] := by
  have hne : worthL hss ws dd ≠ [] := fun e => by
    have := congrArg List.length e
    rw [worthL_len] at this
    simp at this
    omega
  have : ∀ l : List Rat, l ≠ [] → ∃ x ∈ l, ∀ y ∈ l, y ≤ x := by
    intro l
    induction l with
    | nil => intro h; exact absurd rfl h
    | cons x l ih =>
      intro _
      by_cases hl : l = []
      · subst hl
        exact ⟨x, List.mem_cons_self .., fun y hy => by rw [List.mem_singleton.mp hy]; exact Rat.le_refl⟩
      · obtain ⟨z, hz, hm⟩ := ih hl
        by_cases hxz : x ≤ z
        · refine ⟨z, List.mem_cons_of_mem _ hz, fun y hy => ?_⟩
          rcases List.mem_cons.mp hy with rfl | hy
          · exact hxz
          · exact hm y hy
        · refine ⟨x, List.mem_cons_self .., fun y hy => ?_⟩
          rcases List.mem_cons.mp hy with rfl | hy
          · exact Rat.le_refl
          · exact Rat.le_trans (hm y hy) (Rat.le_of_lt (Rat.not_le.mp hxz))
  obtain ⟨top, h1, h2⟩ := this _ hne
  exact best_ne h1 h2
/-- the index of the greatest key is the deed done -/
theorem done_of {key : Nat → Rat} {l : List Nat} {j : Nat} {top : Rat} (h1 : (l.map key)[j]? = some top) (h2 : ∀ x ∈ l.map key, x ≤ top) (h3 : ∀ m y, m < j → (l.map key)[m]? = some y → y ≠ top) : ∃ d, l[j]? = some d ∧ IsDone key l d := by
  rw [List.getElem?_map] at h1
  cases e : l[j]? with
  | none => rw [e] at h1; cases h1
  | some d =>
    rw [e] at h1
    have ed : key d = top := Option.some.inj h1
    refine ⟨d, rfl, j, e, fun x hx => ?_, fun i x hi hx => ?_⟩
    · rw [ed]
      exact h2 _ (List.mem_map_of_mem hx)
    · have hm := h2 _ (List.mem_map_of_mem (f := key) (List.mem_of_getElem? hx))
      have hn := h3 i (key x) hi (by rw [List.getElem?_map, hx]; rfl)
      rw [ed]
      exact Rat.not_le.mp fun z => hn (Rat.le_antisymm hm z)
/-- the law's own -/
def spLDone (K : PySem.W.Frag) : Sp := fun vs H Q _ => ∃ (P b : Addr) (hard : Bool) (qs : List Rat) (hss tss : List (List Rat)) (cs : List V) (ws : List Rat) (n m ww dd : Nat), vs = [.ref P, .ref b, .bl hard] ∧ PartsT K H P qs hss tss n ∧ GoodC qs hss tss ww dd ∧ SqL K H b cs ∧ FrN K H m cs ws ∧ ws.length = ww ∧ n ≤ 280 ∧ m ≤ 280 ∧ ∀ (d : Nat) H', Same H H' → IsDone (keyT tss ws hard) (bestL hss ws dd) d → Q (.int (d : Int)) H'
end Hr

set_option Elab.async false
set_option linter.all false
set_option maxRecDepth 100000
set_option maxHeartbeats 4000000
namespace Hr
open PySem PySem.Spec PyProof.Rows L2 BX EXB Co Ru
open Dz Cs
open Fr (Bd)
/-! ### rules -/
structure RuT (K : PySem.W.Frag) (mg : Str → Option Value) (C fI fR fW fL fE : Addr) : Prop where
  cl : Cls K C
  gC : mg "Rule" = some (.ref C)
  nO : NoAttr K C "own_rows"
  mkC : Mk K C fI
  mR : Meth K C "rows" fR
  mW : Meth K C "worlds" fW
  lL : PySem.W.findIn K (.ref C) "__len__" = some (some (.ref fL))
  fnL : PySem.W.isFn K (.ref fL) = true
  g5 : ∃ t, mg "MOST_WORLDS" = some (.int 5 t)
  g30 : ∃ t, mg "MOST_WORDS" = some (.int 30 t)
def spInit (K : PySem.W.Frag) (C : Addr) : Sp := fun vs H Q _ => ∃ (x a dx : Addr) (rs : List Addr) (rss : List (List Rat)) (n m : Nat), vs = [.ref x, .ref a] ∧ H x = some (.ins C dx []) ∧ RwL K H a rs rss n ∧ Good rss m ∧ n ≤ 280 ∧
  ∀ ra rs' H', (∀ b o, b ≠ x → H b = some o → H' b = some o) → H' x = some (.ins C dx [("own_rows", .ref ra)]) → RwL K H' ra rs' rss n → Q .non H'
def spRRows (K : PySem.W.Frag) (C : Addr) : Sp := fun vs H Q _ => ∃ (x : Addr) (rss : List (List Rat)) (n : Nat), vs = [.ref x] ∧ IsRule K H C x rss n ∧ rss.length ≤ 100 ∧ ∀ D rs' H', Fresh K H H' D rs' rss n → Q (.ref D) H'
def spRWorlds (K : PySem.W.Frag) (C : Addr) : Sp := fun vs H Q _ => ∃ (x : Addr) (rss : List (List Rat)) (n : Nat), vs = [.ref x] ∧ IsRule K H C x rss n ∧ Q (.int (rss.length : Int)) H
def spRLen (K : PySem.W.Frag) (C : Addr) : Sp := fun vs H Q _ => ∃ (x : Addr) (rss : List (List Rat)) (n m : Nat), vs = [.ref x] ∧ IsRule K H C x rss n ∧ Good rss m ∧ Q (.int (m : Int)) H
/-- a case and a rule for it -/
structure Ga (K : PySem.W.Frag) (H : Hp) (C CR x y : Addr) (qs : List Rat) (hss tss rss : List (List Rat)) (n m ww dd mm : Nat) : Prop where
  c : IsCase K H C x qs hss tss n
  g : GoodC qs hss tss ww dd
  r : IsRule K H CR y rss m
  go : Good rss mm
  wl : rss.length = ww
  hn : n ≤ 140
  hm : m ≤ 140
theorem Ga.same {K : PySem.W.Frag} {H H' : Hp} {C CR x y : Addr} {qs : List Rat} {hss tss rss : List (List Rat)} {n m ww dd mm : Nat} (h : Ga K H C CR x y qs hss tss rss n m ww dd mm) (s : Same H H') : Ga K H' C CR x y qs hss tss rss n m ww dd mm := ⟨h.c.same s, h.g, h.r.same s, h.go, h.wl, h.hn, h.hm⟩
def spChkA (K : PySem.W.Frag) (C CR : Addr) : Sp := fun vs H Q _ => ∃ (x y : Addr) (qs : List Rat) (hss tss rss : List (List Rat)) (n m ww dd mm : Nat), vs = [.ref x, .ref y] ∧ Ga K H C CR x y qs hss tss rss n m ww dd mm ∧ Q .non H
def spMasses (K : PySem.W.Frag) (C CR : Addr) : Sp := fun vs H Q _ => ∃ (x y : Addr) (i : Nat) (qs : List Rat) (hss tss rss : List (List Rat)) (n m ww dd mm : Nat), vs = [.ref x, .ref y, .int (i : Int)] ∧ Ga K H C CR x y qs hss tss rss n m ww dd mm ∧ i < mm ∧
  ∀ p cs H', Same H H' → H p = none → H' p = some (.lst cs) → FrN K H' (n + m) cs (prods rss qs i) → Q (.ref p) H'
theorem prods_bd {K : PySem.W.Frag} {H : Hp} {C CR x y : Addr} {qs : List Rat} {hss tss rss : List (List Rat)} {n m ww dd mm i : Nat} (h : Ga K H C CR x y qs hss tss rss n m ww dd mm) : (prods rss qs i).length = ww := by rw [prods_len (by rw [h.g.sh.1, h.wl]), h.g.sh.1]
/-! ### the deed done, as a function -/
def dstep (key : Nat → Rat) : Option Nat → Nat → Option Nat
  | none, e => some e
  | some d, e => if key d < key e then some e else some d
def doneF (key : Nat → Rat) (l : List Nat) : Option Nat := l.foldl (dstep key) none
theorem doneF_snoc (key : Nat → Rat) (l : List Nat) (e : Nat) : doneF key (l ++ [e]) = dstep key (doneF key l) e := by
  unfold doneF
  rw [List.foldl_append]
  rfl
theorem doneF_ok {key : Nat → Rat} : ∀ (k : Nat) (l : List Nat), l.length = k → l ≠ [] → ∃ d, doneF key l = some d ∧ IsDone key l d
  | 0, l, h, hne => absurd (List.eq_nil_of_length_eq_zero h) hne
  | k + 1, l, h, hne => by
    obtain ⟨l', e, rfl⟩ : ∃ l' e, l = l' ++ [e] := ⟨l.dropLast, l.getLast hne, (List.dropLast_concat_getLast hne).symm⟩
    rw [List.length_append, List.length_singleton] at h
    by_cases hl : l' = []
    · subst hl
      exact ⟨e, rfl, IsDone.one key e⟩
    · obtain ⟨d, h1, h2⟩ := doneF_ok k l' (by omega) hl
      rw [doneF_snoc, h1]
      by_cases hlt : key d < key e
      · exact ⟨e, if_pos hlt, h2.more hlt⟩
      · exact ⟨d, if_neg hlt, h2.stay hlt⟩
theorem IsDone.F {key : Nat → Rat} {l : List Nat} {d : Nat} (h : IsDone key l d) : doneF key l = some d := by
  have hne : l ≠ [] := fun e => by
    have := h.mem
    rw [e] at this
    cases this
  obtain ⟨e, h1, h2⟩ := doneF_ok (key := key) l.length l rfl hne
  rw [h1, h2.uniq h]
theorem doneF_congr {k1 k2 : Nat → Rat} (h : ∀ a b, k1 a < k1 b ↔ k2 a < k2 b) (l : List Nat) : doneF k1 l = doneF k2 l := by
  have hs : dstep k1 = dstep k2 := by
    funext o e
    cases o with
    | none => rfl
    | some d =>
      show (if k1 d < k1 e then some e else some d) = if k2 d < k2 e then some e else some d
      by_cases c : k1 d < k1 e
      · rw [if_pos c, if_pos ((h d e).mp c)]
      · rw [if_neg c, if_neg (fun z => c ((h d e).mpr z))]
  unfold doneF
  rw [hs]
/-! ### weights times a number -/
theorem prods_scale (rss : List (List Rat)) (c : Rat) (d : Nat) : ∀ ws : List Rat, prods rss (ws.map fun w => w / c) d = (prods rss ws d).map fun o => c⁻¹ * o := by
  unfold prods
  induction rss with
  | nil => intro ws; rw [List.zipWith_nil_right, List.zipWith_nil_right, List.map_nil]
  | cons r rss ih =>
    intro ws
    cases ws with
    | nil => rfl
    | cons w ws =>
      rw [List.map_cons, List.zipWith_cons_cons, List.zipWith_cons_cons, List.map_cons, ih ws]
      congr 1
      rw [Rat.div_def, Rat.mul_comm w, Rat.mul_assoc]
theorem wq_scale (rss : List (List Rat)) (c : Rat) (d : Nat) (ws : List Rat) : wq rss (ws.map fun w => w / c) d = c⁻¹ * wq rss ws d := by
  unfold wq
  rw [prods_scale, sum_map_mul]
theorem scale_lt {c a b : Rat} (hc : 0 < c) : c⁻¹ * a < c⁻¹ * b ↔ a < b := Rat.mul_lt_mul_left (Rat.inv_pos.mpr hc)
theorem scale_le {c a b : Rat} (hc : 0 < c) : c⁻¹ * a ≤ c⁻¹ * b ↔ a ≤ b := by
  rw [← Rat.not_lt, ← Rat.not_lt, scale_lt hc]
theorem best_scale {hss : List (List Rat)} {c : Rat} {ws : List Rat} {dd : Nat} (hc : 0 < c) : bestL hss (ws.map fun w => w / c) dd = bestL hss ws dd := by
  unfold bestL
  congr 1
  funext d
  apply decide_eq_decide.mpr
  constructor
  · intro h e he
    have := h e he
    rw [wq_scale, wq_scale, scale_le hc] at this
    exact this
  · intro h e he
    rw [wq_scale, wq_scale, scale_le hc]
    exact h e he
theorem key_scale {tss : List (List Rat)} {c : Rat} {ws : List Rat} {hard : Bool} (hc : 0 < c) (a b : Nat) : keyT tss (ws.map fun w => w / c) hard a < keyT tss (ws.map fun w => w / c) hard b ↔ keyT tss ws hard a < keyT tss ws hard b := by
  unfold keyT
  cases hard with
  | true =>
    show 0 - _ < 0 - _ ↔ 0 - _ < 0 - _
    rw [neg_lt', neg_lt', wq_scale, wq_scale, scale_lt hc]
  | false =>
    show wq _ _ _ < wq _ _ _ ↔ _
    rw [wq_scale, wq_scale, scale_lt hc]
    exact Iff.rfl
theorem done_scale {hss tss : List (List Rat)} {c : Rat} {ws : List Rat} {dd : Nat} {hard : Bool} (hc : 0 < c) : doneF (keyT tss (ws.map fun w => w / c) hard) (bestL hss (ws.map fun w => w / c) dd) = doneF (keyT tss ws hard) (bestL hss ws dd) := by
  rw [best_scale hc]
  exact doneF_congr (key_scale hc) _
/-- the deed done behind a word -/
def wordD (qs : List Rat) (hss tss rss : List (List Rat)) (dd : Nat) (hard : Bool) (i : Nat) : Option Nat := if wq rss qs i = 0 then none else doneF (keyT tss (prods rss qs i) hard) (bestL hss (prods rss qs i) dd)
def optN : Option Nat → V
  | none => .non
  | some d => .int (d : Int)
def optD : Option Nat → PyData
  | none => .none
  | some d => .int (d : Int)
theorem opt_dp {K : PySem.W.Frag} {H : Hp} : ∀ o : Option Nat, Dp K H (optN o) (optD o)
  | none => .non
  | some _ => .int _
theorem opts_dp {K : PySem.W.Frag} {H : Hp} : ∀ l : List (Option Nat), DpAll K H (l.map optN) (l.map optD)
  | [] => .nil
  | o :: l => .cons (opt_dp o) (opts_dp l)
theorem opts_lay : ∀ l : List (Option Nat), PyData.canLayAll0 (l.map optD) = true
  | [] => rfl
  | none :: l => opts_lay l
  | some _ :: l => opts_lay l
theorem opts_dep : ∀ l : List (Option Nat), PyData.depthAll (l.map optD) = 0
  | [] => rfl
  | o :: l => by
    have h : PyData.depth (optD o) = 0 := by cases o <;> rfl
    show max (PyData.depth (optD o)) (PyData.depthAll (l.map optD)) = 0
    rw [h, opts_dep l]
    rfl
theorem optl_lay (l : List (Option Nat)) : (PyData.list (l.map optD)).canLay0 = true := opts_lay l
theorem optl_sh (l : List (Option Nat)) : SeqAt.shaped (.list (l.map optD)) = true := by
  unfold SeqAt.shaped
  rw [optl_lay, Bool.true_and]
  refine decide_eq_true ?_
  show PyData.depthAll (l.map optD) + 1 ≤ 64
  rw [opts_dep]
  decide
/-- the deeds done, word by word -/
def deedsL (qs : List Rat) (hss tss rss : List (List Rat)) (dd mm : Nat) (hard : Bool) : List (Option Nat) := (List.range mm).map (wordD qs hss tss rss dd hard)
theorem deedsL_at {qs : List Rat} {hss tss rss : List (List Rat)} {dd mm i : Nat} {hard : Bool} (h : i < mm) : (deedsL qs hss tss rss dd mm hard)[i]? = some (wordD qs hss tss rss dd hard i) := by
  unfold deedsL
  rw [List.getElem?_map, List.getElem?_range h]
  rfl
theorem deedsL_len {qs : List Rat} {hss tss rss : List (List Rat)} {dd mm : Nat} {hard : Bool} : (deedsL qs hss tss rss dd mm hard).length = mm := by
  unfold deedsL
  rw [List.length_map, List.length_range]
/-- (weights, deed) of each word -/
def WordsAt (K : PySem.W.Frag) (H : Hp) (cs : List V) (qs : List Rat) (hss tss rss : List (List Rat)) (dd N : Nat) (hard : Bool) (k : Nat) : Prop := cs.length = k ∧ ∀ (i : Nat) (v : V), cs[i]? = some v → ∃ (t wa : Addr) (ws : List V), v = .ref t ∧ SqT K H t [.ref wa, optN (wordD qs hss tss rss dd hard i)] ∧ H wa = some (.lst ws) ∧ FrN K H N ws (prods rss qs i)
theorem WordsAt.same {K : PySem.W.Frag} {H H' : Hp} {cs : List V} {qs : List Rat} {hss tss rss : List (List Rat)} {dd N : Nat} {hard : Bool} {k : Nat} (h : WordsAt K H cs qs hss tss rss dd N hard k) (s : Same H H') : WordsAt K H' cs qs hss tss rss dd N hard k :=
  ⟨h.1, fun i v e => let ⟨t, wa, ws, a, b, c, d⟩ := h.2 i v e; ⟨t, wa, ws, a, seqT s b, s _ _ c, d.same s⟩⟩
def spWordsDone (K : PySem.W.Frag) (C CR : Addr) : Sp := fun vs H Q _ => ∃ (x y : Addr) (hard : Bool) (qs : List Rat) (hss tss rss : List (List Rat)) (n m ww dd mm : Nat), vs = [.ref x, .ref y, .bl hard] ∧ Ga K H C CR x y qs hss tss rss n m ww dd mm ∧
  ∀ p cs H', Same H H' → H' p = some (.lst cs) → WordsAt K H' cs qs hss tss rss dd (n + m) hard mm → Q (.ref p) H'
def spDeedsDone (K : PySem.W.Frag) (C CR : Addr) : Sp := fun vs H Q _ => ∃ (x y : Addr) (hard : Bool) (qs : List Rat) (hss tss rss : List (List Rat)) (n m ww dd mm : Nat), vs = [.ref x, .ref y, .bl hard] ∧ Ga K H C CR x y qs hss tss rss n m ww dd mm ∧
  ∀ p H', Same H H' → H p = none → H' p = some (.lst ((deedsL qs hss tss rss dd mm hard).map optN)) → Q (.ref p) H'
/-- what is gained by a table of gains -/
def gainW (xss : List (List Rat)) (qs : List Rat) (hss tss rss : List (List Rat)) (dd : Nat) (hard : Bool) (i : Nat) : Rat := match wordD qs hss tss rss dd hard i with
  | none => 0
  | some d => wq xss (prods rss qs i) d
def gainT (xss : List (List Rat)) (qs : List Rat) (hss tss rss : List (List Rat)) (dd mm : Nat) (hard : Bool) : Rat := ((List.range mm).map (gainW xss qs hss tss rss dd hard)).sum
def spGainsP (K : PySem.W.Frag) (C CR : Addr) : Sp := fun vs H Q _ => ∃ (x y : Addr) (hard : Bool) (qs : List Rat) (hss tss rss : List (List Rat)) (n m ww dd mm : Nat), vs = [.ref x, .ref y, .bl hard] ∧ Ga K H C CR x y qs hss tss rss n m ww dd mm ∧ ((n + (n + m) + 1) * 5 + 2) * mm + 1 ≤ 8700 ∧
  ∀ p p1 p2 H', Same H H' → SqT K H' p [.ref p1, .ref p2] → SqT K H' p1 (rp (gainT tss qs hss tss rss dd mm hard)) → SqT K H' p2 (rp (gainT hss qs hss tss rss dd mm hard)) → Q (.ref p) H'
end Hr

set_option Elab.async false
set_option linter.all false
set_option maxRecDepth 100000
set_option maxHeartbeats 4000000
namespace Hr
open PySem PySem.Spec PyProof.Rows L2 BX EXB Co Ru
open Dz Cs
open Fr (Bd)
theorem frn_re {K : PySem.W.Frag} {H : Hp} {n m : Nat} {cs : List V} {qs : List Rat} (h : FrN K H n cs qs) (hb : ∀ q ∈ qs, Bd m q) : FrN K H m cs qs :=
  ⟨h.len, fun i v e => let ⟨a, q, e1, e2, e3, _⟩ := h.at_ i v e; ⟨a, q, e1, e2, e3, hb q (List.mem_of_getElem? e1)⟩⟩
def spPartsB (K : PySem.W.Frag) : Sp := fun vs H Q _ => ∃ (l : Addr) (z : Int) (ww dd : Nat), vs = [.ref l, .int (ww : Int), .int (dd : Int)] ∧ H l = some (.lst [.int z]) ∧ 1 ≤ ww ∧ ww ≤ 5 ∧ 1 ≤ dd ∧ dd ≤ 6 ∧
  ∀ P qs hss tss z' H', SameB l H H' → H' l = some (.lst [.int z']) → PartsT K H' P qs hss tss 43 → GoodC qs hss tss ww dd → (∀ q ∈ qs, Bd 8 q) → Q (.ref P) H'
def spRows (K : PySem.W.Frag) : Sp := fun vs H Q _ => ∃ (l : Addr) (z : Int) (ww m : Nat), vs = [.ref l, .int (ww : Int), .int (m : Int)] ∧ H l = some (.lst [.int z]) ∧ 1 ≤ ww ∧ ww ≤ 5 ∧ 1 ≤ m ∧ m ≤ 30 ∧
  ∀ D rs rss z' H', New K H H' l D rs rss 8 → D ≠ l → H' l = some (.lst [.int z']) → Good rss m → rss.length = ww → Q (.ref D) H'
/-- as spWorth, the weights ahead -/
def spChanceL (K : PySem.W.Frag) : Sp := fun vs H Q _ => ∃ (a b : Addr) (d : Nat) (rs : List Addr) (rss : List (List Rat)) (cs : List V) (ws : List Rat) (n m dd : Nat), vs = [.ref b, .ref a, .int (d : Int)] ∧ RwL K H a rs rss n ∧ SqL K H b cs ∧ FrN K H m cs ws ∧ ws.length = rss.length ∧ rss.length ≤ 5 ∧ (∀ r ∈ rss, r.length = dd) ∧ d < dd ∧ n ≤ 280 ∧ m ≤ 280 ∧
  ∀ p H', Same H H' → SqT K H' p (rp (wq rss ws d)) → Bd ((n + m + 1) * 5 + 1) (wq rss ws d) → Q (.ref p) H'
def belq (rss : List (List Rat)) (qs : List Rat) (i : Nat) : List Rat := (prods rss qs i).map fun w => w / wq rss qs i
def spBehind (K : PySem.W.Frag) : Sp := fun vs H Q _ => ∃ (a b : Addr) (d : Nat) (rs : List Addr) (rss : List (List Rat)) (cs : List V) (ws : List Rat) (n m dd : Nat), vs = [.ref b, .ref a, .int (d : Int)] ∧ RwL K H a rs rss n ∧ SqL K H b cs ∧ FrN K H m cs ws ∧ ws.length = rss.length ∧ rss.length ≤ 5 ∧ (∀ r ∈ rss, r.length = dd) ∧ d < dd ∧ n ≤ 280 ∧ m ≤ 280 ∧ wq rss ws d ≠ 0 ∧
  ∀ p cs' H', Same H H' → H p = none → H' p = some (.lst cs') → FrN K H' (n + m + ((n + m + 1) * 5 + 1)) cs' (belq rss ws d) → Q (.ref p) H'
def spOver (K : PySem.W.Frag) : Sp := fun vs H Q _ => ∃ (a b : Addr) (x y : Rat) (n m : Nat), vs = [.ref a, .ref b] ∧ SqT K H a (rp x) ∧ SqT K H b (rp y) ∧ Bd n x ∧ Bd m y ∧ n + m ≤ 8900 ∧ y ≠ 0 ∧ ∀ p, H p = none → Q (.ref p) (upd H p (.tup (rp (x / y))))
theorem bd_div {a b : Rat} {n m : Nat} (ha : Bd n a) (hb : Bd m b) (h : b ≠ 0) : Bd (n + m) (a / b) := by
  rw [← Fr.div_eq]
  refine Fr.bd_low (Fr.mul_bd ha.1 hb.dn) (Fr.mul_bd ha.dn hb.1) (Int.mul_ne_zero (Fr.den_ne a) fun z => h ?_)
  exact Rat.num_eq_zero.mp z
theorem prods_nn {rss : List (List Rat)} {qs : List Rat} {i : Nat} (h1 : ∀ q ∈ qs, 0 ≤ q) (h2 : ∀ r ∈ rss, ∀ q ∈ r, 0 ≤ q) : ∀ p ∈ prods rss qs i, 0 ≤ p := fun p hp => by
  unfold prods at hp
  obtain ⟨j, hj, e⟩ := List.getElem_of_mem hp
  rw [List.length_zipWith] at hj
  have hw : j < qs.length := by omega
  have hr : j < rss.length := by omega
  have e2 : (List.zipWith (fun w r => w * r.getD i 0) qs rss)[j]? = some (qs[j] * rss[j].getD i 0) := prods_at (List.getElem?_eq_getElem hw) (List.getElem?_eq_getElem hr)
  have eq : p = qs[j] * rss[j].getD i 0 := by
    rw [← e]
    exact (List.getElem?_eq_some_iff.mp e2).2
  rw [eq]
  refine Rat.mul_nonneg (h1 _ (List.getElem_mem hw)) ?_
  by_cases hi : i < rss[j].length
  · rw [List.getD_eq_getElem?_getD, List.getElem?_eq_getElem hi]
    exact h2 _ (List.getElem_mem hr) _ (List.getElem_mem hi)
  · rw [List.getD_eq_getElem?_getD, List.getElem?_eq_none (by omega)]
    exact Rat.le_refl
theorem wq_pos {rss : List (List Rat)} {qs : List Rat} {i : Nat} (h1 : ∀ q ∈ qs, 0 ≤ q) (h2 : ∀ r ∈ rss, ∀ q ∈ r, 0 ≤ q) (h : wq rss qs i ≠ 0) : 0 < wq rss qs i := by
  have : 0 ≤ wq rss qs i := sum_nonneg' (prods_nn h1 h2)
  exact Rat.not_le.mp fun z => h (Rat.le_antisymm z this)
theorem bel_done {qs : List Rat} {hss tss rss : List (List Rat)} {dd i d : Nat} {hard : Bool} (hp : 0 < wq rss qs i) (h : IsDone (keyT tss (belq rss qs i) hard) (bestL hss (belq rss qs i) dd) d) : wordD qs hss tss rss dd hard i = some d := by
  have e := h.F
  unfold belq at e
  rw [done_scale hp] at e
  unfold wordD
  rw [if_neg (fun z => by rw [z] at hp; exact absurd hp (Rat.not_lt.mpr Rat.le_refl))]
  exact e
theorem word_some {qs : List Rat} {hss tss rss : List (List Rat)} {dd i d : Nat} {hard : Bool} (hn : wq rss qs i ≠ 0) (h : IsDone (keyT tss (prods rss qs i) hard) (bestL hss (prods rss qs i) dd) d) : wordD qs hss tss rss dd hard i = some d := by
  unfold wordD
  rw [if_neg hn, h.F]
theorem word_none {qs : List Rat} {hss tss rss : List (List Rat)} {dd i : Nat} {hard : Bool} (hn : wq rss qs i = 0) : wordD qs hss tss rss dd hard i = none := if_pos hn
theorem word_lt {qs : List Rat} {hss tss rss : List (List Rat)} {dd i d : Nat} {hard : Bool} (h : wordD qs hss tss rss dd hard i = some d) (h1 : 1 ≤ dd) : d < dd := by
  unfold wordD at h
  split at h
  · cases h
  · obtain ⟨e, a, b⟩ := doneF_ok (key := keyT tss (prods rss qs i) hard) (bestL hss (prods rss qs i) dd).length (bestL hss (prods rss qs i) dd) rfl (best_ne' h1)
    rw [a] at h
    cases h
    exact done_lt b
/-! ### words with their deeds, none of whose lists is ex -/
def WordsX (K : PySem.W.Frag) (H : Hp) (ex : Addr) (cs : List V) (qs : List Rat) (hss tss rss : List (List Rat)) (dd N : Nat) (hard : Bool) (k : Nat) : Prop := cs.length = k ∧ ∀ (i : Nat) (v : V), cs[i]? = some v → ∃ (t wa : Addr) (ws : List V), v = .ref t ∧ SqT K H t [.ref wa, optN (wordD qs hss tss rss dd hard i)] ∧ H wa = some (.lst ws) ∧ wa ≠ ex ∧ FrN K H N ws (prods rss qs i)
theorem WordsX.same {K : PySem.W.Frag} {H H' : Hp} {ex : Addr} {cs : List V} {qs : List Rat} {hss tss rss : List (List Rat)} {dd N : Nat} {hard : Bool} {k : Nat} (h : WordsX K H ex cs qs hss tss rss dd N hard k) (s : Same H H') : WordsX K H' ex cs qs hss tss rss dd N hard k :=
  ⟨h.1, fun i v e => let ⟨t, wa, ws, a, b, c, ne, d⟩ := h.2 i v e; ⟨t, wa, ws, a, seqT s b, s _ _ c, ne, d.same s⟩⟩
theorem WordsX.push {K : PySem.W.Frag} {H : Hp} {ex t wa : Addr} {cs ws : List V} {qs : List Rat} {hss tss rss : List (List Rat)} {dd N : Nat} {hard : Bool} {k : Nat} (h : WordsX K H ex cs qs hss tss rss dd N hard k) (hex : H ex = some (.lst cs)) (ht : SqT K H t [.ref wa, optN (wordD qs hss tss rss dd hard k)]) (hw : H wa = some (.lst ws)) (ne : wa ≠ ex) (hf : FrN K H N ws (prods rss qs k)) :
    WordsX K (upd H ex (.lst (cs ++ [.ref t]))) ex (cs ++ [.ref t]) qs hss tss rss dd N hard (k + 1) := by
  have kp : ∀ a xs, SqT K H a xs → SqT K (upd H ex (.lst (cs ++ [.ref t]))) a xs := keep_lst hex
  refine ⟨by rw [List.length_append, h.1]; rfl, fun i v e => ?_⟩
  by_cases hi : i < cs.length
  · rw [List.getElem?_append_left hi] at e
    obtain ⟨t', wa', ws', a, b, c, ne', d⟩ := h.2 i v e
    exact ⟨t', wa', ws', a, kp _ _ b, by rw [upd_ne ne']; exact c, ne', d.keep kp⟩
  · rw [List.getElem?_append_right (by omega)] at e
    have e0 : i - cs.length = 0 := by
      cases z : i - cs.length with
      | zero => rfl
      | succ j => rw [z] at e; simp at e
    rw [e0] at e
    have ik : i = k := by have := h.1; omega
    subst ik
    exact ⟨t, wa, ws, (Option.some.inj e).symm, kp _ _ ht, by rw [upd_ne ne]; exact hw, ne, hf.keep kp⟩
def spWords (K : PySem.W.Frag) (C CR : Addr) : Sp := fun vs H Q _ => ∃ (x y : Addr) (hard : Bool) (qs : List Rat) (hss tss rss : List (List Rat)) (n m ww dd mm : Nat), vs = [.ref x, .ref y, .bl hard] ∧ Ga K H C CR x y qs hss tss rss n m ww dd mm ∧
  ∀ p cs H', Same H H' → H p = none → H' p = some (.lst cs) → WordsX K H' p cs qs hss tss rss dd (n + m) hard mm → Q (.ref p) H'
/-! ### the words that are said -/
def saidL (f : Nat → Option Nat) (k : Nat) : List (Nat × Nat) := (List.range k).filterMap fun i => (f i).map fun d => (i, d)
theorem saidL_succ (f : Nat → Option Nat) (k : Nat) : saidL f (k + 1) = saidL f k ++ (match f k with | none => [] | some d => [(k, d)]) := by
  unfold saidL
  rw [List.range_succ, List.filterMap_append]
  congr 1
  cases e : f k with
  | none => simp [e]
  | some d => simp [e]
theorem saidL_len (f : Nat → Option Nat) (k : Nat) : (saidL f k).length ≤ k := by
  unfold saidL
  refine Nat.le_trans (List.length_filterMap_le _ _) ?_
  rw [List.length_range]
  exact Nat.le_refl _
theorem said_sum (g : Nat → Nat → Rat) (f : Nat → Option Nat) : ∀ k : Nat, ((saidL f k).map fun p => g p.1 p.2).sum = ((List.range k).map fun i => match f i with | none => 0 | some d => g i d).sum
  | 0 => rfl
  | k + 1 => by
    rw [saidL_succ, List.map_append, List.sum_append, said_sum g f k, List.range_succ, List.map_append, List.sum_append]
    congr 1
    cases e : f k with
    | none => simp [e, Rat.add_zero]
    | some d => simp [e, Rat.add_zero]
def SaidAt (K : PySem.W.Frag) (H : Hp) (cs : List V) (l : List (Nat × Nat)) (qs : List Rat) (rss : List (List Rat)) (N dd : Nat) : Prop := cs.length = l.length ∧ ∀ (j : Nat) (v : V), cs[j]? = some v → ∃ (i d : Nat) (t wa : Addr) (ws : List V), l[j]? = some (i, d) ∧ d < dd ∧ v = .ref t ∧ SqT K H t [.ref wa, .int (d : Int)] ∧ SqL K H wa ws ∧ FrN K H N ws (prods rss qs i)
theorem SaidAt.same {K : PySem.W.Frag} {H H' : Hp} {cs : List V} {l : List (Nat × Nat)} {qs : List Rat} {rss : List (List Rat)} {N dd : Nat} (h : SaidAt K H cs l qs rss N dd) (s : Same H H') : SaidAt K H' cs l qs rss N dd :=
  ⟨h.1, fun j v e => let ⟨i, d, t, wa, ws, a, b, c, f, g, k⟩ := h.2 j v e; ⟨i, d, t, wa, ws, a, b, c, seqT s f, s.seq g, k.same s⟩⟩
theorem SaidAt.nil {K : PySem.W.Frag} {H : Hp} {qs : List Rat} {rss : List (List Rat)} {N dd : Nat} : SaidAt K H [] [] qs rss N dd := ⟨rfl, fun j v e => by simp at e⟩
theorem SaidAt.snoc {K : PySem.W.Frag} {H : Hp} {cs : List V} {l : List (Nat × Nat)} {qs : List Rat} {rss : List (List Rat)} {N dd i d : Nat} {t wa : Addr} {ws : List V} (h : SaidAt K H cs l qs rss N dd) (hd : d < dd) (ht : SqT K H t [.ref wa, .int (d : Int)]) (hw : SqL K H wa ws) (hf : FrN K H N ws (prods rss qs i)) : SaidAt K H (cs ++ [.ref t]) (l ++ [(i, d)]) qs rss N dd := by
  refine ⟨by rw [List.length_append, List.length_append, h.1]; rfl, fun j v e => ?_⟩
  by_cases hj : j < cs.length
  · rw [List.getElem?_append_left hj] at e
    obtain ⟨i', d', t', wa', ws', a, r⟩ := h.2 j v e
    exact ⟨i', d', t', wa', ws', by rw [List.getElem?_append_left (by rw [← h.1]; exact hj)]; exact a, r⟩
  · rw [List.getElem?_append_right (by omega)] at e
    have e0 : j - cs.length = 0 := by
      cases z : j - cs.length with
      | zero => rfl
      | succ k => rw [z] at e; simp at e
    rw [e0] at e
    refine ⟨i, d, t, wa, ws, ?_, hd, (Option.some.inj e).symm, ht, hw, hf⟩
    rw [List.getElem?_append_right (by rw [← h.1]; omega), ← h.1, e0]
    rfl
/-- the same, the lists as they stand in H0 -/
def SaidX (K : PySem.W.Frag) (H0 H : Hp) (cs : List V) (l : List (Nat × Nat)) (qs : List Rat) (rss : List (List Rat)) (N dd : Nat) : Prop := cs.length = l.length ∧ ∀ (j : Nat) (v : V), cs[j]? = some v → ∃ (i d : Nat) (t wa : Addr) (ws : List V), l[j]? = some (i, d) ∧ d < dd ∧ v = .ref t ∧ SqT K H t [.ref wa, .int (d : Int)] ∧ SqL K H0 wa ws ∧ FrN K H0 N ws (prods rss qs i)
theorem SaidX.keep {K : PySem.W.Frag} {H0 H H' : Hp} {cs : List V} {l : List (Nat × Nat)} {qs : List Rat} {rss : List (List Rat)} {N dd : Nat} (h : SaidX K H0 H cs l qs rss N dd) (k : ∀ a xs, SqT K H a xs → SqT K H' a xs) : SaidX K H0 H' cs l qs rss N dd :=
  ⟨h.1, fun j v e => let ⟨i, d, t, wa, ws, a, b, c, f, g, z⟩ := h.2 j v e; ⟨i, d, t, wa, ws, a, b, c, k _ _ f, g, z⟩⟩
theorem SaidX.nil {K : PySem.W.Frag} {H0 H : Hp} {qs : List Rat} {rss : List (List Rat)} {N dd : Nat} : SaidX K H0 H [] [] qs rss N dd := ⟨rfl, fun j v e => by simp at e⟩
theorem SaidX.snoc {K : PySem.W.Frag} {H0 H : Hp} {cs : List V} {l : List (Nat × Nat)} {qs : List Rat} {rss : List (List Rat)} {N dd i d : Nat} {t wa : Addr} {ws : List V} (h : SaidX K H0 H cs l qs rss N dd) (hd : d < dd) (ht : SqT K H t [.ref wa, .int (d : Int)]) (hw : SqL K H0 wa ws) (hf : FrN K H0 N ws (prods rss qs i)) : SaidX K H0 H (cs ++ [.ref t]) (l ++ [(i, d)]) qs rss N dd := by
  refine ⟨by rw [List.length_append, List.length_append, h.1]; rfl, fun j v e => ?_⟩
  by_cases hj : j < cs.length
  · rw [List.getElem?_append_left hj] at e
    obtain ⟨i', d', t', wa', ws', a, r⟩ := h.2 j v e
    exact ⟨i', d', t', wa', ws', by rw [List.getElem?_append_left (by rw [← h.1]; exact hj)]; exact a, r⟩
  · rw [List.getElem?_append_right (by omega)] at e
    have e0 : j - cs.length = 0 := by
      cases z : j - cs.length with
      | zero => rfl
      | succ k => rw [z] at e; simp at e
    rw [e0] at e
    refine ⟨i, d, t, wa, ws, ?_, hd, (Option.some.inj e).symm, ht, hw, hf⟩
    rw [List.getElem?_append_right (by rw [← h.1]; omega), ← h.1, e0]
    rfl
theorem SaidX.at_ {K : PySem.W.Frag} {H0 H : Hp} {cs : List V} {l : List (Nat × Nat)} {qs : List Rat} {rss : List (List Rat)} {N dd : Nat} (h : SaidX K H0 H cs l qs rss N dd) (s : Same H0 H) : SaidAt K H cs l qs rss N dd :=
  ⟨h.1, fun j v e => let ⟨i, d, t, wa, ws, a, b, c, f, g, z⟩ := h.2 j v e; ⟨i, d, t, wa, ws, a, b, c, f, s.seq g, z.same s⟩⟩
theorem gain_said (xss : List (List Rat)) (qs : List Rat) (hss tss rss : List (List Rat)) (dd mm : Nat) (hard : Bool) : ((saidL (wordD qs hss tss rss dd hard) mm).map fun z => wq xss (prods rss qs z.1) z.2).sum = gainT xss qs hss tss rss dd mm hard := said_sum (fun i d => wq xss (prods rss qs i) d) _ mm
/-- what the law made its case and its rule of -/
structure LG (K : PySem.W.Frag) (H : Hp) (P D : Addr) (qs : List Rat) (hss tss rss : List (List Rat)) (rs : List Addr) (ww dd mm : Nat) : Prop where
  p : PartsT K H P qs hss tss 43
  g : GoodC qs hss tss ww dd
  b8 : ∀ q ∈ qs, Bd 8 q
  r : RwL K H D rs rss 8
  go : Good rss mm
  wl : rss.length = ww
theorem LG.same {K : PySem.W.Frag} {H H' : Hp} {P D : Addr} {qs : List Rat} {hss tss rss : List (List Rat)} {rs : List Addr} {ww dd mm : Nat} (h : LG K H P D qs hss tss rss rs ww dd mm) (s : Same H H') : LG K H' P D qs hss tss rss rs ww dd mm := ⟨h.p.same s, h.g, h.b8, h.r.same s, h.go, h.wl⟩
def spDueL (K : PySem.W.Frag) : Sp := fun vs H Q _ => ∃ (P D : Addr) (hard : Bool) (qs : List Rat) (hss tss rss : List (List Rat)) (rs : List Addr) (ww dd mm : Nat), vs = [.ref P, .ref D, .bl hard] ∧ LG K H P D qs hss tss rss rs ww dd mm ∧
  ∀ p H', Same H H' → H p = none → H' p = some (.lst ((deedsL qs hss tss rss dd mm hard).map optN)) → Q (.ref p) H'
def spGained (K : PySem.W.Frag) : Sp := fun vs H Q _ => ∃ (P D : Addr) (hard : Bool) (qs : List Rat) (hss tss rss : List (List Rat)) (rs : List Addr) (ww dd mm : Nat), vs = [.ref P, .ref D, .bl hard] ∧ LG K H P D qs hss tss rss rs ww dd mm ∧ mm ≤ 9 ∧
  ∀ p p1 p2 H', Same H H' → SqT K H' p [.ref p1, .ref p2] → SqT K H' p1 (rp (gainT tss qs hss tss rss dd mm hard)) → SqT K H' p2 (rp (gainT hss qs hss tss rss dd mm hard)) → Q (.ref p) H'
theorem LG.nn {K : PySem.W.Frag} {H : Hp} {P D : Addr} {qs : List Rat} {hss tss rss : List (List Rat)} {rs : List Addr} {ww dd mm : Nat} (h : LG K H P D qs hss tss rss rs ww dd mm) : ∀ r ∈ rss, ∀ q ∈ r, 0 ≤ q := fun r hr q hq => (h.go.row r hr).2.1 q hq
theorem gainW_bel {xss : List (List Rat)} {qs : List Rat} {hss tss rss : List (List Rat)} {dd i d : Nat} {hard : Bool} (hp : 0 < wq rss qs i) (h : IsDone (keyT tss (belq rss qs i) hard) (bestL hss (belq rss qs i) dd) d) : wq rss qs i * wq xss (belq rss qs i) d = gainW xss qs hss tss rss dd hard i := by
  unfold gainW
  rw [bel_done hp h]
  show _ = wq xss (prods rss qs i) d
  unfold belq
  rw [wq_scale, ← Rat.mul_assoc, Rat.mul_inv_cancel _ (fun z => by rw [z] at hp; exact absurd hp (Rat.not_lt.mpr Rat.le_refl)), Rat.one_mul]
theorem gainW_none {xss : List (List Rat)} {qs : List Rat} {hss tss rss : List (List Rat)} {dd i : Nat} {hard : Bool} (hz : wq rss qs i = 0) : gainW xss qs hss tss rss dd hard i = 0 := by
  unfold gainW
  rw [word_none hz]
def gSum (xss : List (List Rat)) (qs : List Rat) (hss tss rss : List (List Rat)) (dd : Nat) (hard : Bool) (k : Nat) : Rat := ((List.range k).map (gainW xss qs hss tss rss dd hard)).sum
theorem gSum_succ (xss : List (List Rat)) (qs : List Rat) (hss tss rss : List (List Rat)) (dd : Nat) (hard : Bool) (k : Nat) : gSum xss qs hss tss rss dd hard (k + 1) = gSum xss qs hss tss rss dd hard k + gainW xss qs hss tss rss dd hard k := by
  unfold gSum
  rw [List.range_succ, List.map_append, List.sum_append, List.map_singleton, List.sum_singleton]
/-- values, then names, whatever the defaults are -/
def g3 : {α : Type} → List α → List α → List α → List α := fun us _ ws => us ++ ws
theorem g3_rel {vs ds zs : List V} {us its ws : List Value} (a : Vals vs us) (_ : Vals ds its) (b : Vals zs ws) : Vals (g3 vs ds zs) (g3 us its ws) := a.append b
theorem mk_ruleN {K : PySem.W.Frag} {C : Addr} {H : Hp} {a : Addr} {rs : List Addr} {rss : List (List Rat)} {n m : Nat} {Q : Addr → Hp → Prop} (hw : RwL K H a rs rss n) (hg : Good rss m) (hn : n ≤ 280) (q : ∀ x H', Same H H' → H x = none → IsRule K H' C x rss n → Q x H') :
    ∀ x dx, H x = none → H dx = none → dx ≠ x → spInit K C [.ref x, .ref a] (upd (upd H dx (.own x)) x (.ins C dx [])) (fun v H2 => v = .non ∧ Q x H2) E0 := by
  intro x dx hx hdx hne
  have s1 := same_new hdx (.own x)
  have hx1 : (upd H dx (.own x)) x = none := by rw [upd_ne (Ne.symm hne)]; exact hx
  have s2 := s1.trans (same_new hx1 (.ins C dx []))
  exact ⟨x, a, dx, rs, rss, n, m, rfl, upd_same, hw.same s2, hg, hn, fun ra rs' H' kp hx' hw' => ⟨rfl, q x H' (fun b o e => kp b o (ne_of_none e hx) (s2 _ _ e)) hx ⟨dx, ra, rs', hx', hw'⟩⟩⟩
/-! ### alike -/
structure IsT (K : PySem.W.Frag) (C : Addr) : Prop where
  ha : PySem.W.findIn K (.ref C) "__class__" = some (some (.builtin "object.__class__"))
  hn : PySem.W.specialIn K (.builtin "object.__class__") "__get__" = some (some (.builtin "getset_descriptor.__get__"))
  ht : PySem.W.takesIn K (.builtin "object.__class__") = some true
  hm : PySem.W.mroIn K C (.type "object") = some true
  kt : PySem.W.kitOne K (.ref C) (.ref C) = some true
def AlikeC (K : PySem.W.Frag) (C : Addr) (a b : Addr) (H : Hp) : Prop := ∃ (qs : List Rat) (hss tss : List (List Rat)) (n m : Nat), IsCase K H C a qs hss tss n ∧ IsCase K H C b qs hss tss m
def AlikeR (K : PySem.W.Frag) (C : Addr) (a b : Addr) (H : Hp) : Prop := ∃ (rss : List (List Rat)) (n m : Nat), IsRule K H C a rss n ∧ IsRule K H C b rss m
end Hr

set_option Elab.async false
set_option linter.all false
set_option maxRecDepth 100000
set_option maxHeartbeats 4000000
namespace Hr
open PySem PySem.Spec PyProof.Rows L2 BX EXB Co Ru
open Dz Cs
open Fr (Bd)
/-! ### words put together -/
abbrev gv (gs : List Nat) : List V := dsV gs
def spChkGr (K : PySem.W.Frag) : Sp := fun vs H Q _ => ∃ (a : Addr) (gs : List Nat) (many : Nat), vs = [.ref a, .int (gs.length : Int), .int (many : Int)] ∧ H a = some (.lst (gv gs)) ∧ (∀ g ∈ gs, g < many) ∧ ∀ H', Same H H' → Q .non H'
def spGrpRow (K : PySem.W.Frag) : Sp := fun vs H Q _ => ∃ (r gl : Addr) (cs : List V) (qs : List Rat) (gs : List Nat) (n many : Nat), vs = [.ref r, .ref gl, .int (many : Int)] ∧ H r = some (.lst cs) ∧ FrN K H n cs qs ∧ H gl = some (.lst (gv gs)) ∧ gs.length = qs.length ∧ qs.length ≤ 30 ∧ (∀ g ∈ gs, g < many) ∧ many ≤ 30 ∧ n ≤ 8 ∧
  ∀ D cs' H', Same H H' → H D = none → H' D = some (.lst cs') → FrN K H' 280 cs' (grp qs gs (List.replicate many 0)) → Q (.ref D) H'
def spGrouped (K : PySem.W.Frag) (C : Addr) : Sp := fun vs H Q _ => ∃ (x gl : Addr) (rss : List (List Rat)) (gs : List Nat) (n m many : Nat), vs = [.ref x, .ref gl, .int (many : Int)] ∧ IsRule K H C x rss n ∧ Good rss m ∧ H gl = some (.lst (gv gs)) ∧ gs.length = m ∧ (∀ g ∈ gs, g < many) ∧ 1 ≤ many ∧ many ≤ 30 ∧ n ≤ 8 ∧
  ∀ x H', Same H H' → H x = none → IsRule K H' C x (rss.map fun qs => grp qs gs (List.replicate many 0)) 280 → Q (.ref x) H'
theorem grp_snoc : ∀ (qs : List Rat) (gs : List Nat) (s : Rat) (g : Nat) (told : List Rat), qs.length = gs.length → grp (qs ++ [s]) (gs ++ [g]) told = (grp qs gs told).set g ((grp qs gs told).getD g 0 + s)
  | [], [], s, g, told, _ => rfl
  | [], _ :: _, _, _, _, h => by simp at h
  | _ :: _, [], _, _, _, h => by simp at h
  | q :: qs, x :: gs, s, g, told, h => by
    show grp (qs ++ [s]) (gs ++ [g]) _ = _
    rw [grp_snoc qs gs s g _ (by simpa using h)]
    rfl
theorem good_grouped {rss : List (List Rat)} {gs : List Nat} {m many : Nat} (hg : Good rss m) (hl : gs.length = m) (hm : ∀ g ∈ gs, g < many) (h1 : 1 ≤ many) (h30 : many ≤ 30) : Good (rss.map fun qs => grp qs gs (List.replicate many 0)) many := by
  refine ⟨by rw [List.length_map]; exact hg.w1, by rw [List.length_map]; exact hg.w5, h1, h30, fun qs hq => ?_⟩
  obtain ⟨r, hr, rfl⟩ := List.mem_map.mp hq
  exact grp_ok (hg.row r hr) hl hm
theorem rep_flat (k : Nat) (v : V) : (List.replicate k [v]).flatten = List.replicate k v := by
  induction k with
  | zero => rfl
  | succ k ih => rw [List.replicate_succ, List.flatten_cons, ih, List.replicate_succ]; rfl
theorem frn_rep {K : PySem.W.Frag} {H : Hp} {t : Addr} {k : Nat} (ht : SqT K H t (rp 0)) : FrN K H 1 (List.replicate k (V.ref t)) (List.replicate k 0) := by
  refine ⟨by rw [List.length_replicate, List.length_replicate], fun i v e => ?_⟩
  have hi : i < k := by
    have := (List.getElem?_eq_some_iff.mp e).1
    rw [List.length_replicate] at this
    exact this
  rw [List.getElem?_replicate, if_pos hi] at e
  exact ⟨t, 0, by rw [List.getElem?_replicate, if_pos hi], (Option.some.inj e).symm, ht, (⟨by decide, by decide⟩ : Bd 1 (0 : Rat))⟩
/-- the groups that make advice -/
def grpsL (qs : List Rat) (hss tss rss : List (List Rat)) (dd mm : Nat) (hard : Bool) : List Nat := (deedsL qs hss tss rss dd mm hard).map fun o => o.getD 0
def advR (qs : List Rat) (hss tss rss : List (List Rat)) (dd mm : Nat) (hard : Bool) : List (List Rat) := rss.map fun r => grp r (grpsL qs hss tss rss dd mm hard) (List.replicate dd 0)
theorem grpsL_len {qs : List Rat} {hss tss rss : List (List Rat)} {dd mm : Nat} {hard : Bool} : (grpsL qs hss tss rss dd mm hard).length = mm := by
  unfold grpsL
  rw [List.length_map, deedsL_len]
theorem grpsL_at {qs : List Rat} {hss tss rss : List (List Rat)} {dd mm i : Nat} {hard : Bool} (h : i < mm) : (grpsL qs hss tss rss dd mm hard)[i]? = some ((wordD qs hss tss rss dd hard i).getD 0) := by
  unfold grpsL
  rw [List.getElem?_map, deedsL_at h]
  rfl
theorem grpsL_lt {qs : List Rat} {hss tss rss : List (List Rat)} {dd mm : Nat} {hard : Bool} (h1 : 1 ≤ dd) : ∀ g ∈ grpsL qs hss tss rss dd mm hard, g < dd := fun g hg => by
  unfold grpsL at hg
  obtain ⟨o, ho, rfl⟩ := List.mem_map.mp hg
  unfold deedsL at ho
  obtain ⟨i, _, rfl⟩ := List.mem_map.mp ho
  cases e : wordD qs hss tss rss dd hard i with
  | none => exact h1
  | some d => exact word_lt e h1
theorem grp_bd : ∀ (row : List Rat) (gs : List Nat) (told : List Rat) (n : Nat), 1 ≤ n → (∀ q ∈ row, Bd 8 q) → (∀ q ∈ told, Bd n q) → ∀ x ∈ grp row gs told, Bd (n + 9 * row.length) x
  | [], _, told, n, _, _, ht, x, hx => by
    rw [grp] at hx
    · exact (ht x hx).mono (Nat.le_add_right _ _)
    · simp
  | _ :: _, [], told, n, _, _, ht, x, hx => by
    rw [grp] at hx
    · exact (ht x hx).mono (Nat.le_add_right _ _)
    · simp
  | s :: row, g :: gs, told, n, hn, hr, ht, x, hx => by
    rw [grp] at hx
    refine (grp_bd row gs _ (n + 9) (by omega) (fun q hq => hr q (List.mem_cons_of_mem _ hq)) (fun q hq => ?_) x hx).mono (by rw [List.length_cons]; omega)
    rcases List.mem_or_eq_of_mem_set hq with hq | rfl
    · exact (ht q hq).mono (by omega)
    · by_cases h : g < told.length
      · rw [List.getD_eq_getElem?_getD, List.getElem?_eq_getElem h]
        exact (Fr.bd_add (ht _ (List.getElem_mem h)) (hr s (List.mem_cons_self ..))).mono (by omega)
      · rw [List.getD_eq_getElem?_getD, List.getElem?_eq_none (by omega)]
        exact (Fr.bd_add (a := 0) (n := 1) ⟨by decide, by decide⟩ (hr s (List.mem_cons_self ..))).mono (by omega)
/-- the first i words put together -/
def grpI (gs : List Nat) (dd i : Nat) (r : List Rat) : List Rat := grp (r.take i) (gs.take i) (List.replicate dd 0)
theorem grpI_succ {gs : List Nat} {dd i g : Nat} {r : List Rat} {s : Rat} (hl : gs.length = r.length) (hg : gs[i]? = some g) (hs : r[i]? = some s) : grpI gs dd (i + 1) r = (grpI gs dd i r).set g ((grpI gs dd i r).getD g 0 + s) := by
  unfold grpI
  rw [take_succ_at hg, take_succ_at hs]
  exact grp_snoc _ _ _ _ _ (by rw [List.length_take, List.length_take, hl])
theorem grpI_len {gs : List Nat} {dd i : Nat} {r : List Rat} : (grpI gs dd i r).length = dd := by
  unfold grpI
  rw [grp_len, List.length_replicate]
theorem grpI_all {gs : List Nat} {dd i : Nat} {r : List Rat} (h1 : r.length ≤ i) (h2 : gs.length ≤ i) : grpI gs dd i r = grp r gs (List.replicate dd 0) := by
  unfold grpI
  rw [List.take_of_length_le h1, List.take_of_length_le h2]
theorem grpI_bd {gs : List Nat} {dd i : Nat} {r : List Rat} (h : ∀ q ∈ r, Bd 8 q) (hi : i ≤ 9) : ∀ x ∈ grpI gs dd i r, Bd 82 x := fun x hx => by
  unfold grpI at hx
  refine (grp_bd _ _ _ 1 (Nat.le_refl _) (fun q hq => h q (List.mem_of_mem_take hq)) (fun q hq => ?_) x hx).mono ?_
  · rw [List.eq_of_mem_replicate hq]
    exact ⟨by decide, by decide⟩
  · have := List.length_take_le i r
    omega
def midR (gs : List Nat) (dd i j : Nat) (rss : List (List Rat)) : List (List Rat) := (rss.take j).map (grpI gs dd (i + 1)) ++ (rss.drop j).map (grpI gs dd i)
theorem midR_at {gs : List Nat} {dd i j : Nat} {rss : List (List Rat)} {r : List Rat} (h : rss[j]? = some r) : (midR gs dd i j rss)[j]? = some (grpI gs dd i r) := by
  have hj : j < rss.length := (List.getElem?_eq_some_iff.mp h).1
  unfold midR
  rw [List.getElem?_append_right (by rw [List.length_map, List.length_take]; omega), List.length_map, List.length_take, Nat.min_eq_left (by omega), Nat.sub_self, List.getElem?_map, List.getElem?_drop, Nat.add_zero, h]
  rfl
theorem midR_succ {gs : List Nat} {dd i j : Nat} {rss : List (List Rat)} {r : List Rat} (h : rss[j]? = some r) : (midR gs dd i j rss).set j (grpI gs dd (i + 1) r) = midR gs dd i (j + 1) rss := by
  have hj : j < rss.length := (List.getElem?_eq_some_iff.mp h).1
  have er : rss[j] = r := (List.getElem?_eq_some_iff.mp h).2
  unfold midR
  rw [List.set_append_right _ _ (by rw [List.length_map, List.length_take]; omega), List.length_map, List.length_take, Nat.min_eq_left (by omega), Nat.sub_self, List.drop_eq_getElem_cons hj, List.map_cons, List.set_cons_zero, take_succ_at h, List.map_append, List.append_assoc]
  rfl
theorem midR_zero {gs : List Nat} {dd i : Nat} {rss : List (List Rat)} : midR gs dd i 0 rss = rss.map (grpI gs dd i) := by
  unfold midR
  rw [List.take_zero, List.drop_zero]
  rfl
theorem midR_full {gs : List Nat} {dd i : Nat} {rss : List (List Rat)} : midR gs dd i rss.length rss = rss.map (grpI gs dd (i + 1)) := by
  unfold midR
  rw [List.take_length, List.drop_length, List.map_nil, List.append_nil]
def spAdvised (K : PySem.W.Frag) (C CR : Addr) : Sp := fun vs H Q _ => ∃ (x y : Addr) (hard : Bool) (qs : List Rat) (hss tss rss : List (List Rat)) (n m ww dd mm : Nat), vs = [.ref x, .ref y, .bl hard] ∧ Ga K H C CR x y qs hss tss rss n m ww dd mm ∧ m ≤ 8 ∧
  ∀ z H', Same H H' → H z = none → IsRule K H' CR z (advR qs hss tss rss dd mm hard) 280 → Q (.ref z) H'
def spDueG (K : PySem.W.Frag) : Sp := fun vs H Q _ => ∃ (P D : Addr) (hard : Bool) (qs : List Rat) (hss tss rss : List (List Rat)) (rs : List Addr) (ww dd mm : Nat), vs = [.ref P, .ref D, .bl hard] ∧ LG K H P D qs hss tss rss rs ww dd mm ∧ mm ≤ 9 ∧
  ∀ p rs' H', Same H H' → RwL K H' p rs' (advR qs hss tss rss dd mm hard) 280 → Q (.ref p) H'
theorem good_adv {K : PySem.W.Frag} {H : Hp} {P D : Addr} {qs : List Rat} {hss tss rss : List (List Rat)} {rs : List Addr} {ww dd mm : Nat} {hard : Bool} (h : LG K H P D qs hss tss rss rs ww dd mm) : Good (advR qs hss tss rss dd mm hard) dd := good_grouped h.go grpsL_len (grpsL_lt h.g.d1) h.g.d1 (by have := h.g.d6; omega)
end Hr

set_option Elab.async false
set_option linter.all false
set_option maxRecDepth 100000
set_option maxHeartbeats 4000000
namespace Hr
open PySem PySem.Spec PyProof.Rows L2 BX EXB Co Ru
open Dz Cs
open Fr (Bd)
/-! ### where advice falls short -/
theorem num_pos' (q : Rat) : 0 < q.num ↔ 0 < q := by
  constructor
  · intro h
    have h1 : 0 ≤ q := Rat.num_nonneg.mp (by omega)
    exact Rat.not_le.mp fun z => by
      have := Rat.le_antisymm z h1
      rw [this] at h
      exact absurd h (by decide)
  · intro h
    have h1 : 0 ≤ q.num := Rat.num_nonneg.mpr (Rat.le_of_lt h)
    rcases Int.lt_or_eq_of_le h1 with h2 | h2
    · exact h2
    · have := Rat.num_eq_zero.mp h2.symm
      rw [this] at h
      exact absurd h (Rat.not_lt.mpr Rat.le_refl)
def leadP (rss : List (List Rat)) (ws : List Rat) (d e : Nat) : List Rat := List.zipWith (fun w r => w * (r.getD d 0 - r.getD e 0)) ws rss
def leadQ (rss : List (List Rat)) (ws : List Rat) (d e : Nat) : Rat := (leadP rss ws d e).sum
theorem leadP_at {rss : List (List Rat)} {ws : List Rat} {d e i : Nat} {q : Rat} {r : List Rat} (h1 : ws[i]? = some q) (h2 : rss[i]? = some r) : (leadP rss ws d e)[i]? = some (q * (r.getD d 0 - r.getD e 0)) := by
  unfold leadP
  rw [List.getElem?_zipWith, h1, h2]
theorem leadP_len {rss : List (List Rat)} {ws : List Rat} {d e : Nat} (h : ws.length = rss.length) : (leadP rss ws d e).length = ws.length := by
  unfold leadP
  rw [List.length_zipWith]
  omega
theorem lead_wq : ∀ (rss : List (List Rat)) (ws : List Rat) (d e : Nat), leadQ rss ws d e = wq rss ws d - wq rss ws e
  | [], ws, d, e => by
    cases ws <;> (unfold leadQ leadP wq prods; simp; try grind)
  | r :: rss, [], d, e => by unfold leadQ leadP wq prods; simp; try grind
  | r :: rss, w :: ws, d, e => by
    have i := lead_wq rss ws d e
    have a : leadQ (r :: rss) (w :: ws) d e = w * (r.getD d 0 - r.getD e 0) + leadQ rss ws d e := rfl
    have b : ∀ x, wq (r :: rss) (w :: ws) x = w * r.getD x 0 + wq rss ws x := fun x => rfl
    rw [a, b, b, i]
    grind
def spLead (K : PySem.W.Frag) : Sp := fun vs H Q _ => ∃ (a b : Addr) (d e : Nat) (rs : List Addr) (rss : List (List Rat)) (cs : List V) (ws : List Rat) (n m dd : Nat), vs = [.ref a, .ref b, .int (d : Int), .int (e : Int)] ∧ RwL K H a rs rss n ∧ SqL K H b cs ∧ FrN K H m cs ws ∧ ws.length = rss.length ∧ rss.length ≤ 5 ∧ (∀ r ∈ rss, r.length = dd) ∧ d < dd ∧ e < dd ∧ n ≤ 280 ∧ m ≤ 560 ∧
  ∀ p H', Same H H' → SqT K H' p (rp (leadQ rss ws d e)) → Q (.ref p) H'
/-- the deeds that would be better, word by word -/
def faultD (hss : List (List Rat)) (ws : List Rat) (d k : Nat) : List (Nat × Nat × Rat) := (List.range k).filterMap fun e => if 0 < leadQ hss ws e d then some (d, e, leadQ hss ws e d) else none
def faultsL (qs : List Rat) (hss rss : List (List Rat)) (dd k : Nat) : List (Nat × Nat × Rat) := (List.range k).flatMap fun d => faultD hss (prods rss qs d) d dd
theorem faultD_succ {hss : List (List Rat)} {ws : List Rat} {d k : Nat} : faultD hss ws d (k + 1) = faultD hss ws d k ++ (if 0 < leadQ hss ws k d then [(d, k, leadQ hss ws k d)] else []) := by
  unfold faultD
  rw [List.range_succ, List.filterMap_append]
  congr 1
  by_cases h : 0 < leadQ hss ws k d
  · simp [h]
  · simp [h]
theorem faultD_len {hss : List (List Rat)} {ws : List Rat} {d k : Nat} : (faultD hss ws d k).length ≤ k := by
  unfold faultD
  refine Nat.le_trans (List.length_filterMap_le _ _) ?_
  rw [List.length_range]
  exact Nat.le_refl _
theorem faultsL_succ {qs : List Rat} {hss rss : List (List Rat)} {dd k : Nat} : faultsL qs hss rss dd (k + 1) = faultsL qs hss rss dd k ++ faultD hss (prods rss qs k) k dd := by
  unfold faultsL
  rw [List.range_succ, List.flatMap_append]
  congr 1
  simp
theorem faultsL_len {qs : List Rat} {hss rss : List (List Rat)} {dd : Nat} : ∀ k : Nat, (faultsL qs hss rss dd k).length ≤ k * dd
  | 0 => Nat.zero_le _
  | k + 1 => by
    rw [faultsL_succ, List.length_append]
    have := faultsL_len (qs := qs) (hss := hss) (rss := rss) (dd := dd) k
    have := faultD_len (hss := hss) (ws := prods rss qs k) (d := k) (k := dd)
    rw [Nat.succ_mul]
    omega
/-- tuples (deed, other, much) -/
def FauAt (K : PySem.W.Frag) (H : Hp) (cs : List V) (l : List (Nat × Nat × Rat)) : Prop := cs.length = l.length ∧ ∀ (j : Nat) (v : V), cs[j]? = some v → ∃ (d e : Nat) (m : Rat) (t p : Addr), l[j]? = some (d, e, m) ∧ v = .ref t ∧ SqT K H t [.int (d : Int), .int (e : Int), .ref p] ∧ SqT K H p (rp m)
theorem FauAt.keep {K : PySem.W.Frag} {H H' : Hp} {cs : List V} {l : List (Nat × Nat × Rat)} (h : FauAt K H cs l) (k : ∀ a xs, SqT K H a xs → SqT K H' a xs) : FauAt K H' cs l :=
  ⟨h.1, fun j v e => let ⟨d, x, m, t, p, a, b, c, f⟩ := h.2 j v e; ⟨d, x, m, t, p, a, b, k _ _ c, k _ _ f⟩⟩
theorem FauAt.same {K : PySem.W.Frag} {H H' : Hp} {cs : List V} {l : List (Nat × Nat × Rat)} (h : FauAt K H cs l) (s : Same H H') : FauAt K H' cs l := h.keep fun _ _ => seqT s
theorem FauAt.nil {K : PySem.W.Frag} {H : Hp} : FauAt K H [] [] := ⟨rfl, fun j v e => by simp at e⟩
theorem FauAt.snoc {K : PySem.W.Frag} {H : Hp} {cs : List V} {l : List (Nat × Nat × Rat)} {d e : Nat} {m : Rat} {t p : Addr} (h : FauAt K H cs l) (ht : SqT K H t [.int (d : Int), .int (e : Int), .ref p]) (hp : SqT K H p (rp m)) : FauAt K H (cs ++ [.ref t]) (l ++ [(d, e, m)]) := by
  refine ⟨by rw [List.length_append, List.length_append, h.1]; rfl, fun j v ev => ?_⟩
  by_cases hj : j < cs.length
  · rw [List.getElem?_append_left hj] at ev
    obtain ⟨d', e', m', t', p', a, r⟩ := h.2 j v ev
    exact ⟨d', e', m', t', p', by rw [List.getElem?_append_left (by rw [← h.1]; exact hj)]; exact a, r⟩
  · rw [List.getElem?_append_right (by omega)] at ev
    have e0 : j - cs.length = 0 := by
      cases z : j - cs.length with
      | zero => rfl
      | succ k => rw [z] at ev; simp at ev
    rw [e0] at ev
    refine ⟨d, e, m, t, p, ?_, (Option.some.inj ev).symm, ht, hp⟩
    rw [List.getElem?_append_right (by rw [← h.1]; omega), ← h.1, e0]
    rfl
def spFaults (K : PySem.W.Frag) (C CR : Addr) : Sp := fun vs H Q _ => ∃ (x y : Addr) (qs : List Rat) (hss tss rss : List (List Rat)) (n m ww dd : Nat), vs = [.ref x, .ref y] ∧ Ga K H C CR x y qs hss tss rss n m ww dd dd ∧
  ∀ p cs H', Same H H' → H p = none → H' p = some (.lst cs) → FauAt K H' cs (faultsL qs hss rss dd dd) → Q (.ref p) H'
def spFollowed (K : PySem.W.Frag) (C CR : Addr) : Sp := fun vs H Q _ => ∃ (x y : Addr) (qs : List Rat) (hss tss rss : List (List Rat)) (n m ww dd : Nat), vs = [.ref x, .ref y] ∧ Ga K H C CR x y qs hss tss rss n m ww dd dd ∧
  ∀ H', Same H H' → Q (.bl (decide (faultsL qs hss rss dd dd = []))) H'
end Hr

set_option Elab.async false
set_option linter.all false
set_option maxRecDepth 100000
set_option maxHeartbeats 4000000
namespace Hr
open PySem PySem.Spec PyProof.Rows L2 BX EXB Co Ru
open Dz Cs
open Fr (Bd)
/-! ### words put together, weighed -/
/-- the sum over the words of a group -/
def sumG : List Nat → Nat → (Nat → Rat) → Rat
  | [], _, _ => 0
  | g :: gs, d, f => (if g = d then f 0 else 0) + sumG gs d fun i => f (i + 1)
theorem sumG_congr {d : Nat} : ∀ {gs : List Nat} {f g : Nat → Rat}, (∀ i, gs[i]? = some d → f i = g i) → sumG gs d f = sumG gs d g
  | [], _, _, _ => rfl
  | x :: gs, f, g, h => by
    have i := sumG_congr (gs := gs) (f := fun i => f (i + 1)) (g := fun i => g (i + 1)) fun i hi => h (i + 1) hi
    unfold sumG
    rw [i]
    by_cases e : x = d
    · rw [if_pos e, if_pos e, h 0 (by rw [e]; rfl)]
    · rw [if_neg e, if_neg e]
theorem sumG_add {d : Nat} : ∀ (gs : List Nat) (f g : Nat → Rat), sumG gs d (fun i => f i + g i) = sumG gs d f + sumG gs d g
  | [], _, _ => by unfold sumG; grind
  | x :: gs, f, g => by
    have i := sumG_add (d := d) gs (fun i => f (i + 1)) (fun i => g (i + 1))
    unfold sumG
    rw [i]
    by_cases e : x = d
    · rw [if_pos e, if_pos e, if_pos e]; grind
    · rw [if_neg e, if_neg e, if_neg e]; grind
theorem sumG_mul {d : Nat} : ∀ (gs : List Nat) (c : Rat) (f : Nat → Rat), sumG gs d (fun i => c * f i) = c * sumG gs d f
  | [], _, _ => by unfold sumG; grind
  | x :: gs, c, f => by
    have i := sumG_mul (d := d) gs c (fun i => f (i + 1))
    unfold sumG
    rw [i]
    by_cases e : x = d
    · rw [if_pos e, if_pos e]; grind
    · rw [if_neg e, if_neg e]; grind
theorem sumG_zero {d : Nat} : ∀ (gs : List Nat), sumG gs d (fun _ => 0) = 0
  | [] => rfl
  | x :: gs => by
    unfold sumG
    rw [sumG_zero gs]
    by_cases e : x = d
    · rw [if_pos e]; grind
    · rw [if_neg e]; grind
theorem sumG_le {d : Nat} : ∀ {gs : List Nat} {f g : Nat → Rat}, (∀ i, gs[i]? = some d → f i ≤ g i) → sumG gs d f ≤ sumG gs d g
  | [], _, _, _ => Rat.le_refl
  | x :: gs, f, g, h => by
    have i := sumG_le (gs := gs) (f := fun i => f (i + 1)) (g := fun i => g (i + 1)) fun i hi => h (i + 1) hi
    unfold sumG
    by_cases e : x = d
    · have := h 0 (by rw [e]; rfl)
      rw [if_pos e, if_pos e]; grind
    · rw [if_neg e, if_neg e]; grind
theorem sumG_lt {d : Nat} : ∀ {gs : List Nat} {f g : Nat → Rat} {j : Nat}, (∀ i, gs[i]? = some d → f i ≤ g i) → gs[j]? = some d → f j < g j → sumG gs d f < sumG gs d g
  | [], _, _, _, _, hj, _ => by simp at hj
  | x :: gs, f, g, 0, h, hj, hl => by
    have i := sumG_le (gs := gs) (f := fun i => f (i + 1)) (g := fun i => g (i + 1)) fun i hi => h (i + 1) hi
    have e : x = d := Option.some.inj hj
    unfold sumG
    rw [if_pos e, if_pos e]; grind
  | x :: gs, f, g, j + 1, h, hj, hl => by
    have i := sumG_lt (gs := gs) (f := fun i => f (i + 1)) (g := fun i => g (i + 1)) (j := j) (fun i hi => h (i + 1) hi) hj hl
    unfold sumG
    by_cases e : x = d
    · have := h 0 (by rw [e]; rfl)
      rw [if_pos e, if_pos e]; grind
    · rw [if_neg e, if_neg e]; grind
/-- no word of the group: nothing -/
theorem sumG_none {d : Nat} {gs : List Nat} {f : Nat → Rat} (h : ∀ i : Nat, gs[i]? ≠ some d) : sumG gs d f = 0 := by
  rw [← sumG_zero (d := d) gs]
  exact sumG_congr fun i hi => absurd hi (h i)
theorem getD_set {l : List Rat} {g d : Nat} {v : Rat} (hg : g < l.length) : (l.set g v).getD d 0 = if g = d then v else l.getD d 0 := by
  rw [List.getD_eq_getElem?_getD, List.getD_eq_getElem?_getD, List.getElem?_set]
  by_cases e : g = d
  · rw [if_pos e, if_pos e, if_pos (by omega)]
    rfl
  · rw [if_neg e, if_neg e]
theorem grp_getD : ∀ (r : List Rat) (gs : List Nat) (told : List Rat) (d : Nat), r.length = gs.length → (∀ g ∈ gs, g < told.length) → (grp r gs told).getD d 0 = told.getD d 0 + sumG gs d fun i => r.getD i 0
  | [], [], told, d, _, _ => by
    rw [grp]
    · unfold sumG; grind
    · simp
  | [], _ :: _, _, _, h, _ => by simp at h
  | _ :: _, [], _, _, h, _ => by simp at h
  | s :: r, g :: gs, told, d, h, hg => by
    have g0 := hg g (List.mem_cons_self ..)
    rw [grp, grp_getD r gs _ d (by simpa using h) (fun x hx => by rw [List.length_set]; exact hg x (List.mem_cons_of_mem _ hx)), getD_set g0]
    show _ = told.getD d 0 + ((if g = d then s else 0) + sumG gs d fun i => r.getD i 0)
    by_cases e : g = d
    · rw [if_pos e, if_pos e, e]; grind
    · rw [if_neg e, if_neg e]; grind
theorem rep_getD (dd d : Nat) : (List.replicate dd (0 : Rat)).getD d 0 = 0 := by
  rw [List.getD_eq_getElem?_getD, List.getElem?_replicate]
  by_cases h : d < dd
  · rw [if_pos h]; rfl
  · rw [if_neg h]; rfl
section
variable {gs : List Nat} {dd : Nat}
/-- the weight of a word of the advice, by any table -/
theorem wq_grp {d : Nat} : ∀ (rss : List (List Rat)) (qs : List Rat), (∀ r ∈ rss, r.length = gs.length) → (∀ g ∈ gs, g < dd) → wq (rss.map fun r => grp r gs (List.replicate dd 0)) qs d = sumG gs d fun i => wq rss qs i
  | [], qs, _, _ => by
    have e : ∀ i, wq [] qs i = 0 := fun i => by unfold wq prods; cases qs <;> rfl
    show wq [] qs d = _
    rw [e, ← sumG_zero (d := d) gs]
    exact sumG_congr fun i _ => (e i).symm
  | r :: rss, [], _, _ => by
    have e : ∀ (l : List (List Rat)) i, wq l [] i = 0 := fun l i => rfl
    rw [e, ← sumG_zero (d := d) gs]
    exact sumG_congr fun i _ => (e _ i).symm
  | r :: rss, q :: qs, hr, hg => by
    have i := wq_grp (d := d) rss qs (fun x hx => hr x (List.mem_cons_of_mem _ hx)) hg
    have a : ∀ x, wq (r :: rss) (q :: qs) x = q * r.getD x 0 + wq rss qs x := fun x => rfl
    show q * (grp r gs (List.replicate dd 0)).getD d 0 + wq (rss.map fun r => grp r gs (List.replicate dd 0)) qs d = _
    rw [i, grp_getD r gs _ d (hr r (List.mem_cons_self ..)) (fun g h => by rw [List.length_replicate]; exact hg g h), rep_getD, Rat.zero_add, ← sumG_mul, ← sumG_add]
    exact sumG_congr fun i _ => (a i).symm
theorem wq_adv {d e : Nat} : ∀ (rss xss : List (List Rat)) (qs : List Rat), (∀ r ∈ rss, r.length = gs.length) → (∀ g ∈ gs, g < dd) → wq xss (prods (rss.map fun r => grp r gs (List.replicate dd 0)) qs d) e = sumG gs d fun i => wq xss (prods rss qs i) e
  | [], xss, qs, _, _ => by
    have z : ∀ i, wq xss (prods [] qs i) e = 0 := fun i => by unfold wq prods; cases qs <;> cases xss <;> rfl
    show wq xss (prods [] qs d) e = _
    rw [z, ← sumG_zero (d := d) gs]
    exact sumG_congr fun i _ => (z i).symm
  | r :: rss, xss, [], _, _ => by
    have z : ∀ (l : List (List Rat)) i, wq xss (prods l [] i) e = 0 := fun l i => by unfold wq prods; cases xss <;> rfl
    rw [z, ← sumG_zero (d := d) gs]
    exact sumG_congr fun i _ => (z _ i).symm
  | r :: rss, [], q :: qs, _, _ => by
    have z : ∀ (l : List Rat), wq [] l e = 0 := fun l => by unfold wq prods; cases l <;> rfl
    rw [z, ← sumG_zero (d := d) gs]
    exact sumG_congr fun i _ => (z _).symm
  | r :: rss, x :: xss, q :: qs, hr, hg => by
    have i := wq_adv (d := d) (e := e) rss xss qs (fun x hx => hr x (List.mem_cons_of_mem _ hx)) hg
    have a : ∀ j, wq (x :: xss) (prods (r :: rss) (q :: qs) j) e = (q * x.getD e 0) * r.getD j 0 + wq xss (prods rss qs j) e := fun j => by
      show q * r.getD j 0 * x.getD e 0 + wq xss (prods rss qs j) e = _
      grind
    show q * (grp r gs (List.replicate dd 0)).getD d 0 * x.getD e 0 + wq xss (prods (rss.map fun r => grp r gs (List.replicate dd 0)) qs d) e = _
    rw [i, grp_getD r gs _ d (hr r (List.mem_cons_self ..)) (fun g h => by rw [List.length_replicate]; exact hg g h), rep_getD, Rat.zero_add]
    rw [show q * (sumG gs d fun i => r.getD i 0) * x.getD e 0 = (q * x.getD e 0) * (sumG gs d fun i => r.getD i 0) by grind, ← sumG_mul, ← sumG_add]
    exact sumG_congr fun i _ => (a i).symm
end
/-! ### who is done, by values -/
theorem best_sorted (hss : List (List Rat)) (ws : List Rat) (dd : Nat) : (bestL hss ws dd).Pairwise (· < ·) := List.Pairwise.filter _ List.pairwise_lt_range
theorem done_iff {key : Nat → Rat} {l : List Nat} {d : Nat} (hs : l.Pairwise (· < ·)) : IsDone key l d ↔ d ∈ l ∧ (∀ e ∈ l, key e ≤ key d) ∧ ∀ e ∈ l, e < d → key e < key d := by
  have ord : ∀ (i j : Nat) (a b : Nat), l[i]? = some a → l[j]? = some b → i < j → a < b := fun i j a b ha hb hij => by
    obtain ⟨h1, e1⟩ := List.getElem?_eq_some_iff.mp ha
    obtain ⟨h2, e2⟩ := List.getElem?_eq_some_iff.mp hb
    have := List.pairwise_iff_getElem.mp hs i j h1 h2 hij
    omega
  constructor
  · rintro ⟨j, h1, h2, h3⟩
    refine ⟨List.mem_of_getElem? h1, h2, fun e he hlt => ?_⟩
    obtain ⟨i, hi, ei⟩ := List.getElem_of_mem he
    have hi' : l[i]? = some e := by rw [List.getElem?_eq_getElem hi, ei]
    refine h3 i e ?_ hi'
    rcases Nat.lt_trichotomy i j with h | h | h
    · exact h
    · subst h
      rw [h1] at hi'
      cases hi'
      omega
    · have := ord j i d e h1 hi' h
      omega
  · rintro ⟨h1, h2, h3⟩
    obtain ⟨j, hj, ej⟩ := List.getElem_of_mem h1
    have hj' : l[j]? = some d := by rw [List.getElem?_eq_getElem hj, ej]
    exact ⟨j, hj', h2, fun i e hi he => h3 e (List.mem_of_getElem? he) (ord i j e d he hj' hi)⟩
theorem mem_best {hss : List (List Rat)} {ws : List Rat} {dd d : Nat} : d ∈ bestL hss ws dd ↔ d < dd ∧ ∀ e, e < dd → wq hss ws e ≤ wq hss ws d := by
  unfold bestL
  rw [List.mem_filter, List.mem_range, decide_eq_true_eq]
/-! ### a word that is never said weighs nothing -/
theorem sum_zero_all : ∀ {l : List Rat}, (∀ x ∈ l, 0 ≤ x) → l.sum = 0 → ∀ x ∈ l, x = 0
  | [], _, _, x, hx => by simp at hx
  | a :: l, h, hs, x, hx => by
    have h0 := h a (List.mem_cons_self ..)
    have h1 : 0 ≤ l.sum := sum_nonneg' fun y hy => h y (List.mem_cons_of_mem _ hy)
    rw [List.sum_cons] at hs
    have ha : a = 0 := by grind
    have hl : l.sum = 0 := by grind
    rcases List.mem_cons.mp hx with rfl | hx
    · exact ha
    · exact sum_zero_all (fun y hy => h y (List.mem_cons_of_mem _ hy)) hl x hx
theorem wq_zeros {e : Nat} : ∀ {xss : List (List Rat)} {ws : List Rat}, (∀ x ∈ ws, x = 0) → wq xss ws e = 0
  | [], ws, _ => by unfold wq prods; cases ws <;> rfl
  | x :: xss, [], _ => rfl
  | x :: xss, w :: ws, h => by
    have i := wq_zeros (e := e) (xss := xss) (ws := ws) fun y hy => h y (List.mem_cons_of_mem _ hy)
    show w * x.getD e 0 + wq xss ws e = 0
    rw [i, h w (List.mem_cons_self ..)]
    grind
theorem unsaid {qs : List Rat} {rss xss : List (List Rat)} {i e : Nat} (h1 : ∀ q ∈ qs, 0 ≤ q) (h2 : ∀ r ∈ rss, ∀ q ∈ r, 0 ≤ q) (h : wq rss qs i = 0) : wq xss (prods rss qs i) e = 0 :=
  wq_zeros (sum_zero_all (prods_nn h1 h2) h)
/-! ### the advice made of words is followed -/
section
variable {qs : List Rat} {hss tss rss : List (List Rat)} {dd mm : Nat} {hard : Bool}
theorem adv_len (hr : ∀ r ∈ rss, r.length = mm) : ∀ r ∈ rss, r.length = (grpsL qs hss tss rss dd mm hard).length := fun r h => by rw [grpsL_len]; exact hr r h
/-- of a word of the group: it is never said, or d is done behind it -/
theorem grp_word {i d : Nat} (h : (grpsL qs hss tss rss dd mm hard)[i]? = some d) (d1 : 1 ≤ dd) : wq rss qs i = 0 ∨ (wq rss qs i ≠ 0 ∧ IsDone (keyT tss (prods rss qs i) hard) (bestL hss (prods rss qs i) dd) d) := by
  have him : i < mm := by
    have := (List.getElem?_eq_some_iff.mp h).1
    rw [grpsL_len] at this
    exact this
  rw [grpsL_at him] at h
  by_cases z : wq rss qs i = 0
  · exact .inl z
  · refine .inr ⟨z, ?_⟩
    obtain ⟨e, a, b⟩ := doneF_ok (key := keyT tss (prods rss qs i) hard) (bestL hss (prods rss qs i) dd).length (bestL hss (prods rss qs i) dd) rfl (best_ne' d1)
    unfold wordD at h
    rw [if_neg z, a] at h
    cases h
    exact b
theorem keyT_adv {d e : Nat} {gs : List Nat} (hr : ∀ r ∈ rss, r.length = gs.length) (hg : ∀ g ∈ gs, g < dd) : keyT tss (prods (rss.map fun r => grp r gs (List.replicate dd 0)) qs d) hard e = sumG gs d fun i => keyT tss (prods rss qs i) hard e := by
  have a := wq_adv (d := d) (e := e) rss tss qs hr hg
  cases hard with
  | false => exact a
  | true =>
    show 0 - _ = _
    rw [a, show (0 : Rat) - (sumG gs d fun i => wq tss (prods rss qs i) e) = (-1) * (sumG gs d fun i => wq tss (prods rss qs i) e) by grind, ← sumG_mul]
    refine sumG_congr fun i _ => ?_
    show _ = 0 - wq tss (prods rss qs i) e
    grind
/-- the deed that is advised is best, whether the word is said or not -/
theorem adv_best {d e : Nat} (h1 : ∀ q ∈ qs, 0 ≤ q) (h2 : ∀ r ∈ rss, ∀ q ∈ r, 0 ≤ q) (hr : ∀ r ∈ rss, r.length = mm) (d1 : 1 ≤ dd) (he : e < dd) : wq hss (prods (advR qs hss tss rss dd mm hard) qs d) e ≤ wq hss (prods (advR qs hss tss rss dd mm hard) qs d) d := by
  unfold advR
  rw [wq_adv rss hss qs (adv_len hr) (grpsL_lt d1), wq_adv rss hss qs (adv_len hr) (grpsL_lt d1)]
  refine sumG_le fun i hi => ?_
  rcases grp_word hi d1 with z | ⟨_, hd⟩
  · rw [unsaid h1 h2 z, unsaid h1 h2 z]
    exact Rat.le_refl
  · exact (mem_best.mp hd.mem).2 e he
theorem adv_followed (h1 : ∀ q ∈ qs, 0 ≤ q) (h2 : ∀ r ∈ rss, ∀ q ∈ r, 0 ≤ q) (hr : ∀ r ∈ rss, r.length = mm) (d1 : 1 ≤ dd) : faultsL qs hss (advR qs hss tss rss dd mm hard) dd dd = [] := by
  unfold faultsL
  rw [List.flatMap_eq_nil_iff]
  intro d _
  unfold faultD
  rw [List.filterMap_eq_nil_iff]
  intro e he
  refine if_neg fun z => ?_
  rw [lead_wq] at z
  have := adv_best (qs := qs) (hss := hss) (tss := tss) (rss := rss) (hard := hard) (d := d) h1 h2 hr d1 (List.mem_range.mp he)
  grind
/-- behind each word of the advice that is said, its own deed is done -/
theorem adv_done {d : Nat} (h1 : ∀ q ∈ qs, 0 ≤ q) (h2 : ∀ r ∈ rss, ∀ q ∈ r, 0 ≤ q) (hr : ∀ r ∈ rss, r.length = mm) (d1 : 1 ≤ dd) (hd : d < dd) (hn : wq (advR qs hss tss rss dd mm hard) qs d ≠ 0) : wordD qs hss tss (advR qs hss tss rss dd mm hard) dd hard d = some d := by
  refine word_some hn ((done_iff (best_sorted _ _ _)).mpr ⟨mem_best.mpr ⟨hd, fun e he => adv_best h1 h2 hr d1 he⟩, fun e he => ?_, fun e he hlt => ?_⟩)
  all_goals
    have eb := mem_best.mp he
    have same : ∀ i : Nat, (grpsL qs hss tss rss dd mm hard)[i]? = some d → wq hss (prods rss qs i) d ≤ wq hss (prods rss qs i) e := fun i hi => Rat.not_lt.mp fun z => by
      have lt : wq hss (prods (advR qs hss tss rss dd mm hard) qs d) e < wq hss (prods (advR qs hss tss rss dd mm hard) qs d) d := by
        unfold advR
        rw [wq_adv rss hss qs (adv_len hr) (grpsL_lt d1), wq_adv rss hss qs (adv_len hr) (grpsL_lt d1)]
        refine sumG_lt (j := i) (fun j hj => ?_) hi z
        rcases grp_word hj d1 with y | ⟨_, hy⟩
        · rw [unsaid h1 h2 y, unsaid h1 h2 y]
          exact Rat.le_refl
        · exact (mem_best.mp hy.mem).2 e eb.1
      exact absurd lt (Rat.not_lt.mpr (eb.2 d hd))
    have alike : ∀ i : Nat, IsDone (keyT tss (prods rss qs i) hard) (bestL hss (prods rss qs i) dd) d → (grpsL qs hss tss rss dd mm hard)[i]? = some d → e ∈ bestL hss (prods rss qs i) dd := fun i hi hg => mem_best.mpr ⟨eb.1, fun x hx => Rat.le_trans ((mem_best.mp hi.mem).2 x hx) (same i hg)⟩
    have le : ∀ i : Nat, (grpsL qs hss tss rss dd mm hard)[i]? = some d → keyT tss (prods rss qs i) hard e ≤ keyT tss (prods rss qs i) hard d := fun i hi => by
      rcases grp_word hi d1 with y | ⟨_, hy⟩
      · have z : ∀ x, keyT tss (prods rss qs i) hard x = 0 := fun x => by
          unfold keyT
          rw [unsaid h1 h2 y]
          cases hard with
          | false => rfl
          | true => rw [if_pos rfl]; grind
        rw [z, z]
        exact Rat.le_refl
      · exact ((done_iff (best_sorted _ _ _)).mp hy).2.1 e (alike i hy hi)
    unfold advR
    rw [keyT_adv (adv_len hr) (grpsL_lt d1), keyT_adv (adv_len hr) (grpsL_lt d1)]
  · exact sumG_le le
  · obtain ⟨i, hi, hs⟩ : ∃ i : Nat, (grpsL qs hss tss rss dd mm hard)[i]? = some d ∧ wq rss qs i ≠ 0 := by
      refine Classical.byContradiction fun z => hn ?_
      unfold advR
      rw [wq_grp rss qs (adv_len hr) (grpsL_lt d1), ← sumG_zero (d := d) (grpsL qs hss tss rss dd mm hard)]
      refine sumG_congr fun i hi => Classical.byContradiction fun y => z ⟨i, hi, y⟩
    rcases grp_word hi d1 with y | ⟨_, hy⟩
    · exact absurd y hs
    · exact sumG_lt le hi (((done_iff (best_sorted _ _ _)).mp hy).2.2 e (alike i hy hi) hlt)
end
/-! ### gains by the advice -/
def sumI : List Nat → (Nat → Nat → Rat) → Rat
  | [], _ => 0
  | g :: gs, f => f 0 g + sumI gs fun i => f (i + 1)
theorem sum_pick (g : Nat) (f : Nat → Rat) : ∀ k : Nat, ((List.range k).map fun d => if g = d then f d else 0).sum = if g < k then f g else 0
  | 0 => rfl
  | k + 1 => by
    rw [List.range_succ, List.map_append, List.sum_append, sum_pick g f k, List.map_singleton, List.sum_singleton]
    by_cases e : g = k
    · subst e
      rw [if_neg (Nat.lt_irrefl _), if_pos rfl, if_pos (Nat.lt_succ_self _)]; grind
    · by_cases h : g < k
      · rw [if_pos h, if_neg e, if_pos (by omega)]; grind
      · rw [if_neg h, if_neg e, if_neg (by omega)]; grind
theorem sum_map_add (f g : Nat → Rat) : ∀ l : List Nat, (l.map fun d => f d + g d).sum = (l.map f).sum + (l.map g).sum
  | [] => by show (0 : Rat) = 0 + 0; grind
  | x :: l => by
    rw [List.map_cons, List.map_cons, List.map_cons, List.sum_cons, List.sum_cons, List.sum_cons, sum_map_add f g l]
    grind
theorem sum_map_zero : ∀ l : List Nat, (l.map fun _ => (0 : Rat)).sum = 0
  | [] => rfl
  | x :: l => by
    rw [List.map_cons, List.sum_cons, sum_map_zero l]
    grind
theorem sumG_total {dd : Nat} : ∀ (gs : List Nat) (f : Nat → Nat → Rat), (∀ g ∈ gs, g < dd) → ((List.range dd).map fun d => sumG gs d fun i => f i d).sum = sumI gs f
  | [], f, _ => sum_map_zero _
  | g :: gs, f, h => by
    have i := sumG_total gs (fun i => f (i + 1)) fun x hx => h x (List.mem_cons_of_mem _ hx)
    show ((List.range dd).map fun d => (if g = d then f 0 d else 0) + sumG gs d fun i => f (i + 1) d).sum = f 0 g + sumI gs fun i => f (i + 1)
    rw [sum_map_add, i, sum_pick g (f 0) dd, if_pos (h g (List.mem_cons_self ..))]
theorem sumI_range : ∀ (gs : List Nat) (f : Nat → Nat → Rat), sumI gs f = ((List.range gs.length).map fun i => f i (gs.getD i 0)).sum
  | [], f => rfl
  | g :: gs, f => by
    rw [List.length_cons, List.range_succ_eq_map, List.map_cons, List.sum_cons, List.map_map]
    show f 0 g + sumI gs (fun i => f (i + 1)) = _
    rw [sumI_range gs]
    rfl
section
variable {qs : List Rat} {hss tss rss xss : List (List Rat)} {dd mm : Nat} {hard : Bool}
theorem gain_word {i : Nat} (h1 : ∀ q ∈ qs, 0 ≤ q) (h2 : ∀ r ∈ rss, ∀ q ∈ r, 0 ≤ q) (d1 : 1 ≤ dd) (him : i < mm) : gainW xss qs hss tss rss dd hard i = wq xss (prods rss qs i) ((grpsL qs hss tss rss dd mm hard).getD i 0) := by
  rw [List.getD_eq_getElem?_getD, grpsL_at him]
  by_cases z : wq rss qs i = 0
  · rw [gainW_none z, unsaid h1 h2 z]
  · unfold gainW
    cases e : wordD qs hss tss rss dd hard i with
    | none =>
      exfalso
      unfold wordD at e
      rw [if_neg z] at e
      obtain ⟨d, a, _⟩ := doneF_ok (key := keyT tss (prods rss qs i) hard) (bestL hss (prods rss qs i) dd).length (bestL hss (prods rss qs i) dd) rfl (best_ne' d1)
      rw [a] at e
      cases e
    | some d => rfl
theorem gain_adv {d : Nat} (h1 : ∀ q ∈ qs, 0 ≤ q) (h2 : ∀ r ∈ rss, ∀ q ∈ r, 0 ≤ q) (h3 : ∀ r ∈ advR qs hss tss rss dd mm hard, ∀ q ∈ r, 0 ≤ q) (hr : ∀ r ∈ rss, r.length = mm) (d1 : 1 ≤ dd) (hd : d < dd) : gainW xss qs hss tss (advR qs hss tss rss dd mm hard) dd hard d = wq xss (prods (advR qs hss tss rss dd mm hard) qs d) d := by
  by_cases z : wq (advR qs hss tss rss dd mm hard) qs d = 0
  · rw [gainW_none z, unsaid h1 h3 z]
  · unfold gainW
    rw [adv_done h1 h2 hr d1 hd z]
/-- the advice gains what the words did -/
theorem gains_adv (h1 : ∀ q ∈ qs, 0 ≤ q) (h2 : ∀ r ∈ rss, ∀ q ∈ r, 0 ≤ q) (h3 : ∀ r ∈ advR qs hss tss rss dd mm hard, ∀ q ∈ r, 0 ≤ q) (hr : ∀ r ∈ rss, r.length = mm) (d1 : 1 ≤ dd) : gainT xss qs hss tss (advR qs hss tss rss dd mm hard) dd dd hard = gainT xss qs hss tss rss dd mm hard := by
  have e1 : gainT xss qs hss tss (advR qs hss tss rss dd mm hard) dd dd hard = ((List.range dd).map fun d => sumG (grpsL qs hss tss rss dd mm hard) d fun i => wq xss (prods rss qs i) d).sum := by
    unfold gainT
    congr 1
    refine List.map_congr_left fun d hd => ?_
    rw [gain_adv h1 h2 h3 hr d1 (List.mem_range.mp hd)]
    exact wq_adv rss xss qs (adv_len hr) (grpsL_lt d1)
  rw [e1, sumG_total _ (fun i d => wq xss (prods rss qs i) d) (grpsL_lt d1), sumI_range, grpsL_len]
  unfold gainT
  congr 1
  exact List.map_congr_left fun i hi => (gain_word h1 h2 d1 (List.mem_range.mp hi)).symm
/-- a word of the advice, none but the first, that is never said: it stands nowhere -/
theorem adv_silent {d : Nat} (h1 : ∀ q ∈ qs, 0 ≤ q) (h2 : ∀ r ∈ rss, ∀ q ∈ r, 0 ≤ q) (hr : ∀ r ∈ rss, r.length = mm) (d1 : 1 ≤ dd) (h0 : d ≠ 0) (hz : wq (advR qs hss tss rss dd mm hard) qs d = 0) : ∀ i : Nat, (grpsL qs hss tss rss dd mm hard)[i]? ≠ some d := fun i hi => by
  rcases grp_word hi d1 with y | ⟨y, _⟩
  · have him : i < mm := by
      have := (List.getElem?_eq_some_iff.mp hi).1
      rw [grpsL_len] at this
      exact this
    rw [grpsL_at him, word_none y] at hi
    exact h0 (Option.some.inj hi).symm
  · unfold advR at hz
    rw [wq_grp rss qs (adv_len hr) (grpsL_lt d1), ← sumG_zero (d := d) (grpsL qs hss tss rss dd mm hard)] at hz
    have pos : ∀ j : Nat, 0 ≤ wq rss qs j := fun j => sum_nonneg' (prods_nn h1 h2)
    have lt := sumG_lt (gs := grpsL qs hss tss rss dd mm hard) (f := fun _ => 0) (g := fun j => wq rss qs j) (fun j _ => pos j) hi (wq_pos h1 h2 y)
    rw [hz] at lt
    exact absurd lt (Rat.not_lt.mpr Rat.le_refl)
end
/-! ### advice made of advice -/
theorem sumG_pick {d : Nat} (c : Rat) : ∀ (gs : List Nat) (k : Nat), sumG gs d (fun i => if i = k then c else 0) = if gs[k]? = some d then c else 0
  | [], k => by
    rw [if_neg (by simp)]
    rfl
  | g :: gs, 0 => by
    have z : sumG gs d (fun i => if i + 1 = 0 then c else 0) = 0 := by
      refine Eq.trans (sumG_congr (g := fun _ => 0) fun i _ => ?_) (sumG_zero gs)
      show (if i + 1 = 0 then c else 0) = 0
      exact if_neg (by omega)
    show (if g = d then (if (0 : Nat) = 0 then c else 0) else 0) + sumG gs d (fun i => if i + 1 = 0 then c else 0) = _
    rw [z, if_pos (rfl : (0 : Nat) = 0)]
    by_cases e : g = d
    · rw [if_pos e, if_pos (by rw [e]; rfl)]; grind
    · rw [if_neg e, if_neg (show ¬ (g :: gs)[0]? = some d from fun h => e (Option.some.inj h))]; grind
  | g :: gs, k + 1 => by
    have z : sumG gs d (fun i => if i + 1 = k + 1 then c else 0) = if gs[k]? = some d then c else 0 := by
      rw [← sumG_pick c gs k]
      refine sumG_congr fun i _ => ?_
      show (if i + 1 = k + 1 then c else 0) = if i = k then c else 0
      by_cases e : i = k
      · rw [if_pos e, if_pos (by omega)]
      · rw [if_neg e, if_neg (by omega)]
    show (if g = d then (if (0 : Nat) = k + 1 then c else 0) else 0) + sumG gs d (fun i => if i + 1 = k + 1 then c else 0) = if gs[k]? = some d then c else 0
    rw [z, if_neg (by omega : ¬ (0 : Nat) = k + 1)]
    by_cases e : g = d
    · rw [if_pos e]; grind
    · rw [if_neg e]; grind
theorem sumG_single {d : Nat} {gs : List Nat} {f : Nat → Rat} (h1 : ∀ i : Nat, i ≠ d → gs[i]? = some d → f i = 0) (h2 : gs[d]? = some d ∨ f d = 0) : sumG gs d f = f d := by
  have e : sumG gs d f = sumG gs d fun i => if i = d then f d else 0 := sumG_congr fun i hi => by
    by_cases e : i = d
    · rw [if_pos e, e]
    · rw [if_neg e, h1 i e hi]
  rw [e, sumG_pick]
  rcases h2 with h | h
  · rw [if_pos h]
  · rw [h]
    by_cases z : gs[d]? = some d
    · rw [if_pos z]
    · rw [if_neg z]
theorem ext_getD {a b : List Rat} (hl : a.length = b.length) (h : ∀ d, a.getD d 0 = b.getD d 0) : a = b := by
  refine List.ext_getElem hl fun i h1 h2 => ?_
  have := h i
  rw [List.getD_eq_getElem?_getD, List.getD_eq_getElem?_getD, List.getElem?_eq_getElem h1, List.getElem?_eq_getElem h2] at this
  exact this
section
variable {qs : List Rat} {hss tss rss : List (List Rat)} {dd mm : Nat} {hard : Bool}
theorem adv_again (h1 : ∀ q ∈ qs, 0 ≤ q) (h2 : ∀ r ∈ rss, ∀ q ∈ r, 0 ≤ q) (hr : ∀ r ∈ rss, r.length = mm) (d1 : 1 ≤ dd) : advR qs hss tss (advR qs hss tss rss dd mm hard) dd dd hard = advR qs hss tss rss dd mm hard := by
  have say : ∀ d, d < dd → (grpsL qs hss tss (advR qs hss tss rss dd mm hard) dd dd hard)[d]? = some (if wq (advR qs hss tss rss dd mm hard) qs d = 0 then 0 else d) := fun d hd => by
    rw [grpsL_at hd]
    by_cases z : wq (advR qs hss tss rss dd mm hard) qs d = 0
    · rw [word_none z, if_pos z]
      rfl
    · rw [adv_done h1 h2 hr d1 hd z, if_neg z]
      rfl
  have row : ∀ r ∈ advR qs hss tss rss dd mm hard, r.length = dd ∧ ∀ d, d ≠ 0 → wq (advR qs hss tss rss dd mm hard) qs d = 0 → r.getD d 0 = 0 := fun r hr' => by
    unfold advR at hr'
    obtain ⟨r0, h0, rfl⟩ := List.mem_map.mp hr'
    refine ⟨by rw [grp_len, List.length_replicate], fun d hd z => ?_⟩
    rw [grp_getD r0 _ _ d (adv_len hr r0 h0) (fun g h => by rw [List.length_replicate]; exact grpsL_lt d1 g h), rep_getD, sumG_none (adv_silent h1 h2 hr d1 hd z)]
    grind
  have key : ∀ r ∈ advR qs hss tss rss dd mm hard, grp r (grpsL qs hss tss (advR qs hss tss rss dd mm hard) dd dd hard) (List.replicate dd 0) = r := fun r hr' => by
    obtain ⟨rl, rz⟩ := row r hr'
    refine ext_getD (by rw [grp_len, List.length_replicate, rl]) fun d => ?_
    rw [grp_getD r _ _ d (by rw [rl, grpsL_len]) (fun g h => by rw [List.length_replicate]; exact grpsL_lt d1 g h), rep_getD, Rat.zero_add]
    refine sumG_single (fun i hi hg => ?_) ?_
    · have hid : i < dd := by
        have := (List.getElem?_eq_some_iff.mp hg).1
        rw [grpsL_len] at this
        exact this
      rw [say i hid] at hg
      have e := Option.some.inj hg
      by_cases z : wq (advR qs hss tss rss dd mm hard) qs i = 0
      · rw [if_pos z] at e
        exact rz i (by omega) z
      · rw [if_neg z] at e
        exact absurd e hi
    · by_cases hd : d < dd
      · rw [say d hd]
        by_cases z : wq (advR qs hss tss rss dd mm hard) qs d = 0
        · rw [if_pos z]
          by_cases d0 : d = 0
          · exact .inl (by rw [d0])
          · exact .inr (rz d d0 z)
        · rw [if_neg z]
          exact .inl rfl
      · refine .inr ?_
        rw [List.getD_eq_getElem?_getD, List.getElem?_eq_none (by omega)]
        rfl
  show (advR qs hss tss rss dd mm hard).map (fun r => grp r (grpsL qs hss tss (advR qs hss tss rss dd mm hard) dd dd hard) (List.replicate dd 0)) = _
  refine Eq.trans (List.map_congr_left (g := id) fun r h => key r h) ?_
  rw [List.map_id]
end
/-! ### advice that is followed gains what it tells -/
def dueT (xss : List (List Rat)) (qs : List Rat) (rss : List (List Rat)) (dd : Nat) : Rat := ((List.range dd).map fun a => wq xss (prods rss qs a) a).sum
theorem sum_map_le {f g : Nat → Rat} : ∀ {l : List Nat}, (∀ x ∈ l, f x ≤ g x) → (l.map f).sum ≤ (l.map g).sum
  | [], _ => Rat.le_refl
  | x :: l, h => by
    have i := sum_map_le (l := l) fun y hy => h y (List.mem_cons_of_mem _ hy)
    have := h x (List.mem_cons_self ..)
    rw [List.map_cons, List.map_cons, List.sum_cons, List.sum_cons]
    grind
section
variable {qs : List Rat} {hss tss rss xss : List (List Rat)} {dd mm : Nat} {hard : Bool}
theorem due_adv (h1 : ∀ q ∈ qs, 0 ≤ q) (h2 : ∀ r ∈ rss, ∀ q ∈ r, 0 ≤ q) (h3 : ∀ r ∈ advR qs hss tss rss dd mm hard, ∀ q ∈ r, 0 ≤ q) (hr : ∀ r ∈ rss, r.length = mm) (d1 : 1 ≤ dd) : gainT xss qs hss tss (advR qs hss tss rss dd mm hard) dd dd hard = dueT xss qs (advR qs hss tss rss dd mm hard) dd := by
  unfold gainT dueT
  congr 1
  exact List.map_congr_left fun d hd => gain_adv h1 h2 h3 hr d1 (List.mem_range.mp hd)
theorem fol_best (h : faultsL qs hss rss dd dd = []) {a e : Nat} (ha : a < dd) (he : e < dd) : wq hss (prods rss qs a) e ≤ wq hss (prods rss qs a) a := by
  unfold faultsL at h
  rw [List.flatMap_eq_nil_iff] at h
  have h' := h a (List.mem_range.mpr ha)
  unfold faultD at h'
  rw [List.filterMap_eq_nil_iff] at h'
  have z := h' e (List.mem_range.mpr he)
  by_cases c : 0 < leadQ hss (prods rss qs a) e a
  · rw [if_pos c] at z
    cases z
  · rw [lead_wq] at c
    have := Rat.not_lt.mp c
    grind
/-- what is done behind a word that is said -/
theorem said_done {a : Nat} (d1 : 1 ≤ dd) (hn : wq rss qs a ≠ 0) : ∃ d, wordD qs hss tss rss dd hard a = some d ∧ IsDone (keyT tss (prods rss qs a) hard) (bestL hss (prods rss qs a) dd) d := by
  obtain ⟨d, x, y⟩ := doneF_ok (key := keyT tss (prods rss qs a) hard) (bestL hss (prods rss qs a) dd).length (bestL hss (prods rss qs a) dd) rfl (best_ne' d1)
  refine ⟨d, ?_, y⟩
  unfold wordD
  rw [if_neg hn, x]
theorem fol_hearer (h1 : ∀ q ∈ qs, 0 ≤ q) (h2 : ∀ r ∈ rss, ∀ q ∈ r, 0 ≤ q) (d1 : 1 ≤ dd) (h : faultsL qs hss rss dd dd = []) : gainT hss qs hss tss rss dd dd hard = dueT hss qs rss dd := by
  unfold gainT dueT
  congr 1
  refine List.map_congr_left fun a ha => ?_
  have ha := List.mem_range.mp ha
  by_cases z : wq rss qs a = 0
  · rw [gainW_none z, unsaid h1 h2 z]
  · obtain ⟨d, e1, e2⟩ := said_done (hss := hss) (tss := tss) (hard := hard) d1 z
    unfold gainW
    rw [e1]
    have m := mem_best.mp e2.mem
    exact Rat.le_antisymm (fol_best h ha m.1) (m.2 a ha)
theorem fol_teller (h1 : ∀ q ∈ qs, 0 ≤ q) (h2 : ∀ r ∈ rss, ∀ q ∈ r, 0 ≤ q) (d1 : 1 ≤ dd) (h : faultsL qs hss rss dd dd = []) : dueT tss qs rss dd ≤ gainT tss qs hss tss rss dd dd false := by
  unfold gainT dueT
  refine sum_map_le fun a ha => ?_
  have ha := List.mem_range.mp ha
  by_cases z : wq rss qs a = 0
  · rw [gainW_none z, unsaid h1 h2 z]
    exact Rat.le_refl
  · obtain ⟨d, e1, e2⟩ := said_done (hss := hss) (tss := tss) (hard := false) d1 z
    unfold gainW
    rw [e1]
    exact ((done_iff (best_sorted _ _ _)).mp e2).2.1 a (mem_best.mpr ⟨ha, fun e he => fol_best h ha he⟩)
end
/-! ### how often a deed is done in a world -/
def oftF (f : Nat → Option Nat) (r : List Rat) (act k : Nat) : Rat := ((List.range k).map fun i => if f i = some act then r.getD i 0 else 0).sum
theorem sumG_range {d : Nat} : ∀ (gs : List Nat) (f : Nat → Rat), sumG gs d f = ((List.range gs.length).map fun i => if gs.getD i 0 = d then f i else 0).sum
  | [], f => rfl
  | g :: gs, f => by
    rw [List.length_cons, List.range_succ_eq_map, List.map_cons, List.sum_cons, List.map_map]
    show (if g = d then f 0 else 0) + sumG gs d (fun i => f (i + 1)) = _
    rw [sumG_range gs]
    rfl
theorem row_zero {qs : List Rat} {rss : List (List Rat)} {w i : Nat} {q : Rat} {r : List Rat} (h1 : ∀ q ∈ qs, 0 ≤ q) (h2 : ∀ r ∈ rss, ∀ q ∈ r, 0 ≤ q) (hq : qs[w]? = some q) (hr : rss[w]? = some r) (hp : 0 < q) (hz : wq rss qs i = 0) : r.getD i 0 = 0 := by
  have e := sum_zero_all (prods_nn h1 h2) hz _ (List.mem_of_getElem? (prods_at (d := i) hq hr))
  rcases Rat.mul_eq_zero.mp e with z | z
  · rw [z] at hp
    exact absurd hp (Rat.not_lt.mpr Rat.le_refl)
  · exact z
section
variable {qs : List Rat} {hss tss rss : List (List Rat)} {dd mm w act : Nat} {hard : Bool} {q : Rat} {r : List Rat}
theorem oft_words (h1 : ∀ q ∈ qs, 0 ≤ q) (h2 : ∀ r ∈ rss, ∀ q ∈ r, 0 ≤ q) (d1 : 1 ≤ dd) (hq : qs[w]? = some q) (hr : rss[w]? = some r) (hp : 0 < q) : oftF (wordD qs hss tss rss dd hard) r act mm = sumG (grpsL qs hss tss rss dd mm hard) act fun i => r.getD i 0 := by
  rw [sumG_range, grpsL_len]
  unfold oftF
  congr 1
  refine List.map_congr_left fun i hi => ?_
  have hi := List.mem_range.mp hi
  have eg : (grpsL qs hss tss rss dd mm hard).getD i 0 = (wordD qs hss tss rss dd hard i).getD 0 := by rw [List.getD_eq_getElem?_getD, grpsL_at hi]; rfl
  rw [eg]
  by_cases z : wq rss qs i = 0
  · rw [row_zero h1 h2 hq hr hp z]
    by_cases a : wordD qs hss tss rss dd hard i = some act <;> by_cases b : (wordD qs hss tss rss dd hard i).getD 0 = act <;> simp [a, b]
  · obtain ⟨d, e, _⟩ := said_done (hss := hss) (tss := tss) (hard := hard) d1 z
    rw [e]
    show (if some d = some act then _ else _) = if d = act then _ else _
    by_cases a : d = act
    · rw [if_pos (by rw [a]), if_pos a]
    · rw [if_neg (fun x => a (Option.some.inj x)), if_neg a]
theorem oft_adv (h1 : ∀ q ∈ qs, 0 ≤ q) (h2 : ∀ r ∈ rss, ∀ q ∈ r, 0 ≤ q) (h3 : ∀ r ∈ advR qs hss tss rss dd mm hard, ∀ q ∈ r, 0 ≤ q) (hl : ∀ r ∈ rss, r.length = mm) (d1 : 1 ≤ dd) (hq : qs[w]? = some q) (hr : (advR qs hss tss rss dd mm hard)[w]? = some r) (hp : 0 < q) (ha : act < dd) : oftF (wordD qs hss tss (advR qs hss tss rss dd mm hard) dd hard) r act dd = r.getD act 0 := by
  have e : oftF (wordD qs hss tss (advR qs hss tss rss dd mm hard) dd hard) r act dd = ((List.range dd).map fun d => if act = d then r.getD act 0 else 0).sum := by
    unfold oftF
    congr 1
    refine List.map_congr_left fun d hd => ?_
    have hd := List.mem_range.mp hd
    by_cases z : wq (advR qs hss tss rss dd mm hard) qs d = 0
    · rw [word_none z, if_neg (by simp)]
      by_cases a : act = d
      · rw [if_pos a, a, row_zero h1 h3 hq hr hp z]
      · rw [if_neg a]
    · rw [adv_done h1 h2 hl d1 hd z]
      by_cases a : act = d
      · rw [if_pos a, if_pos (by rw [a]), a]
      · rw [if_neg a, if_neg (fun x => a (Option.some.inj x).symm)]
  rw [e, sum_pick act (fun _ => r.getD act 0) dd, if_pos ha]
/-- in each world with a share each deed is done as often -/
theorem oft_alike (h1 : ∀ q ∈ qs, 0 ≤ q) (h2 : ∀ r ∈ rss, ∀ q ∈ r, 0 ≤ q) (h3 : ∀ r ∈ advR qs hss tss rss dd mm hard, ∀ q ∈ r, 0 ≤ q) (hl : ∀ r ∈ rss, r.length = mm) (d1 : 1 ≤ dd) (hq : qs[w]? = some q) (hr : rss[w]? = some r) (hp : 0 < q) (ha : act < dd) :
    oftF (wordD qs hss tss rss dd hard) r act mm = oftF (wordD qs hss tss (advR qs hss tss rss dd mm hard) dd hard) (grp r (grpsL qs hss tss rss dd mm hard) (List.replicate dd 0)) act dd := by
  have hr' : (advR qs hss tss rss dd mm hard)[w]? = some (grp r (grpsL qs hss tss rss dd mm hard) (List.replicate dd 0)) := by
    unfold advR
    rw [List.getElem?_map, hr]
    rfl
  rw [oft_words h1 h2 d1 hq hr hp, oft_adv h1 h2 h3 hl d1 hq hr' hp ha, grp_getD r _ _ act (adv_len hl r (List.mem_of_getElem? hr)) (fun g h => by rw [List.length_replicate]; exact grpsL_lt d1 g h), rep_getD]
  grind
end
end Hr

set_option Elab.async false
set_option linter.all false
set_option maxRecDepth 100000
set_option maxHeartbeats 4000000
namespace Hr
open PySem PySem.Spec PyProof.Rows L2 BX EXB Co Ru
open Dz Cs
open Fr (Bd)
/-! ### words put together, with a bound that is known of the values -/
def spGrpRowB (K : PySem.W.Frag) : Sp := fun vs H Q _ => ∃ (r gl : Addr) (cs : List V) (qs : List Rat) (gs : List Nat) (n many : Nat), vs = [.ref r, .ref gl, .int (many : Int)] ∧ H r = some (.lst cs) ∧ FrN K H n cs qs ∧ H gl = some (.lst (gv gs)) ∧ gs.length = qs.length ∧ qs.length ≤ 30 ∧ (∀ g ∈ gs, g < many) ∧ many ≤ 30 ∧ (n + 1) * qs.length ≤ 4000 ∧
  ∀ D cs' H', Same H H' → H D = none → H' D = some (.lst cs') → FrN K H' (1 + (n + 1) * qs.length) cs' (grp qs gs (List.replicate many 0)) → Q (.ref D) H'
def spGroupedB (K : PySem.W.Frag) (C : Addr) : Sp := fun vs H Q _ => ∃ (x gl : Addr) (rss : List (List Rat)) (gs : List Nat) (n m many b : Nat), vs = [.ref x, .ref gl, .int (many : Int)] ∧ IsRule K H C x rss n ∧ Good rss m ∧ H gl = some (.lst (gv gs)) ∧ gs.length = m ∧ (∀ g ∈ gs, g < many) ∧ 1 ≤ many ∧ many ≤ 30 ∧ (n + 1) * m ≤ 4000 ∧ b ≤ 280 ∧ (∀ r ∈ rss, ∀ q ∈ grp r gs (List.replicate many 0), Bd b q) ∧
  ∀ x H', Same H H' → H x = none → IsRule K H' C x (rss.map fun qs => grp qs gs (List.replicate many 0)) b → Q (.ref x) H'
def spAdvisedB (K : PySem.W.Frag) (C CR : Addr) : Sp := fun vs H Q _ => ∃ (x y : Addr) (hard : Bool) (qs : List Rat) (hss tss rss : List (List Rat)) (n m ww dd mm b : Nat), vs = [.ref x, .ref y, .bl hard] ∧ Ga K H C CR x y qs hss tss rss n m ww dd mm ∧ (m + 1) * mm ≤ 4000 ∧ b ≤ 280 ∧ (∀ r ∈ advR qs hss tss rss dd mm hard, ∀ q ∈ r, Bd b q) ∧
  ∀ z H', Same H H' → H z = none → IsRule K H' CR z (advR qs hss tss rss dd mm hard) b → Q (.ref z) H'
theorem rw_bd {K : PySem.W.Frag} {H : Hp} {a : Addr} {rs : List Addr} {rss : List (List Rat)} {n : Nat} (h : RwL K H a rs rss n) : ∀ r ∈ rss, ∀ q ∈ r, Bd n q := fun r hr q hq => by
  obtain ⟨i, hi, e⟩ := List.getElem_of_mem hr
  have hrs : i < rs.length := by rw [h.2.1]; exact hi
  obtain ⟨cs', qs, f1, f2, f3⟩ := h.2.2 i rs[i] (List.getElem?_eq_getElem hrs)
  rw [List.getElem?_eq_getElem hi, e] at f1
  cases f1
  exact frn_bd f3 q hq
theorem adv_bd {qs : List Rat} {hss tss rss : List (List Rat)} {dd mm : Nat} {hard : Bool} (h : ∀ r ∈ rss, ∀ q ∈ r, Bd 8 q) (hl : ∀ r ∈ rss, r.length = mm) (hm : mm ≤ 9) : ∀ r ∈ advR qs hss tss rss dd mm hard, ∀ q ∈ r, Bd 82 q := fun r hr q hq => by
  unfold advR at hr
  obtain ⟨r0, h0, rfl⟩ := List.mem_map.mp hr
  have l0 := hl r0 h0
  rw [← grpI_all (i := mm) (by omega) (by rw [grpsL_len]; exact Nat.le_refl _)] at hq
  exact grpI_bd (h r0 h0) hm q hq
theorem prodB {xss : List (List Rat)} {ws : List Rat} {d n m : Nat} (hn : 1 ≤ n) (hx : ∀ r ∈ xss, ∀ q ∈ r, Bd n q) (hw : ∀ q ∈ ws, Bd m q) : ∀ q ∈ prods xss ws d, Bd (m + n) q := fun q hq => by
  unfold prods at hq
  obtain ⟨i, hi, e⟩ := List.getElem_of_mem hq
  rw [List.getElem_zipWith] at e
  subst e
  rw [List.length_zipWith] at hi
  refine Fr.bd_mul (hw _ (List.getElem_mem _)) ?_
  have hr : i < xss.length := by omega
  by_cases hd : d < xss[i].length
  · rw [List.getD_eq_getElem?_getD, List.getElem?_eq_getElem hd]
    exact hx _ (List.getElem_mem hr) _ (List.getElem_mem hd)
  · rw [List.getD_eq_getElem?_getD, List.getElem?_eq_none (by omega)]
    exact Fr.Bd.mono (n := 1) ⟨by decide, by decide⟩ hn
theorem wqB {xss : List (List Rat)} {ws : List Rat} {d n m : Nat} (hn : 1 ≤ n) (hx : ∀ r ∈ xss, ∀ q ∈ r, Bd n q) (hw : ∀ q ∈ ws, Bd m q) (h5 : ws.length ≤ 5) : Bd ((m + n + 1) * 5 + 1) (wq xss ws d) := by
  unfold wq
  refine (bd_sum (prodB hn hx hw)).mono ?_
  have : (prods xss ws d).length ≤ 5 := by unfold prods; rw [List.length_zipWith]; omega
  have := Nat.mul_le_mul_left (m + n + 1) this
  omega
theorem gainB {xss : List (List Rat)} {qs : List Rat} {hss tss rss : List (List Rat)} {dd mm n a b : Nat} {hard : Bool} (hn : 1 ≤ n) (hb : 1 ≤ b) (hx : ∀ r ∈ xss, ∀ q ∈ r, Bd n q) (hq : ∀ q ∈ qs, Bd a q) (hr : ∀ r ∈ rss, ∀ q ∈ r, Bd b q) (h5 : qs.length ≤ 5) : Bd (((a + b + n + 1) * 5 + 2) * mm + 1) (gainT xss qs hss tss rss dd mm hard) := by
  unfold gainT
  have hw : ∀ q ∈ (List.range mm).map (gainW xss qs hss tss rss dd hard), Bd ((a + b + n + 1) * 5 + 1) q := fun q hq' => by
    obtain ⟨i, _, rfl⟩ := List.mem_map.mp hq'
    unfold gainW
    split
    · exact Fr.Bd.mono (n := 1) ⟨by decide, by decide⟩ (by omega)
    · exact wqB hn hx (prodB hb hr hq) (by unfold prods; rw [List.length_zipWith]; omega)
  refine (bd_sum hw).mono ?_
  rw [List.length_map, List.length_range]
  exact Nat.le_refl _
theorem dueB {xss : List (List Rat)} {qs : List Rat} {rss : List (List Rat)} {dd n a b : Nat} (hn : 1 ≤ n) (hb : 1 ≤ b) (hx : ∀ r ∈ xss, ∀ q ∈ r, Bd n q) (hq : ∀ q ∈ qs, Bd a q) (hr : ∀ r ∈ rss, ∀ q ∈ r, Bd b q) (h5 : qs.length ≤ 5) : Bd (((a + b + n + 1) * 5 + 2) * dd + 1) (dueT xss qs rss dd) := by
  unfold dueT
  have hw : ∀ q ∈ (List.range dd).map (fun a => wq xss (prods rss qs a) a), Bd ((a + b + n + 1) * 5 + 1) q := fun q hq' => by
    obtain ⟨i, _, rfl⟩ := List.mem_map.mp hq'
    exact wqB hn hx (prodB hb hr hq) (by unfold prods; rw [List.length_zipWith]; omega)
  refine (bd_sum hw).mono ?_
  rw [List.length_map, List.length_range]
  exact Nat.le_refl _
theorem is_re {K : PySem.W.Frag} {H : Hp} {C x : Addr} {rss : List (List Rat)} {n m : Nat} (h : IsRule K H C x rss n) (hb : ∀ r ∈ rss, ∀ q ∈ r, Bd m q) : IsRule K H C x rss m := by
  obtain ⟨d, ra, rs, e, w⟩ := h
  exact ⟨d, ra, rs, e, w.1, w.2.1, fun j r er => let ⟨cs, qs, f1, f2, f3⟩ := w.2.2 j r er; ⟨cs, qs, f1, f2, frn_re f3 (hb qs (List.mem_of_getElem? f1))⟩⟩
end Hr

set_option Elab.async false
set_option linter.all false
set_option maxRecDepth 100000
set_option maxHeartbeats 4000000
namespace Sx
open PySem PySem.Spec PyProof.Rows L2
/-! ### sorted of a tuple of numbers -/
section
variable {prog : Program} {w : World} {A : Around} {E : Value → Shared → Prop} {s : Shared}
theorem sorted_tup {l : Addr} {o : Obj} {vs : List Value} {ns : List Int} {n : Nat} {Q : Value → Shared → Prop} (ho : s.heap.get? l = some o) (hc : o.cls = .type "tuple") (hd : o.data = .seq vs.toArray n) (hI : IntsAre vs ns) (h64 : vs.length < 64)
    (h : ∀ (h1 : Heap) (p : Addr) (out : Array Value) (ns' : List Int), (∀ b u, s.heap.get? b = some u → h1.get? b = some u) → s.heap.get? p = none → (∃ e, h1.get? p = some (seqObj "list" out e)) → IntsAre out.toList ns' → ns'.Perm ns → ns'.Pairwise (· ≤ ·) → Q (.ref p) { s with heap := h1 }) :
    wpAny (model prog w) A (call (.builtin "sorted") [.ref l]) Q E s := by
  have hz : vs.toArray.size ≤ sizeLine := by
    rw [List.size_toArray, sizeLine_eq]
    omega
  refine Calls.call_function_entry kind_sorted plain_sorted entry_sorted (args_sorted1 _) ?_
  unfold Builtin.«sorted»
  refine wpAny_bind (m := checkCount "sorted" 1 1 _) (wpAny_pure ?_)
  refine wpAny_bind (wpAny_collect_seq l (.inr rfl) ho hc hd (fun h2 k2 => ?_) hz)
  rw [show vs.toArray.toList = vs by simp]
  refine wpAny_bind (wpAny_newList ?_)
  have at2 : (h2.push (seqObj "list" vs.toArray 0)).get? h2.objs.size = some (seqObj "list" vs.toArray 0) := Heap.get?_push_size _ rfl
  refine wpAny_bind (wpAny_holding (wpAny_call_entry slot_list_sort ⟨_, at2, rfl⟩ entry_list_sort (list_sort_tree at2 hI h64 fun out ns' a1 a2 a3 => ⟨_, rfl, wpAny_pure ⟨_, rfl, ?_⟩⟩) (args_list_sort _)))
  refine h _ h2.objs.size out ns' (fun b u hb => ?_) ?_ (sortedHeap_at at2) a1 a2 a3
  · have hb2 := k2 b u hb
    have lt2 : b < h2.objs.size := Heap.lt_size hb2
    show (sortedHeap _ _ _ _).get? b = some u
    rw [sortedHeap_old (Nat.ne_of_lt lt2) (by rw [size_push']; exact Nat.lt_succ_of_lt lt2)]
    exact Heap.get?_push_of_some _ hb2
  · cases e : s.heap.get? h2.objs.size with
    | none => rfl
    | some u => exact absurd (Heap.lt_size (k2 _ _ e)) (Nat.lt_irrefl _)
end
def rSortT (K : PySem.W.Frag) : List V → Hp → VK → Prop := fun vs H Q => ∃ (a : Addr) (ns : List Int), vs = [V.ref a] ∧ SqT K H a (ns.map V.int) ∧ ns.length < 64 ∧ ∀ (ns' : List Int) (p : Addr), ns'.Perm ns → ns'.Pairwise (· ≤ ·) → H p = none → Q (.ref p) (upd H p (.lst (ns'.map V.int)))
theorem cr_sortT {X : Cx} : CallR X (.builtin "sorted") (rSortT X.K) := by
  intro pins s σ H vs us Q I r h
  obtain ⟨a, ns, rfl, hs, h64, q⟩ := h
  obtain ⟨its, rv, pl, hz⟩ := I.tuple hs
  rw [Vals.ref1 r]
  have hi := rv.ints
  obtain ⟨o, ho, hc, n, hd⟩ := pl
  refine sorted_tup ho hc hd hi (by rw [hi.length]; exact h64) fun h1 p out ns' k hp he h2 h3 h4 => ?_
  obtain ⟨ep, he'⟩ := he
  have hlen : (ns'.map V.int).length ≤ sizeLine := by rw [List.length_map, h3.length_eq]; exact small64 h64
  have hn : H p = none := HOk.gone I.hok hp
  exact ⟨.ref p, upd H p (.lst (ns'.map V.int)), I.laidN (t' := s.toks) k hp hn ⟨hlen, out.toList, ep, vals_of_ints h2, he'⟩, rfl, q ns' p h3 h4 hn⟩
end Sx

set_option Elab.async false
set_option linter.all false
set_option maxRecDepth 100000
set_option maxHeartbeats 4000000
namespace Hr
open PySem PySem.Spec PyProof.Rows L2 BX EXB Co Ru
open Dz Cs
open Fr (Bd)
/-! ### beliefs, by bounds that are known of the values -/
theorem belB {rss : List (List Rat)} {qs : List Rat} {i n m : Nat} (hn : 1 ≤ n) (hx : ∀ r ∈ rss, ∀ q ∈ r, Bd n q) (hw : ∀ q ∈ qs, Bd m q) (h5 : qs.length ≤ 5) (h0 : wq rss qs i ≠ 0) : ∀ q ∈ belq rss qs i, Bd ((m + n) + ((m + n + 1) * 5 + 1)) q := fun q hq => by
  unfold belq at hq
  obtain ⟨w, hw', rfl⟩ := List.mem_map.mp hq
  exact bd_div (prodB hn hx hw w hw') (wqB hn hx hw h5) h0
theorem lead_bel {hss rss : List (List Rat)} {qs : List Rat} {i : Nat} (h0 : wq rss qs i ≠ 0) (a b : Nat) : wq rss qs i * (wq hss (belq rss qs i) a - wq hss (belq rss qs i) b) = leadQ hss (prods rss qs i) a b := by
  unfold belq
  rw [wq_scale, wq_scale, lead_wq]
  have h := Rat.mul_inv_cancel _ h0
  generalize wq rss qs i = c at h
  generalize wq hss (prods rss qs i) a = A
  generalize wq hss (prods rss qs i) b = B
  grind
theorem lead_zero {hss rss : List (List Rat)} {qs : List Rat} {i : Nat} (h1 : ∀ q ∈ qs, 0 ≤ q) (h2 : ∀ r ∈ rss, ∀ q ∈ r, 0 ≤ q) (h : wq rss qs i = 0) (a b : Nat) : leadQ hss (prods rss qs i) a b = 0 := by
  rw [lead_wq, unsaid h1 h2 h, unsaid h1 h2 h, Rat.sub_self]
theorem faultD_nil {hss : List (List Rat)} {ws : List Rat} {d k : Nat} (h : ∀ e, e < k → ¬ 0 < leadQ hss ws e d) : faultD hss ws d k = [] := by
  unfold faultD
  refine List.filterMap_eq_nil_iff.mpr fun e he => ?_
  rw [if_neg (h e (List.mem_range.mp he))]
theorem faultsL_nil {qs : List Rat} {hss rss : List (List Rat)} {dd : Nat} (h : ∀ d, d < dd → ∀ e, e < dd → ¬ 0 < leadQ hss (prods rss qs d) e d) : faultsL qs hss rss dd dd = [] := by
  unfold faultsL
  refine List.flatMap_eq_nil_iff.mpr fun d hd => faultD_nil (h d (List.mem_range.mp hd))
theorem lead_pos {hss rss : List (List Rat)} {qs : List Rat} {i a b : Nat} (hp : 0 < wq rss qs i) : 0 < wq hss (belq rss qs i) a - wq hss (belq rss qs i) b ↔ 0 < leadQ hss (prods rss qs i) a b := by
  rw [← lead_bel (fun z => by rw [z] at hp; exact absurd hp (Rat.not_lt.mpr Rat.le_refl))]
  constructor
  · exact fun h => Rat.mul_pos hp h
  · intro h
    refine Rat.not_le.mp fun z => ?_
    have := Rat.mul_le_mul_of_nonneg_left z (Rat.le_of_lt hp)
    rw [Rat.mul_zero] at this
    exact absurd h (Rat.not_lt.mpr this)
/-! ### two rules mixed -/
def mixRow (p : Rat) (a b : List Rat) : List Rat := List.zipWith (fun x y => (1 - p) * x + p * y) a b
def mixR (p : Rat) (as bs : List (List Rat)) : List (List Rat) := List.zipWith (mixRow p) as bs
theorem mixRow_sum (p : Rat) : ∀ {a b : List Rat}, a.length = b.length → (mixRow p a b).sum = (1 - p) * a.sum + p * b.sum
  | [], [], _ => by
    show ([] : List Rat).sum = _
    rw [List.sum_nil, Rat.mul_zero, Rat.mul_zero, Rat.add_zero]
  | [], _ :: _, h => by simp at h
  | _ :: _, [], h => by simp at h
  | x :: a, y :: b, h => by
    show (((1 - p) * x + p * y) :: mixRow p a b).sum = _
    rw [List.sum_cons, mixRow_sum p (by simpa using h), List.sum_cons, List.sum_cons]
    grind
theorem mixRow_at {p : Rat} {a b : List Rat} {i : Nat} {x y : Rat} (h1 : a[i]? = some x) (h2 : b[i]? = some y) : (mixRow p a b)[i]? = some ((1 - p) * x + p * y) := by
  unfold mixRow
  rw [List.getElem?_zipWith, h1, h2]
theorem mixR_at {p : Rat} {as bs : List (List Rat)} {i : Nat} {x y : List Rat} (h1 : as[i]? = some x) (h2 : bs[i]? = some y) : (mixR p as bs)[i]? = some (mixRow p x y) := by
  unfold mixR
  rw [List.getElem?_zipWith, h1, h2]
theorem mixRow_len {p : Rat} {a b : List Rat} (h : a.length = b.length) : (mixRow p a b).length = a.length := by
  unfold mixRow
  rw [List.length_zipWith]
  omega
theorem mixR_len {p : Rat} {a b : List (List Rat)} (h : a.length = b.length) : (mixR p a b).length = a.length := by
  unfold mixR
  rw [List.length_zipWith]
  omega
theorem mixRow_ok {p : Rat} {a b : List Rat} {m : Nat} (p0 : 0 ≤ p) (p1 : p ≤ 1) (ha : RowOk m a) (hb : RowOk m b) : RowOk m (mixRow p a b) := by
  have hl : a.length = b.length := by rw [ha.1, hb.1]
  refine ⟨by rw [mixRow_len hl, ha.1], fun q hq => ?_, by rw [mixRow_sum p hl, ha.2.2, hb.2.2]; grind⟩
  obtain ⟨i, hi, e⟩ := List.getElem_of_mem hq
  rw [mixRow_len hl] at hi
  have e2 := mixRow_at (p := p) (List.getElem?_eq_getElem hi) (List.getElem?_eq_getElem (show i < b.length by omega))
  have e3 : q = (1 - p) * a[i] + p * b[i] := by
    rw [← e]
    exact (List.getElem?_eq_some_iff.mp e2).2
  rw [e3]
  exact Rat.add_nonneg (Rat.mul_nonneg (by grind) (ha.2.1 _ (List.getElem_mem hi))) (Rat.mul_nonneg p0 (hb.2.1 _ (List.getElem_mem _)))
theorem mix_mem {p : Rat} {as bs : List (List Rat)} {r : List Rat} (h : r ∈ mixR p as bs) : ∃ (i : Nat) (x y : List Rat), as[i]? = some x ∧ bs[i]? = some y ∧ (mixR p as bs)[i]? = some r ∧ r = mixRow p x y := by
  obtain ⟨i, hi, e⟩ := List.getElem_of_mem h
  have hi' := hi
  unfold mixR at hi'
  rw [List.length_zipWith] at hi'
  have h1 : i < as.length := by omega
  have h2 : i < bs.length := by omega
  refine ⟨i, as[i], bs[i], List.getElem?_eq_getElem h1, List.getElem?_eq_getElem h2, by rw [List.getElem?_eq_getElem hi, e], ?_⟩
  have e2 := mixR_at (p := p) (List.getElem?_eq_getElem h1) (List.getElem?_eq_getElem h2)
  rw [List.getElem?_eq_getElem hi, e] at e2
  exact Option.some.inj e2
theorem mix_good {p : Rat} {as bs : List (List Rat)} {m : Nat} (p0 : 0 ≤ p) (p1 : p ≤ 1) (ha : Good as m) (hb : Good bs m) (hl : as.length = bs.length) : Good (mixR p as bs) m := by
  refine ⟨by rw [mixR_len hl]; exact ha.w1, by rw [mixR_len hl]; exact ha.w5, ha.m1, ha.m30, fun r hr => ?_⟩
  obtain ⟨i, x, y, e1, e2, _, rfl⟩ := mix_mem hr
  exact mixRow_ok p0 p1 (ha.row _ (List.mem_of_getElem? e1)) (hb.row _ (List.mem_of_getElem? e2))
theorem mix_getD {p : Rat} {a b : List Rat} (h : a.length = b.length) (d : Nat) : (mixRow p a b).getD d 0 = (1 - p) * a.getD d 0 + p * b.getD d 0 := by
  by_cases hd : d < a.length
  · rw [List.getD_eq_getElem?_getD, mixRow_at (List.getElem?_eq_getElem hd) (List.getElem?_eq_getElem (show d < b.length by omega)), List.getD_eq_getElem?_getD, List.getElem?_eq_getElem hd, List.getD_eq_getElem?_getD, List.getElem?_eq_getElem (show d < b.length by omega)]
    rfl
  · rw [List.getD_eq_getElem?_getD, List.getElem?_eq_none (by rw [mixRow_len h]; omega), List.getD_eq_getElem?_getD, List.getElem?_eq_none (by omega), List.getD_eq_getElem?_getD, List.getElem?_eq_none (by omega)]
    show (0 : Rat) = (1 - p) * 0 + p * 0
    rw [Rat.mul_zero, Rat.mul_zero, Rat.add_zero]
/-! ### advice that goes where deeds are best -/
/-- advice given at all is best there -/
def Wise (hss rss : List (List Rat)) (dd : Nat) : Prop := ∀ (w : Nat) (r h : List Rat), rss[w]? = some r → hss[w]? = some h → ∀ d, r.getD d 0 ≠ 0 → ∀ e, e < dd → h.getD e 0 ≤ h.getD d 0
theorem sum_nonpos : ∀ {l : List Rat}, (∀ x ∈ l, x ≤ 0) → l.sum ≤ 0
  | [], _ => by rw [List.sum_nil]; exact Rat.le_refl
  | x :: l, h => by
    have h1 := h x (List.mem_cons_self ..)
    have h2 := sum_nonpos fun y hy => h y (List.mem_cons_of_mem _ hy)
    rw [List.sum_cons]
    grind
theorem wise_fol {qs : List Rat} {hss rss : List (List Rat)} {dd : Nat} (h1 : ∀ q ∈ qs, 0 ≤ q) (h2 : ∀ r ∈ rss, ∀ q ∈ r, 0 ≤ q) (hb : Wise hss rss dd) : faultsL qs hss rss dd dd = [] := by
  refine faultsL_nil fun d hd e he => Rat.not_lt.mpr ?_
  unfold leadQ
  refine sum_nonpos fun x hx => ?_
  obtain ⟨i, hi, ex⟩ := List.getElem_of_mem hx
  have hi' := hi
  unfold leadP prods at hi'
  rw [List.length_zipWith, List.length_zipWith] at hi'
  have a1 : i < qs.length := by omega
  have a2 : i < rss.length := by omega
  have a3 : i < hss.length := by omega
  have e1 := leadP_at (d := e) (e := d) (prods_at (d := d) (List.getElem?_eq_getElem a1) (List.getElem?_eq_getElem a2)) (List.getElem?_eq_getElem a3)
  have e2 : x = qs[i] * rss[i].getD d 0 * (hss[i].getD e 0 - hss[i].getD d 0) := by
    rw [← ex]
    exact (List.getElem?_eq_some_iff.mp e1).2
  rw [e2]
  have q0 := h1 _ (List.getElem_mem a1)
  by_cases z : rss[i].getD d 0 = 0
  · rw [z, Rat.mul_zero, Rat.zero_mul]
    exact Rat.le_refl
  · have r0 : 0 ≤ rss[i].getD d 0 := by
      by_cases hdl : d < rss[i].length
      · rw [List.getD_eq_getElem?_getD, List.getElem?_eq_getElem hdl]
        exact h2 _ (List.getElem_mem a2) _ (List.getElem_mem hdl)
      · rw [List.getD_eq_getElem?_getD, List.getElem?_eq_none (by omega)]
        exact Rat.le_refl
    have le := hb i _ _ (List.getElem?_eq_getElem a2) (List.getElem?_eq_getElem a3) d z e he
    have := Rat.mul_le_mul_of_nonneg_left (show hss[i].getD e 0 - hss[i].getD d 0 ≤ 0 by grind) (Rat.mul_nonneg q0 r0)
    rw [Rat.mul_zero] at this
    exact this
theorem wise_mix {p : Rat} {hss as bs : List (List Rat)} {dd : Nat} (ha : Wise hss as dd) (hb : Wise hss bs dd) (hl : ∀ (i : Nat) (x y : List Rat), as[i]? = some x → bs[i]? = some y → x.length = y.length) : Wise hss (mixR p as bs) dd := by
  intro w r h hr hh d hd
  obtain ⟨i, x, y, e1, e2, e3, e4⟩ : ∃ (i : Nat) (x y : List Rat), as[w]? = some x ∧ bs[w]? = some y ∧ i = w ∧ r = mixRow p x y := by
    have hw := (List.getElem?_eq_some_iff.mp hr).1
    unfold mixR at hw
    rw [List.length_zipWith] at hw
    have h1 : w < as.length := by omega
    have h2 : w < bs.length := by omega
    have e2 := mixR_at (p := p) (List.getElem?_eq_getElem h1) (List.getElem?_eq_getElem h2)
    rw [hr] at e2
    exact ⟨w, as[w], bs[w], List.getElem?_eq_getElem h1, List.getElem?_eq_getElem h2, rfl, Option.some.inj e2⟩
  rw [e4, mix_getD (hl w x y e1 e2)] at hd
  by_cases z : x.getD d 0 = 0
  · refine hb w y h e2 hh d fun z2 => hd ?_
    rw [z, z2, Rat.mul_zero, Rat.mul_zero, Rat.add_zero]
  · exact ha w x h e1 hh d z
theorem unit_getD {dd a d : Nat} : (unit dd a).getD d 0 = if d < dd ∧ d = a then 1 else 0 := by
  unfold unit
  by_cases h : d < dd
  · rw [List.getD_eq_getElem?_getD, List.getElem?_map, List.getElem?_range h]
    show (if d = a then (1 : Rat) else 0) = _
    by_cases e : d = a
    · rw [if_pos e, if_pos ⟨h, e⟩]
    · rw [if_neg e, if_neg (fun z => e z.2)]
  · rw [List.getD_eq_getElem?_getD, List.getElem?_eq_none (by rw [List.length_map, List.length_range]; omega), if_neg (fun z => h z.1)]
    rfl
theorem unit_len {dd a : Nat} : (unit dd a).length = dd := by
  unfold unit
  rw [List.length_map, List.length_range]
theorem unit_bd {dd a : Nat} : ∀ q ∈ unit dd a, Bd 1 q := fun q hq => by
  unfold unit at hq
  obtain ⟨j, _, rfl⟩ := List.mem_map.mp hq
  split
  · exact ⟨by decide, by decide⟩
  · exact ⟨by decide, by decide⟩
def bestR (as : List Nat) (dd : Nat) : List (List Rat) := as.map (unit dd)
theorem bestR_good {as : List Nat} {ww dd : Nat} (hl : as.length = ww) (w1 : 1 ≤ ww) (w5 : ww ≤ 5) (d1 : 1 ≤ dd) (d6 : dd ≤ 6) (ha : ∀ a ∈ as, a < dd) : Good (bestR as dd) dd := by
  refine ⟨by unfold bestR; rw [List.length_map]; omega, by unfold bestR; rw [List.length_map]; omega, d1, by omega, fun r hr => ?_⟩
  obtain ⟨a, h, rfl⟩ := List.mem_map.mp hr
  exact unit_ok (ha a h)
/-! ### all in one world -/
theorem getD_in {α : Type} {l : List α} {i : Nat} {z : α} (h : i < l.length) : l.getD i z = l[i] := by
  rw [List.getD_eq_getElem?_getD, List.getElem?_eq_getElem h]
  rfl
theorem wq_range {xss : List (List Rat)} {ws : List Rat} {d : Nat} (h : ws.length = xss.length) : wq xss ws d = ((List.range ws.length).map fun j => ws.getD j 0 * (xss.getD j []).getD d 0).sum := by
  unfold wq
  congr 1
  refine List.ext_getElem? fun i => ?_
  rw [List.getElem?_map]
  by_cases hi : i < ws.length
  · rw [prods_at (List.getElem?_eq_getElem hi) (List.getElem?_eq_getElem (show i < xss.length by omega)), List.getElem?_range hi]
    show some (ws[i] * (xss[i]'(by omega)).getD d 0) = some (ws.getD i 0 * (xss.getD i []).getD d 0)
    rw [getD_in hi, getD_in (show i < xss.length by omega)]
  · rw [List.getElem?_eq_none (by rw [prods_len h]; omega), List.getElem?_eq_none (by rw [List.length_range]; omega)]
    rfl
theorem wq_unit {xss : List (List Rat)} {ww w d : Nat} (h : xss.length = ww) (hw : w < ww) : wq xss (unit ww w) d = (xss.getD w []).getD d 0 := by
  rw [wq_range (by rw [unit_len, h]), unit_len]
  have e : ((List.range ww).map fun j => (unit ww w).getD j 0 * (xss.getD j []).getD d 0) = (List.range ww).map fun j => if w = j then (xss.getD j []).getD d 0 else 0 := by
    refine List.map_congr_left fun j hj => ?_
    rw [unit_getD]
    by_cases z : w = j
    · subst z
      rw [if_pos ⟨hw, rfl⟩, if_pos rfl, Rat.one_mul]
    · rw [if_neg (fun q => z q.2.symm), if_neg z, Rat.zero_mul]
  rw [e, sum_pick, if_pos hw]
theorem prods_getD {xss : List (List Rat)} {ws : List Rat} {d j : Nat} (h : ws.length = xss.length) : (prods xss ws d).getD j 0 = ws.getD j 0 * (xss.getD j []).getD d 0 := by
  by_cases hi : j < ws.length
  · rw [List.getD_eq_getElem?_getD (l := prods xss ws d), prods_at (List.getElem?_eq_getElem hi) (List.getElem?_eq_getElem (show j < xss.length by omega)), getD_in hi, getD_in (show j < xss.length by omega)]
    rfl
  · rw [List.getD_eq_getElem?_getD, List.getElem?_eq_none (by rw [prods_len h]; omega), List.getD_eq_getElem?_getD, List.getElem?_eq_none (by omega)]
    show (0 : Rat) = 0 * _
    rw [Rat.zero_mul]
theorem wq_unit2 {xss rss : List (List Rat)} {ww w d e : Nat} (h : xss.length = ww) (hr : rss.length = ww) (hw : w < ww) : wq xss (prods rss (unit ww w) d) e = (rss.getD w []).getD d 0 * (xss.getD w []).getD e 0 := by
  have hl : (prods rss (unit ww w) d).length = ww := by rw [prods_len (by rw [unit_len, hr]), unit_len]
  rw [wq_range (by rw [hl, h]), hl]
  have ee : ((List.range ww).map fun j => (prods rss (unit ww w) d).getD j 0 * (xss.getD j []).getD e 0) = (List.range ww).map fun j => if w = j then (rss.getD j []).getD d 0 * (xss.getD j []).getD e 0 else 0 := by
    refine List.map_congr_left fun j hj => ?_
    rw [prods_getD (by rw [unit_len, hr]), unit_getD]
    by_cases z : w = j
    · subst z
      rw [if_pos ⟨hw, rfl⟩, if_pos rfl, Rat.one_mul]
    · rw [if_neg (fun q => z q.2.symm), if_neg z, Rat.zero_mul, Rat.zero_mul]
  rw [ee, sum_pick (f := fun j => (rss.getD j []).getD d 0 * (xss.getD j []).getD e 0), if_pos hw]
theorem best_unit {hss : List (List Rat)} {ww w dd d : Nat} (h : hss.length = ww) (hw : w < ww) (hd : d < dd) : d ∈ bestL hss (unit ww w) dd ↔ ∀ e, e < dd → (hss.getD w []).getD e 0 ≤ (hss.getD w []).getD d 0 := by
  rw [mem_best]
  constructor
  · intro z e he
    have := z.2 e he
    rw [wq_unit h hw, wq_unit h hw] at this
    exact this
  · intro z
    refine ⟨hd, fun e he => ?_⟩
    rw [wq_unit h hw, wq_unit h hw]
    exact z e he
theorem one_world {hss rss : List (List Rat)} {ww w dd : Nat} (h : hss.length = ww) (hr : rss.length = ww) (hw : w < ww) (h2 : ∀ r ∈ rss, ∀ q ∈ r, 0 ≤ q) : faultsL (unit ww w) hss rss dd dd = [] ↔ ∀ d, d < dd → 0 < (rss.getD w []).getD d 0 → d ∈ bestL hss (unit ww w) dd := by
  constructor
  · intro f d hd hp
    rw [best_unit h hw hd]
    intro e he
    have := fol_best f hd he
    rw [wq_unit2 h hr hw, wq_unit2 h hr hw] at this
    refine Rat.not_lt.mp fun z => ?_
    exact absurd ((Rat.mul_lt_mul_left hp).mpr z) (Rat.not_lt.mpr this)
  · intro f
    refine faultsL_nil fun d hd e he => Rat.not_lt.mpr ?_
    rw [lead_wq, wq_unit2 h hr hw, wq_unit2 h hr hw]
    by_cases hp : 0 < (rss.getD w []).getD d 0
    · have le := (best_unit h hw hd).mp (f d hd hp) e he
      have := Rat.mul_le_mul_of_nonneg_left le (Rat.le_of_lt hp)
      grind
    · have r0 : 0 ≤ (rss.getD w []).getD d 0 := by
        have hwr : w < rss.length := by omega
        rw [List.getD_eq_getElem?_getD (l := rss), List.getElem?_eq_getElem hwr]
        show 0 ≤ rss[w].getD d 0
        by_cases hdl : d < rss[w].length
        · rw [List.getD_eq_getElem?_getD, List.getElem?_eq_getElem hdl]
          exact h2 _ (List.getElem_mem hwr) _ (List.getElem_mem hdl)
        · rw [List.getD_eq_getElem?_getD, List.getElem?_eq_none (by omega)]
          exact Rat.le_refl
      rw [Rat.le_antisymm (Rat.not_lt.mp hp) r0, Rat.zero_mul, Rat.zero_mul, Rat.sub_self]
      exact Rat.le_refl
theorem bestR_wise {hss : List (List Rat)} {as : List Nat} {ww dd : Nat} (h : hss.length = ww) (hl : as.length = ww) (ha : ∀ (w a : Nat), as[w]? = some a → a ∈ bestL hss (unit ww w) dd) : Wise hss (bestR as dd) dd := by
  intro w r x hr hx d hd e he
  unfold bestR at hr
  rw [List.getElem?_map] at hr
  obtain ⟨a, ea, rfl⟩ := Option.map_eq_some_iff.mp hr
  rw [unit_getD] at hd
  by_cases c : d < dd ∧ d = a
  · obtain ⟨c1, rfl⟩ := c
    have hw : w < ww := by rw [← hl]; exact (List.getElem?_eq_some_iff.mp ea).1
    have := (best_unit h hw c1).mp (ha w d ea) e he
    rw [List.getD_eq_getElem?_getD (l := hss), hx] at this
    exact this
  · rw [if_neg c] at hd
    exact absurd rfl hd
end Hr

set_option Elab.async false
set_option linter.all false
set_option maxRecDepth 100000
set_option maxHeartbeats 4000000
namespace Hr
open PySem PySem.Spec PyProof.Rows L2 BX EXB Co Ru
open Dz Cs
open Fr (Bd)
def spChanceP (K : PySem.W.Frag) (C CR : Addr) : Sp := fun vs H Q _ => ∃ (x y : Addr) (i : Nat) (qs : List Rat) (hss tss rss : List (List Rat)) (n m ww dd mm : Nat), vs = [.ref x, .ref y, .int (i : Int)] ∧ Ga K H C CR x y qs hss tss rss n m ww dd mm ∧ i < mm ∧
  ∀ p H', Same H H' → SqT K H' p (rp (wq rss qs i)) → Q (.ref p) H'
def spBeliefsP (K : PySem.W.Frag) (C CR : Addr) : Sp := fun vs H Q _ => ∃ (x y : Addr) (i : Nat) (qs : List Rat) (hss tss rss : List (List Rat)) (n m ww dd mm : Nat), vs = [.ref x, .ref y, .int (i : Int)] ∧ Ga K H C CR x y qs hss tss rss n m ww dd mm ∧ i < mm ∧ wq rss qs i ≠ 0 ∧
  ∀ p cs H', Same H H' → H p = none → H' p = some (.lst cs) → FrN K H' (n + m + ((n + m + 1) * 5 + 1)) cs (belq rss qs i) → Q (.ref p) H'
def spCWithG (K : PySem.W.Frag) (C : Addr) : Sp := fun vs H Q _ => ∃ (x S : Addr) (qs : List Rat) (hss tss : List (List Rat)) (ws : List Rat) (cs : List V) (n m ww dd : Nat), vs = [.ref x, .ref S] ∧ IsCase K H C x qs hss tss n ∧ GoodC qs hss tss ww dd ∧ H S = some (.lst cs) ∧ FrN K H m cs ws ∧ RowOk ww ws ∧ m ≤ n ∧ n ≤ 1000 ∧
  ∀ z H', Same H H' → H z = none → IsCase K H' C z ws hss tss n → Q (.ref z) H'
/-! ### k26 -/
def spWeighed (K : PySem.W.Frag) (C CR : Addr) : Sp := fun vs H Q _ => ∃ (x y : Addr) (qs : List Rat) (hss tss rss : List (List Rat)) (m ww dd : Nat), vs = [.ref x, .ref y] ∧ Ga K H C CR x y qs hss tss rss 43 m ww dd dd ∧ 1 ≤ m ∧ m ≤ 35 ∧ (∀ q ∈ qs, Bd 8 q) ∧
  ∀ p cs H', Same H H' → H p = none → H' p = some (.lst cs) → FauAt K H' cs (faultsL qs hss rss dd dd) → Q (.ref p) H'
def spMixed (K : PySem.W.Frag) (CR : Addr) : Sp := fun vs H Q _ => ∃ (y z pp : Addr) (as bs : List (List Rat)) (p : Rat) (n m k : Nat), vs = [.ref y, .ref z, .ref pp] ∧ IsRule K H CR y as n ∧ IsRule K H CR z bs m ∧ Good as k ∧ Good bs k ∧ as.length = bs.length ∧ SqT K H pp (rp p) ∧ Bd 8 p ∧ 0 ≤ p ∧ p ≤ 1 ∧ n ≤ 100 ∧ m ≤ 100 ∧
  ∀ x H', Same H H' → H x = none → IsRule K H' CR x (mixR p as bs) (n + m + 19) → Q (.ref x) H'
def spBestRule (K : PySem.W.Frag) (C CR : Addr) : Sp := fun vs H Q _ => ∃ (l x : Addr) (z : Int) (qs : List Rat) (hss tss : List (List Rat)) (ww dd : Nat), vs = [.ref l, .ref x] ∧ H l = some (.lst [.int z]) ∧ IsCase K H C x qs hss tss 43 ∧ GoodC qs hss tss ww dd ∧
  ∀ y as z' H', SameB l H H' → H' l = some (.lst [.int z']) → IsRule K H' CR y (bestR as dd) 1 → as.length = ww → (∀ (w a : Nat), as[w]? = some a → a ∈ bestL hss (unit ww w) dd) → Q (.ref y) H'
def spInOne (K : PySem.W.Frag) (C CR : Addr) : Sp := fun vs H Q _ => ∃ (x y : Addr) (qs : List Rat) (hss tss rss : List (List Rat)) (m ww dd : Nat), vs = [.ref x, .ref y] ∧ Ga K H C CR x y qs hss tss rss 43 m ww dd dd ∧ ∀ H', Same H H' → Q (.bl true) H'
theorem bel_ok {rss : List (List Rat)} {qs : List Rat} {i ww : Nat} (hl : qs.length = rss.length) (hw : qs.length = ww) (h1 : ∀ q ∈ qs, 0 ≤ q) (h2 : ∀ r ∈ rss, ∀ q ∈ r, 0 ≤ q) (h0 : wq rss qs i ≠ 0) : RowOk ww (belq rss qs i) := by
  have hp := wq_pos h1 h2 h0
  refine ⟨by unfold belq; rw [List.length_map, prods_len hl, hw], fun q hq => ?_, ?_⟩
  · unfold belq at hq
    obtain ⟨w, hw', rfl⟩ := List.mem_map.mp hq
    rw [Rat.div_def]
    exact Rat.mul_nonneg (prods_nn h1 h2 w hw') (Rat.le_of_lt (Rat.inv_pos.mpr hp))
  · have e : belq rss qs i = (prods rss qs i).map fun o => (wq rss qs i)⁻¹ * o := by
      unfold belq
      refine List.map_congr_left fun w _ => ?_
      rw [Rat.div_def, Rat.mul_comm]
    rw [e, sum_map_mul]
    exact (Rat.mul_comm _ _).trans (Rat.mul_inv_cancel _ h0)
/-- data of what falls short -/
def dF1 (z : Nat × Nat × Rat) : PyData := .tuple [.int (z.1 : Int), .int (z.2.1 : Int), dR z.2.2]
def dF (l : List (Nat × Nat × Rat)) : PyData := .list (l.map dF1)
theorem FauAt.dps {K : PySem.W.Frag} {H : Hp} : ∀ {cs : List V} {l : List (Nat × Nat × Rat)}, FauAt K H cs l → DpAll K H cs (l.map dF1)
  | [], [], _ => .nil
  | [], _ :: _, h => by have := h.1; simp at this
  | _ :: _, [], h => by have := h.1; simp at this
  | v :: cs, z :: l, h => by
    obtain ⟨d, e, m, t, p, e1, rfl, e3, e4⟩ := h.2 0 v rfl
    have ez : z = (d, e, m) := Option.some.inj e1
    subst ez
    exact .cons (.tup e3 (.cons (.int _) (.cons (.int _) (.cons (dp_r e4) .nil)))) (FauAt.dps ⟨by have := h.1; simpa using this, fun j x ej => h.2 (j + 1) x ej⟩)
theorem dF_lays : ∀ l : List (Nat × Nat × Rat), PyData.canLayAll0 (l.map dF1) = true
  | [] => rfl
  | z :: l => by
    show ((dF1 z).canLay0 && PyData.canLayAll0 (l.map dF1)) = true
    rw [dF_lays l]
    rfl
theorem dF_deps : ∀ l : List (Nat × Nat × Rat), PyData.depthAll (l.map dF1) ≤ 2
  | [] => by decide
  | z :: l => by
    have := dF_deps l
    have h : PyData.depth (dF1 z) = 2 := rfl
    show max (PyData.depth (dF1 z)) (PyData.depthAll (l.map dF1)) ≤ 2
    omega
theorem dF_lay (l : List (Nat × Nat × Rat)) : (dF l).canLay0 = true := dF_lays l
theorem dF_shaped (l : List (Nat × Nat × Rat)) : SeqAt.shaped (dF l) = true := by
  unfold SeqAt.shaped
  rw [dF_lay, Bool.true_and]
  refine decide_eq_true ?_
  have := dF_deps l
  show PyData.depthAll (l.map dF1) + 1 ≤ 64
  omega
theorem in_ds (d : Nat) : ∀ l : List Nat, inV (.int (d : Int)) (dsV l) = decide (d ∈ l)
  | [] => rfl
  | x :: l => by
    have e : inV (.int (d : Int)) (dsV (x :: l)) = (eqV (.int (x : Int)) (.int (d : Int)) || inV (.int (d : Int)) (dsV l)) := rfl
    rw [e, in_ds d l, Bool.eq_iff_iff, Bool.or_eq_true, decide_eq_true_eq, decide_eq_true_eq, List.mem_cons]
    have h : eqV (.int (x : Int)) (.int (d : Int)) = true ↔ d = x := by
      show ((x : Int) == (d : Int)) = true ↔ _
      rw [beq_iff_eq]
      constructor
      · intro z; omega
      · intro z; omega
    rw [h]
theorem ds_flat' (l : List Nat) : (dsV l).all flatV = true := List.all_eq_true.mpr fun v hv => by
  obtain ⟨p, _, rfl⟩ := List.mem_map.mp hv
  rfl
/-- data of numbers -/
def dNs (ps : List Nat) : PyData := .list (ps.map fun (d : Nat) => PyData.int (d : Int))
theorem dNs_lays : ∀ ps : List Nat, PyData.canLayAll0 (ps.map fun (d : Nat) => PyData.int (d : Int)) = true
  | [] => rfl
  | p :: ps => by
    show (true && PyData.canLayAll0 (ps.map fun (d : Nat) => PyData.int (d : Int))) = true
    rw [dNs_lays ps]
    rfl
theorem dNs_deps : ∀ ps : List Nat, PyData.depthAll (ps.map fun (d : Nat) => PyData.int (d : Int)) ≤ 0
  | [] => by decide
  | p :: ps => by
    have := dNs_deps ps
    show max 0 (PyData.depthAll (ps.map fun (d : Nat) => PyData.int (d : Int))) ≤ 0
    omega
theorem dNs_shaped (ps : List Nat) : SeqAt.shaped (dNs ps) = true := by
  unfold SeqAt.shaped
  have h : (dNs ps).canLay0 = true := dNs_lays ps
  rw [h, Bool.true_and]
  refine decide_eq_true ?_
  have := dNs_deps ps
  show PyData.depthAll (ps.map fun (d : Nat) => PyData.int (d : Int)) + 1 ≤ 64
  omega
theorem dNs_nil (ps : List Nat) : PyData.eqv (dNs ps) (.list []) = decide (ps = []) := by
  cases ps with
  | nil => rfl
  | cons p ps => rfl
theorem part7 {d : Int} (h0 : 0 ≤ d) (h8 : d < 8) : 0 ≤ Rat.divInt d 7 ∧ Rat.divInt d 7 ≤ 1 ∧ Bd 8 (Rat.divInt d 7) := by
  have : d = 0 ∨ d = 1 ∨ d = 2 ∨ d = 3 ∨ d = 4 ∨ d = 5 ∨ d = 6 ∨ d = 7 := by omega
  have b : Bd 8 (Rat.divInt d 7) := Fr.bd_low (Nat.lt_of_le_of_lt (show d.natAbs ≤ 7 by omega) (by decide)) (by decide) (by decide)
  refine ⟨?_, ?_, b⟩
  · exact Rs.divInt_nn h0 (by decide)
  · clear b
    rcases this with rfl | rfl | rfl | rfl | rfl | rfl | rfl | rfl <;> decide +kernel
/-- a rule with some bound -/
def RuX (K : PySem.W.Frag) (H : Hp) (CR : Addr) (v : V) (ww dd : Nat) : Prop := ∃ (y : Addr) (rss : List (List Rat)) (m : Nat), v = .ref y ∧ IsRule K H CR y rss m ∧ 1 ≤ m ∧ m ≤ 35 ∧ Good rss dd ∧ rss.length = ww
theorem RuX.same {K : PySem.W.Frag} {H H' : Hp} {CR : Addr} {v : V} {ww dd : Nat} (h : RuX K H CR v ww dd) (s : Same H H') : RuX K H' CR v ww dd :=
  let ⟨y, rss, m, a, b, c⟩ := h; ⟨y, rss, m, a, b.same s, c⟩
end Hr

set_option Elab.async false
set_option linter.all false
set_option maxRecDepth 100000
set_option maxHeartbeats 4000000
namespace BX
open PySem PySem.Spec PyProof.Rows L2
def tMethD (C : Addr) (m : Str) (sp : Sp) (dvs : List V) (E : L2.St → XK) (ta : TE) (t : TA) : TE := fun σ H Q => ta σ H fun x H1 => ∃ a dx fs, x = .ref a ∧ H1 a = some (.ins C dx fs) ∧ fs.lookup m = none ∧ t σ H1 fun vs H2 => sp (x :: (vs ++ dvs)) H2 Q (E σ)
section
variable {X : Cx} {CX : CXT} {k : Nat} {f C : Addr} {fd : FuncData} {ps : List Str} {sp : Sp} {E : L2.St → XK} {m : Str} {apos pos : Pos} {o e : Expr} {es : List Expr} {ta : TE} {t : TA} {ds : List Value} {dvs : List V}
/-- o.m(e, ..), what it raises being wished for at the caller's slots -/
theorem pe_methD {pl : Sem Bool} (c : Cls X.K C) (hm : Meth X.K C m f) (F : FnOk X.prog X.w X.K X.mg X.base CX k f fd ps sp) (hr : Room k X.A) (hb : Binds X.K fd ps ds) (hd : Vals dvs ds) (hx : ∀ σ, PassesAt CX X σ (E σ)) (he : PE X o ta) (ha : PA X (e :: es) t) (hst : starEach (e :: es) X.env = (false, eval e X.env) :: starEach es X.env := by rfl) (hpl : (backTo pos (starEach es X.env)).any (·.1) = false := by rfl)
    (ht : eval (.Call (.Attribute o m apos) (e :: es) [] pos) X.env = (do let ov ← eval o X.env; standAt apos.atName; let (f, first) ← holding [ov] (getMethod ov m pl); callWith pos f first (backTo pos (starEach (e :: es) X.env)) (backToKw pos (keywordEach [] X.env))) := by rfl) :
    PE X (.Call (.Attribute o m apos) (e :: es) [] pos) (tMethD C m sp dvs E ta t) := by
  refine ⟨fun pins s σ H Q I h => ?_⟩
  refine PySem.W.methodCall_KW (pl := pl) (thn (he.run pins s σ H _ I h) fun u s1 ⟨x, H1, I1, rx, a, dx, fs, ex, ea, l, q⟩ => ?_) ht
  subst ex
  obtain rfl : u = Value.ref a := rx
  refine getmeth_ok I1 ea c hm l ?_
  refine PySem.W.callWith_K (first := [.ref a]) (h₀ := X.base) I.ok.mod.kin hm.kp (thn (ha.run pos pins s1 σ H1 _ I1 q) fun us s2 ⟨vs, H2, I2, r, q2⟩ => ⟨I2.kIn, ?_⟩) hst hpl
  have r2 : Vals (V.ref a :: (vs ++ dvs)) (Value.ref a :: (us ++ ds)) := .cons rfl (r.append hd)
  have hl : (Value.ref a :: us ++ ds).length = ps.length := by
    have z := r2.length
    rw [F.len _ _ _ _ q2] at z
    exact z.symm
  refine wpAny_call (codeAny_mono (F.run X.A X.stack s2 H2 ⟨Value.ref a :: us, []⟩ (Value.ref a :: (us ++ ds)) _ Q (E σ) hr I2.env0 (hb s2 (Value.ref a :: us) I2.kIn hl) r2 q2) fun r s' hq => ?_)
  cases r with
  | error er => exact hx σ pins _ _ er s' I2 hq
  | ok fl =>
    cases fl with
    | ret u => exact I2.after hq
    | next => exact False.elim hq
    | brk => exact False.elim hq
    | cont => exact False.elim hq
end
end BX

set_option Elab.async false
set_option linter.all false
set_option maxRecDepth 100000
set_option maxHeartbeats 4000000
namespace BX
open PySem PySem.Spec PyProof.Rows L2
/-- o.m(.., k = v, ..) -/
def tMethN (C : Addr) (m : Str) (n j : Nat) (sp : Sp) (gV : List V → List V → List V) (E : L2.St → XK) (ta : TE) (t tk : TA) : TE := fun σ H Q => ta σ H fun x H1 => ∃ a dx fs, x = .ref a ∧ H1 a = some (.ins C dx fs) ∧ fs.lookup m = none ∧ t σ H1 fun vs H2 => tk σ H2 fun zs H3 => vs.length = n ∧ zs.length = j ∧ sp (gV (x :: vs) zs) H3 Q (E σ)
section
variable {X : Cx} {CX : CXT} {k n : Nat} {f C : Addr} {fd : FuncData} {ps ks : List Str} {sp : Sp} {m : Str} {apos pos : Pos} {o e : Expr} {es : List Expr} {ta : TE} {t tk : TA} {kws : List Keyword} {g : List Value → List Value → List Value} {gV : List V → List V → List V}
theorem run_fnX {E : XK} {pins : List (Addr × Obj)} {σ : L2.St} {H : Hp} {s : Shared} {Q : VK} {us ws : List Value} {vs zs : List V} (F : FnOk X.prog X.w X.K X.mg X.base CX k f fd ps sp) (hr : Room k X.A) (hb : KBn X.K fd ps n ks g gV) (hx : PassesAt CX X σ E)
    (I : Inv X pins σ H s) (r : Vals vs us) (rz : Vals zs ws) (l1 : vs.length = n) (l2 : zs.length = ks.length) (h : sp (gV vs zs) H Q E) : wpAny (model X.prog X.w) X.A (call (.ref f) us (ks.zip ws)) (EP X pins σ Q) X.xe s := by
  have r2 := hb.rel r rz
  refine wpAny_call (codeAny_mono (F.run X.A X.stack s H ⟨us, ks.zip ws⟩ (g us ws) (gV vs zs) Q E hr I.env0 (hb.to s us ws I.kIn (r.length.symm.trans l1) (rz.length.symm.trans l2)) r2 h) fun r s' hq => ?_)
  cases r with
  | error er => exact hx pins _ _ er s' I hq
  | ok fl =>
    cases fl with
    | ret u => exact I.after hq
    | next => exact False.elim hq
    | brk => exact False.elim hq
    | cont => exact False.elim hq
theorem pe_methN {E : L2.St → XK} {pl : Sem Bool} (c : Cls X.K C) (hm : Meth X.K C m f) (F : FnOk X.prog X.w X.K X.mg X.base CX k f fd ps sp) (hr : Room k X.A) (hb : KBn X.K fd ps (n + 1) ks g gV) (hx : ∀ σ, PassesAt CX X σ (E σ)) (he : PE X o ta) (ha : PA X (e :: es) t) (hkw : PK X kws tk)
    (hall : (backToKw pos (keywordEach kws X.env)).all (·.1.isSome) = true := by rfl) (hks : (backToKw pos (keywordEach kws X.env)).filterMap (·.1) = ks := by rfl) (hst : starEach (e :: es) X.env = (false, eval e X.env) :: starEach es X.env := by rfl)
    (hpl : ((backTo pos (starEach (e :: es) X.env)).any (·.1) || (backToKw pos (keywordEach kws X.env)).any (·.1.isNone)) = false := by rfl)
    (ht : eval (.Call (.Attribute o m apos) (e :: es) kws pos) X.env = (do let ov ← eval o X.env; standAt apos.atName; let (f, first) ← holding [ov] (getMethod ov m pl); callWith pos f first (backTo pos (starEach (e :: es) X.env)) (backToKw pos (keywordEach kws X.env))) := by rfl) :
    PE X (.Call (.Attribute o m apos) (e :: es) kws pos) (tMethN C m n ks.length sp gV E ta t tk) := by
  refine ⟨fun pins s σ H Q I h => ?_⟩
  refine PySem.W.methodCall_KW (pl := pl) (thn (he.run pins s σ H _ I h) fun u s1 ⟨x, H1, I1, rx, a, dx, fs, ex, ea, l, q⟩ => ?_) ht
  subst ex
  obtain rfl : u = Value.ref a := rx
  refine getmeth_ok I1 ea c hm l ?_
  refine PySem.W.callWith_KW (first := [.ref a]) (h₀ := X.base) I.ok.mod.kin hm.kp hall (thn (ha.run pos pins s1 σ H1 _ I1 q) fun us s2 ⟨vs, H2, I2, r, q2⟩ => ?_) hpl hst
  refine thn (hkw.run pos pins s2 σ H2 _ I2 q2) fun ws s3 ⟨zs, H3, I3, rz, l1, l2, q3⟩ => ⟨I3.kIn, ?_⟩
  rw [hks]
  exact run_fnX (us := .ref a :: us) (vs := .ref a :: vs) F hr hb (hx σ) I3 (.cons rfl r) rz (by rw [List.length_cons, l1]) l2 q3
/-- o.m(k = v, ..), by names alone -/
theorem pe_methN0 {E : L2.St → XK} {pl : Sem Bool} (c : Cls X.K C) (hm : Meth X.K C m f) (F : FnOk X.prog X.w X.K X.mg X.base CX k f fd ps sp) (hr : Room k X.A) (hb : KBn X.K fd ps 1 ks g gV) (hx : ∀ σ, PassesAt CX X σ (E σ)) (he : PE X o ta) (hkw : PK X kws tk)
    (hall : (backToKw pos (keywordEach kws X.env)).all (·.1.isSome) = true := by rfl) (hks : (backToKw pos (keywordEach kws X.env)).filterMap (·.1) = ks := by rfl)
    (hpl : ((backTo pos (starEach [] X.env)).any (·.1) || (backToKw pos (keywordEach kws X.env)).any (·.1.isNone)) = false := by rfl)
    (ht : eval (.Call (.Attribute o m apos) [] kws pos) X.env = (do let ov ← eval o X.env; standAt apos.atName; let (f, first) ← holding [ov] (getMethod ov m pl); callWith pos f first (backTo pos (starEach [] X.env)) (backToKw pos (keywordEach kws X.env))) := by rfl) :
    PE X (.Call (.Attribute o m apos) [] kws pos) (tMethN C m 0 ks.length sp gV E ta tNil tk) := by
  refine ⟨fun pins s σ H Q I h => ?_⟩
  refine PySem.W.methodCall_KW (pl := pl) (thn (he.run pins s σ H _ I h) fun u s1 ⟨x, H1, I1, rx, a, dx, fs, ex, ea, l, q⟩ => ?_) ht
  subst ex
  obtain rfl : u = Value.ref a := rx
  refine getmeth_ok I1 ea c hm l ?_
  refine PySem.W.callWith_KW0 (first := [.ref a]) (h₀ := X.base) I.ok.mod.kin hm.kp hall (thn (hkw.run pos pins s1 σ H1 _ I1 q) fun ws s3 ⟨zs, H3, I3, rz, l1, l2, q3⟩ => ⟨I3.kIn, ?_⟩) hpl
  rw [hks]
  exact run_fnX (us := [.ref a]) (vs := [.ref a]) F hr hb (hx σ) I3 (.cons rfl .nil) rz rfl l2 q3
end
end BX

set_option Elab.async false
set_option linter.all false
set_option maxRecDepth 100000
set_option maxHeartbeats 8000000
namespace K03
open PySem PySem.Spec PyProof.Rows L2 BX EXB Co Ru
open Dz Cs Hr Gs Nt
open Rs (Rsp Rv Ret tYes_of dV datR Flat Okr spShares spRowsL spTotal spCopied eqv_dR)
open Fr (Bd)
open TL (tl numL)
def topS (i : Nat) : Stmt := PySem.Challenge.pw_besttelling_k03_fractions_written.main.body.getD i (.Pass ⟨0, 0, 0, 0⟩)
abbrev sWhole : Stmt := topS 3
abbrev sIsR : Stmt := topS 4
abbrev sDiv : Stmt := topS 5
abbrev sShR : Stmt := topS 7
abbrev sReadR : Stmt := topS 8
abbrev sRatOf : Stmt := topS 9
abbrev sFig : Stmt := topS 10
abbrev sLeft : Stmt := topS 12
abbrev sDigit : Stmt := topS 13
abbrev sLow : Stmt := topS 14
abbrev sLPlus : Stmt := topS 15
abbrev sLLess : Stmt := topS 16
abbrev sLTimes : Stmt := topS 17
abbrev sLUnder : Stmt := topS 18
abbrev sLRatio : Stmt := topS 19
abbrev sLText : Stmt := topS 20
abbrev sLNum : Stmt := topS 21
abbrev sDue03 : Stmt := topS 22
abbrev sLRead : Stmt := topS 23
abbrev sRight03 : Stmt := topS 24
abbrev sLaw : Stmt := topS 25
structure NcT (K : PySem.W.Frag) (mg : Str → Option Value) (C fI : Addr) : Prop where
  g : mg "NoCase" = some (.ref C)
  i : PySem.W.findIn K (.ref C) "__init__" = some (some (.ref fI))
  t : PySem.W.typeIn K (.ref fI) = some (.type "function")
  xf : XfC K C
  ex : ExcC K C
  o : OexC K C
  n1 : PySem.W.findIn K (.ref C) "part" = some none
  n2 : PySem.W.findIn K (.ref C) "number" = some none
  vV : PySem.W.findCls K (.type "ValueError") (.type "type") "__init__" = some (.val (.builtin "ValueError.__init__"))
  nn : PySem.W.exmOne K (.ref C) (.ref C) = some true
  kV : PySem.W.kitOne K (.ref C) (.type "ValueError") = some true
structure CaT (K : PySem.W.Frag) (mg : Str → Option Value) (C fI : Addr) : Prop where
  cl : Cls K C
  gC : mg "Case" = some (.ref C)
  n1 : NoAttr K C "own_shares"
  n2 : NoAttr K C "own_hearer"
  n3 : NoAttr K C "own_teller"
  mkC : Mk K C fI
  g5 : ∃ t, mg "MOST_WORLDS" = some (.int 5 t)
  g6 : ∃ t, mg "MOST_DEEDS" = some (.int 6 t)
section
variable {P : Program} {w : World} {K : PySem.W.Frag} {mg : Str → Option Value} {base : Heap}
theorem scDiv : FnScope ["one", "other"] ["one", "other"] (defScope sDiv) := ⟨rfl, rfl, rfl, by decide +kernel, rfl, by decide +kernel, by decide +kernel⟩
theorem ok_div {f : Addr} {fd : FuncData} {k : Nat} (F : Fun K "divisor" "divisor" sDiv f fd) (B : Blt mg) : FnOk P w K mg base CX0 (k + 1) f fd ["one", "other"] spDiv := by
  refine F.ok scDiv (fun vs H Q E h => ?_) (fun cdv A outer s H vs Q E hr h => ?_)
  · obtain ⟨a, b, rfl, _⟩ := h
    rfl
  · obtain ⟨a, b, rfl, q⟩ := h
    refine ⟨_, pss_cons (ps_while PassesOwn.never (pt_cmpR op_ne (pv 1) pe_int (nomark _))
        (pss_one (ps_par (i := 0) (j := 1) (by rfl) scDiv.nd rfl rfl (by decide) rfl rfl (pa_cons (pv 1) (pa_cons (pe_op op_modN (pv 0) (pv 1)) pa_nil)) (by rfl))))
      (pss_one (ps_ret (pe_callB call_abs (by rfl) B.abs_ (by decide +kernel) (pa_cons (pv 0) pa_nil)))), ?_⟩
    refine ⟨fun m σ H' => ∃ x y : Int, σ = [some (.int x), some (.int y)] ∧ m = y.natAbs ∧ Int.gcd x y = Int.gcd a b ∧ H' = H, ⟨_, a, b, rfl, rfl, rfl, rfl⟩, ?_⟩
    rintro m σ H' ⟨x, y, rfl, rfl, hg, rfl⟩
    refine ⟨.int y, rfl, rfl, _, rfl, ite2 (fun c => ?_) (fun c => ?_)⟩
    · have hy : y ≠ 0 := fun e => by
        subst e
        exact absurd c (by decide)
      refine ⟨fun σ' H'' => ∃ x' y' : Int, σ' = [some (.int x'), some (.int y')] ∧ y'.natAbs < y.natAbs ∧ Int.gcd x' y' = Int.gcd a b ∧ H'' = H', ?_, ?_⟩
      · rintro σ' H'' ⟨x', y', e1, e2, e3, e4⟩
        exact ⟨y'.natAbs, e2, x', y', e1, rfl, e3, e4⟩
      · refine ⟨.int y, rfl, .int x, rfl, .int y, rfl, x, y, rfl, rfl, hy, _, _, rfl, y, _, rfl, Fr.fmod_abs x hy, ?_, rfl⟩
        rw [Fr.gcd_step]
        exact hg
    · have hy : y = 0 := by
        by_cases e : y = 0
        · exact e
        · exact absurd (by simp [e]) c
      subst hy
      rw [Int.gcd_zero_right] at hg
      refine ⟨.int x, rfl, x, rfl, ?_⟩
      have e : (if x < 0 then -x else x) = (Int.gcd a b : Int) := by
        rw [← hg]
        split <;> omega
      rw [e]
      exact q
theorem scWhole : FnScope ["thing"] ["thing"] (defScope sWhole) := ⟨rfl, rfl, rfl, by decide +kernel, rfl, by decide +kernel, by decide +kernel⟩
theorem ok_WholeZ {f  : Addr} {fd  : FuncData} {k : Nat} (F : Fun K "is_whole" "is_whole" sWhole f fd)  (B : Blt mg) : FnOk P w K mg base CX0 (k + 1) f fd ["thing"] (spWholeZ K) := by
  refine F.ok scWhole (fun vs H Q E h => ?_) (fun cdv A outer s H vs Q E hr h => ?_)
  · obtain ⟨ex, v, d, rfl, _⟩ := h
    rfl
  · obtain ⟨ex, v, d, rfl, hv, q⟩ := h
    refine ⟨_, (pss_one (ps_ret (pe_and (pe_callB call_isi (by rfl) B.isinstance_ (by decide +kernel) (pa_cons (pv 0) (pa_cons (pe_bltn (v := .ty "int") (by rfl) B.int_ (by decide +kernel) rfl) pa_nil))) (pe_one (pe_not (pe_callB call_isi (by rfl) B.isinstance_ (by decide +kernel) (pa_cons (pv 0) (pa_cons (pe_bltn (v := .ty "bool") (by rfl) B.bool_ (by decide +kernel) rfl) pa_nil)))))))), ?_⟩
    refine ⟨_, rfl, _, _, _, _, isIB d, rfl, .ty "int", hv.ty, kit_ty (kit_isIB d), _, rfl, ?_⟩
    cases d with
    | int i => exact iteT ⟨_, rfl, _, _, _, _, isB (.int i), rfl, .ty "bool", hv.ty, kit_ty (kit_isB _), _, rfl, q⟩
    | bool b => exact iteT ⟨_, rfl, _, _, _, _, isB (.bool b), rfl, .ty "bool", hv.ty, kit_ty (kit_isB _), _, rfl, q⟩
    | none => exact iteF q
    | str x => exact iteF q
    | list x => exact iteF q
    | tuple x => exact iteF q
    | dict x => exact iteF q
theorem scIsR : FnScope ["thing", "top", "bottom"] ["thing"] (defScope sIsR) := ⟨rfl, rfl, rfl, by decide +kernel, rfl, by decide +kernel, by decide +kernel⟩
theorem ok_IsRZ {f fW fD : Addr} {fd fdW fdD : FuncData} {k : Nat} (F : Fun K "is_ratio" "is_ratio" sIsR f fd) (GW : FnOk P w K mg base CX0 k fW fdW ["thing"] (spWholeZ K)) (kW : PySem.W.keepIn K (.ref fW) = true) (bW : Binds K fdW ["thing"] []) (gW : mg "is_whole" = some (.ref fW)) (GD : FnOk P w K mg base CX0 k fD fdD ["one", "other"] spDiv) (kD : PySem.W.keepIn K (.ref fD) = true) (bD : Binds K fdD ["one", "other"] []) (gD : mg "divisor" = some (.ref fD)) (B : Blt mg) : FnOk P w K mg base CX0 (k + 1) f fd ["thing"] (spIsRZ K) := by
  refine F.ok scIsR (fun vs H Q E h => ?_) (fun cdv A outer s H vs Q E hr h => ?_)
  · obtain ⟨ex, v, d, rfl, _⟩ := h
    rfl
  · obtain ⟨ex, v, d, rfl, hv, q⟩ := h
    refine ⟨_, (pss_cons (ps_if (PW.pt (pw_or (pt_not (pt_val (pe_callB call_isi (by rfl) B.isinstance_ (by decide +kernel) (pa_cons (pv 0) (pa_cons (pe_bltn (v := .ty "tuple") (by rfl) B.tuple_ (by decide +kernel) rfl) pa_nil))))) (pw_or1 (pt_cmpR op_ne (pe_callB call_len_seq (by rfl) B.len_ PySem.boot_len (pa_cons (pv 0) pa_nil)) pe_int (nomark _))))) (pss_one (ps_ret pe_bl)) pss_nil)
      (pss_cons (ps_asg (pv 0) (pg_tup (by rfl) (pgs_cons (pg_name (i := 1) scIsR.nd rfl (.inl rfl)) (pgs_cons (pg_name (i := 2) scIsR.nd rfl (.inl rfl)) pgs_nil))))
      (pss_cons (ps_if (PW.pt (pw_or (pt_not (pt_val (pe_call GW hr (by rfl) gW kW bW .nil pass0 (pa_cons (pv 1) pa_nil)))) (pw_or1 (pt_not (pt_val (pe_call GW hr (by rfl) gW kW bW .nil pass0 (pa_cons (pv 2) pa_nil))))))) (pss_one (ps_ret pe_bl)) pss_nil)
      (pss_one (ps_ret (pe_and (pe_cmpR op_ge (pv 2) pe_int (nomark _)) (pe_one (pe_cmpR op_eq (pe_call GD hr (by rfl) gD kD bD .nil pass0 (pa_cons (pv 1) (pa_cons (pv 2) pa_nil))) pe_int (nomark _))))))))), ?_⟩
    cases d with
    | none => exact ⟨_, rfl, _, _, _, _, isT _, rfl, .ty "tuple", hv.ty, kit_ty (kit_isT _), _, rfl, iteT (iteT q)⟩
    | bool b => exact ⟨_, rfl, _, _, _, _, isT _, rfl, .ty "tuple", hv.ty, kit_ty (kit_isT _), _, rfl, iteT (iteT q)⟩
    | int i => exact ⟨_, rfl, _, _, _, _, isT _, rfl, .ty "tuple", hv.ty, kit_ty (kit_isT _), _, rfl, iteT (iteT q)⟩
    | str x => exact ⟨_, rfl, _, _, _, _, isT _, rfl, .ty "tuple", hv.ty, kit_ty (kit_isT _), _, rfl, iteT (iteT q)⟩
    | list x => exact ⟨_, rfl, _, _, _, _, isT _, rfl, .ty "tuple", hv.ty, kit_ty (kit_isT _), _, rfl, iteT (iteT q)⟩
    | dict x => exact ⟨_, rfl, _, _, _, _, isT _, rfl, .ty "tuple", hv.ty, kit_ty (kit_isT _), _, rfl, iteT (iteT q)⟩
    | tuple ds =>
      refine ⟨_, rfl, _, _, _, _, isT (.tuple ds), rfl, .ty "tuple", hv.ty, kit_ty (kit_isT _), _, rfl, iteF ?_⟩
      cases hv with
      | @tup a xs _ ha ts =>
        have hl := ts.len
        refine ⟨_, rfl, a, xs, rfl, .inr ha, rfl, _, rfl, ?_⟩
        by_cases h2 : xs.length = 2
        rotate_left
        · rw [decide_eq_false (fun z => h2 (by have := V.int.inj z; omega))]
          refine iteT ?_
          have e : ratD (.tuple ds) = none := by
            unfold ratD
            split
            · rename_i heq
              injection heq with heq
              rw [heq] at hl
              exact absurd hl h2
            · rfl
          rw [e] at q
          exact q
        have e2 : V.int (xs.length : Int) = V.int 2 := by rw [h2]; rfl
        rw [decide_eq_true e2]
        refine iteF ?_
        obtain ⟨x, y, rfl⟩ : ∃ x y, xs = [x, y] := by
          match xs, h2 with
          | [x, y], _ => exact ⟨x, y, rfl⟩
        cases ts with
        | @cons _ _ dx _ hx ts =>
          cases ts with
          | @cons _ _ dy _ hy ts =>
            cases ts
            refine ⟨_, rfl, a, _, rfl, ha, rfl, _, _, rfl, _, _, rfl, rfl, ?_⟩
            refine ⟨_, rfl, ex, x, dx, rfl, hx, _, rfl, ?_⟩
            have no : ∀ {b : PyData}, isI dx = false → ratD (.tuple [dx, b]) = none := fun {b} h => by cases dx <;> first | rfl | cases h
            cases c1 : isI dx with
            | false =>
              rw [no c1] at q
              exact iteT (iteT q)
            | true =>
              refine iteF ?_
              refine ⟨_, rfl, ex, y, dy, rfl, hy, _, rfl, ?_⟩
              cases dx with
              | int t =>
                cases c2 : isI dy with
                | false =>
                  have e : ratD (.tuple [.int t, dy]) = none := by cases dy <;> first | rfl | cases c2
                  rw [e] at q
                  exact iteT q
                | true =>
                  refine iteF ?_
                  cases dy with
                  | int b =>
                    cases hx
                    cases hy
                    have e : ratD (.tuple [.int t, .int b]) = if 1 ≤ b ∧ Int.gcd t b = 1 then some (Rat.divInt t b) else none := rfl
                    refine ⟨_, rfl, _, _, rfl, rfl, _, rfl, ?_⟩
                    by_cases h1 : 1 ≤ b
                    · rw [if_pos (decide_eq_true h1)]
                      refine ⟨_, rfl, _, rfl, _, _, rfl, rfl, ?_⟩
                      by_cases hg : Int.gcd t b = 1
                      · rw [e, if_pos ⟨h1, hg⟩] at q
                        rw [hg]
                        exact q
                      · rw [e, if_neg (fun z => hg z.2)] at q
                        rw [decide_eq_false (fun z => hg (by have := V.int.inj z; omega))]
                        exact q
                    · rw [e, if_neg (fun z => h1 z.1)] at q
                      rw [if_neg (by rw [decide_eq_false h1]; decide)]
                      exact q
                  | _ => cases c2
              | _ => cases c1
theorem scFig : FnScope ["text"] ["text"] (defScope sFig) := ⟨rfl, rfl, rfl, by decide +kernel, rfl, by decide +kernel, by decide +kernel⟩
theorem ok_Fig {f  : Addr} {fd  : FuncData} {k : Nat} (F : Fun K "is_figures" "is_figures" sFig f fd)  : FnOk P w K mg base CX0 (k + 1) f fd ["text"] spFig := by
  refine F.ok scFig (fun vs H Q E h => ?_) (fun cdv A outer s H vs Q E hr h => ?_)
  · obtain ⟨a, rfl, _⟩ := h
    rfl
  · obtain ⟨a, rfl, q⟩ := h
    refine ⟨_, (pss_cons (ps_if (PW.pt (pw_or (pt_not (pt_val (pe_m0 PySem.F.slot_str_isascii PySem.F.type_str_isascii mt_isascii (pv 0)))) (pw_or1 (pt_not (pt_val (pe_m0 PySem.F.slot_str_isdigit PySem.F.type_str_isdigit mt_isdigit (pv 0))))))) (pss_one (ps_ret pe_bl)) pss_nil)
      (pss_one (ps_ret (pe_or (pe_cmpR op_eq (pv 0) pe_str (nomark _)) (pe_one (pe_not (pe_m1 PySem.F.slot_str_startswith PySem.F.type_str_startswith mt_startswith (pv 0) pe_str))))))), ?_⟩
    rw [← fig_lang] at q
    refine ⟨_, rfl, ⟨_, rfl⟩, a, rfl, rfl, trivial, _, rfl, ?_⟩
    cases c1 : Txt.isascii a with
    | false =>
      rw [c1] at q
      exact iteT (iteT q)
    | true =>
      rw [c1, Bool.true_and] at q
      refine iteF ⟨_, rfl, ⟨_, rfl⟩, a, rfl, rfl, trivial, _, rfl, ?_⟩
      cases c2 : Txt.isdigit a with
      | false =>
        rw [c2] at q
        exact iteT q
      | true =>
        rw [c2, Bool.true_and] at q
        refine iteF ⟨_, rfl, rfl, _, rfl, ?_⟩
        by_cases c3 : a = Str.ofString "0"
        · rw [decide_eq_true (show V.str a = V.str (Str.ofString "0") by rw [c3])]
          rw [decide_eq_true c3] at q
          exact iteT q
        · rw [decide_eq_false (show ¬ V.str a = V.str (Str.ofString "0") from fun z => c3 (V.str.inj z))]
          rw [decide_eq_false c3, Bool.false_or] at q
          exact iteF ⟨_, rfl, ⟨_, rfl⟩, a, _, rfl, rfl, _, rfl, q⟩
theorem scRatOf : FnScope ["text", "top", "slash", "bottom", "one"] ["text"] (defScope sRatOf) := ⟨rfl, rfl, rfl, by decide +kernel, rfl, by decide +kernel, by decide +kernel⟩
theorem ok_RatOf43 {f fFg fR : Addr} {fd fdFg fdR : FuncData} {k : Nat} (F : Fun K "ratio_of" "ratio_of" sRatOf f fd) (nd : NoDg K) (GFg : FnOk P w K mg base CX0 k fFg fdFg ["text"] spFig) (kFg : PySem.W.keepIn K (.ref fFg) = true) (bFg : Binds K fdFg ["text"] []) (gFg : mg "is_figures" = some (.ref fFg)) (GR : FnOk P w K mg base CX0 k fR fdR ["thing"] (spIsRZ K)) (kR : PySem.W.keepIn K (.ref fR) = true) (bR : Binds K fdR ["thing"] []) (gR : mg "is_ratio" = some (.ref fR)) (B : Blt mg) : FnOk P w K mg base CX0 (k + 1) f fd ["text"] (spRat43 K) := by
  refine F.ok scRatOf (fun vs H Q E h => ?_) (fun cdv A outer s H vs Q E hr h => ?_)
  · obtain ⟨v, rfl, _⟩ := h
    rfl
  · obtain ⟨v, rfl, h⟩ := h
    refine ⟨_, (pss_cons (ps_if (pt_not (pt_val (pe_callB call_isi (by rfl) B.isinstance_ (by decide +kernel) (pa_cons (pv 0) (pa_cons (pe_bltn (v := .ty "str") (by rfl) B.str_ (by decide +kernel) rfl) pa_nil))))) (pss_one (ps_ret pe_non)) pss_nil)
      (pss_cons (ps_asg (pe_partition (pv 0) pe_str) (pg_tup (by rfl) (pgs_cons (pg_name (i := 1) scRatOf.nd rfl (.inl rfl)) (pgs_cons (pg_name (i := 2) scRatOf.nd rfl (.inl rfl)) (pgs_cons (pg_name (i := 3) scRatOf.nd rfl (.inl rfl)) pgs_nil)))))
      (pss_cons (ps_if (PW.pt (pw_or (pt_cmpR op_eq (pv 1) pe_str (nomark _)) (pw_or1 (pt_not (pt_val (pe_call GFg hr (by rfl) gFg kFg bFg .nil pass0 (pa_cons (pe_m1 PySem.F.slot_str_removeprefix PySem.F.type_str_removeprefix mt_removeprefix (pv 1) pe_str) pa_nil))))))) (pss_one (ps_ret pe_non)) pss_nil)
      (pss_cons (ps_if (pt_cmpR op_eq (pv 2) pe_str (nomark _)) (pss_one (ps_ret (pe_tup (pa_cons (pe_callTy (T := "int") (call_int_any nd) (by rfl) B.int_ (by decide +kernel) (pa_cons (pv 1) pa_nil)) (pa_cons pe_int pa_nil))))) pss_nil)
      (pss_cons (ps_if (PW.pt (pw_or (pt_cmpR op_eq (pv 3) pe_str (nomark _)) (pw_or1 (pt_not (pt_val (pe_call GFg hr (by rfl) gFg kFg bFg .nil pass0 (pa_cons (pv 3) pa_nil))))))) (pss_one (ps_ret pe_non)) pss_nil)
      (pss_cons (ps_set (i := 4) scRatOf.nd rfl (.inl rfl) (pe_tup (pa_cons (pe_callTy (T := "int") (call_int_any nd) (by rfl) B.int_ (by decide +kernel) (pa_cons (pv 1) pa_nil)) (pa_cons (pe_callTy (T := "int") (call_int_any nd) (by rfl) B.int_ (by decide +kernel) (pa_cons (pv 3) pa_nil)) pa_nil))))
      (pss_one (ps_ret (pe_ifExp (pt_val (pe_call GR hr (by rfl) gR kR bR .nil pass0 (pa_cons (pv 4) pa_nil))) (pv 4) pe_non))))))))), ?_⟩
    rcases h with ⟨⟨tv, ty, kt⟩, q⟩ | ⟨a, rfl, hl, qs, qn⟩
    · exact ⟨_, rfl, _, _, _, _, false, rfl, .ty "str", ty, kt, _, rfl, iteT q⟩
    refine ⟨_, rfl, _, _, _, _, true, rfl, .ty "str", .base (.str a), kit_ty (by rfl), _, rfl, iteF ?_⟩
    have zz := szl
    have D1 : (∃ x y : Str, Txt.partition a (Str.ofString "/") = (x, Str.ofString "/", y) ∧ tl a = tl x ++ 47 :: tl y ∧ 47 ∉ tl x) ∨ (Txt.partition a (Str.ofString "/") = (a, Str.empty, Str.empty) ∧ 47 ∉ tl a) := by
      by_cases c : 47 ∈ tl a
      · obtain ⟨x, y, e, n⟩ := first_of c
        refine .inl ⟨⟨x.toArray⟩, ⟨y.toArray⟩, ?_, e, n⟩
        have ea : a = (⟨x.toArray⟩ : Str) ++ Str.ofString "/" ++ ⟨y.toArray⟩ := tl_inj (by rw [TL.tl_append, TL.tl_append, List.append_assoc]; exact e)
        rw [ea]
        exact TL.partition_app (y := Str.ofString "/") (s := 47) (S := []) (by rfl) n
      · exact .inr ⟨TL.partition_none (y := Str.ofString "/") (s := 47) (S := []) (by rfl) c, c⟩
    have tm0 : tl (Str.ofString "-0") = [45, 48] := by rfl
    -- the top's test
    have tst : ∀ (u : Str) (v w : Str) {Q1 : Bool → Hp → Prop} {H1 : Hp}, u.length ≤ 4300 → ((∃ i, tl u = iL i) → Q1 false H1) → ((¬ ∃ i, tl u = iL i) → Q1 true H1) → (tOr (tTest (tOp rEq (tVar 1) (tC (.str "-0")))) (tNot (tB (tCall spFig [] E0 (tCons (tM1 (fun x xs H Q => ∃ a b, x = .str a ∧ xs = [.str b] ∧ a.length ≤ sizeLine ∧ Q (.str (Txt.removeprefix a b)) H) (tVar 1) (tC (.str "-"))) tNil))))) [some (.str a), some (.str u), some (.str v), some (.str w), none] H1 Q1 := fun u v w {Q1 H1} ul q1 q2 => by
      refine ⟨_, rfl, rfl, _, rfl, ?_⟩
      by_cases c0 : u = Str.ofString "-0"
      · rw [decide_eq_true (show V.str u = V.str (Str.ofString "-0") by rw [c0])]
        exact iteT (q2 fun z => ((int_iff _).mp z).1 (by rw [c0]; exact tm0))
      · rw [decide_eq_false (show ¬ V.str u = V.str (Str.ofString "-0") from fun z => c0 (V.str.inj z))]
        refine iteF ⟨_, rfl, ⟨_, rfl⟩, u, _, rfl, rfl, by omega, _, rfl, _, rfl, ?_⟩
        rw [tl_rm]
        cases c1 : isFig (rm (tl u)) with
        | true => exact q1 ((int_iff _).mpr ⟨fun z => c0 (tl_inj (z.trans tm0.symm)), c1⟩)
        | false => exact q2 fun z => by have := ((int_iff _).mp z).2; rw [c1] at this; cases this
    rcases D1 with ⟨u, w, eT, ea, nu⟩ | ⟨eT, na⟩
    · have hle : a.length = u.length + (w.length + 1) := by rw [TL.len_tl, TL.len_tl, TL.len_tl, ea, List.length_append, List.length_cons]
      refine ⟨_, rfl, ⟨_, rfl⟩, a, Str.ofString "/", rfl, rfl, rfl, by omega, fun p np => ?_⟩
      rw [eT]
      have s1 := same_new np (.tup [V.str u, V.str (Str.ofString "/"), V.str w])
      refine ⟨p, _, rfl, SqT.of upd_same, rfl, _, _, rfl, _, _, rfl, _, _, rfl, rfl, ?_⟩
      generalize upd H p (.tup [V.str u, V.str (Str.ofString "/"), V.str w]) = H1 at s1 ⊢
      have non : (∀ q : Rat, q.den ≠ 1 → tl u = iL q.num → tl w = numL q.den → False) → Q .non H1 := fun h => qn H1 (rd_none fun q e => by
        obtain ⟨z1, z2, z3⟩ := (of_frac nu).mp (ea.symm.trans (congrArg tl e))
        exact h q z1 z2 z3) s1
      refine tst u _ w (by omega) (fun hi => iteF ?_) (fun hi => iteT (non fun q _ e _ => hi ⟨_, e⟩))
      obtain ⟨i, ei⟩ := hi
      have eu : u = sI i := tl_inj ei
      refine ⟨_, rfl, rfl, _, rfl, ?_⟩
      rw [decide_eq_false (show ¬ V.str (Str.ofString "/") = V.str (Str.ofString "") from fun z => by
        have := congrArg (fun x => (tl x).length) (V.str.inj z)
        exact absurd this (by decide))]
      refine iteF ⟨_, rfl, rfl, _, rfl, ?_⟩
      have t1 : tl (Str.ofString "1") = numL 1 := (TL.numL_lt (n := 1) (by decide)).symm
      by_cases d1 : w = Str.ofString "1"
      · rw [decide_eq_true (show V.str w = V.str (Str.ofString "1") by rw [d1])]
        exact iteT (iteT (non fun q z _ e => z (TL.numL_inj (e.symm.trans (by rw [d1]; exact t1)))))
      rw [decide_eq_false (show ¬ V.str w = V.str (Str.ofString "1") from fun z => d1 (V.str.inj z))]
      refine iteF ⟨_, rfl, _, rfl, _, rfl, ?_⟩
      cases d2 : isFig (tl w) with
      | false => exact iteT (non fun q _ _ e => by rw [e, fig_num] at d2; cases d2)
      | true =>
        obtain ⟨n, en⟩ := (fig_iff _).mp d2
        have ew : w = sI (n : Int) := tl_inj (en.trans (iL_nat n).symm)
        have l1 : (iL i).length ≤ 4300 := by rw [← ei, ← TL.len_tl]; omega
        have l2 : (iL (n : Int)).length ≤ 4300 := by rw [iL_nat, ← en, ← TL.len_tl]; omega
        refine iteF ⟨_, rfl, u, i, rfl, by rw [eu]; exact int_read43 l1, by omega, (by rw [eu]; exact iL_low _), _, rfl, w, n, rfl, by rw [ew]; exact int_read43 l2, by omega, (by rw [ew]; exact iL_low _), (by show 2 ≤ sizeLine; decide), fun p2 np2 => ?_⟩
        have s2 := same_new np2 (.tup [V.int i, V.int (n : Int)])
        have e2 : SqT K (upd H1 p2 (.tup [V.int i, V.int (n : Int)])) p2 [V.int i, V.int (n : Int)] := SqT.of upd_same
        generalize upd H1 p2 (.tup [V.int i, V.int (n : Int)]) = H2 at s2 e2 ⊢
        refine ⟨_, rfl, fun _ => False, .ref p2, .tuple [.int i, .int n], rfl, .tup e2 (.cons (.int _) (.cons (.int _) .nil)), _, rfl, ?_⟩
        have er : ratD (.tuple [.int i, .int (n : Int)]) = if 1 ≤ (n : Int) ∧ Int.gcd i n = 1 then some (Rat.divInt i n) else none := rfl
        rw [er]
        by_cases hg : 1 ≤ (n : Int) ∧ Int.gcd i n = 1
        · rw [if_pos hg]
          have hnum : (Rat.divInt i n).num = i := by rw [← Fr.low_num (by omega), hg.2]; exact Int.fdiv_one i
          have hden : ((Rat.divInt i n).den : Int) = n := by rw [← Fr.low_den (by omega), hg.2]; exact Int.fdiv_one _
          have hrp : rp (Rat.divInt i n) = [V.int i, V.int (n : Int)] := by unfold rp; rw [hnum, hden]
          have n1 : (Rat.divInt i n).den ≠ 1 := fun z => d1 (tl_inj (en.trans (by rw [t1]; congr 1; omega)))
          refine iteT ⟨_, rfl, qs (Rat.divInt i n) p2 H2 ?_ (s1.trans s2) (by rw [hrp]; exact e2)⟩
          have : a = shR (Rat.divInt i n) := tl_inj (ea.trans ((of_frac nu).mpr ⟨n1, by rw [hnum]; exact ei, by rw [en]; congr 1; omega⟩))
          rw [this]
          exact rd_sh _
        · rw [if_neg hg]
          refine iteF (qn H2 (rd_none fun q e => ?_) (s1.trans s2))
          obtain ⟨z1, z2, z3⟩ := (of_frac nu).mp (ea.symm.trans (congrArg tl e))
          have h1 : i = q.num := iL_inj (ei.symm.trans z2)
          have h2 : n = q.den := TL.numL_inj (en.symm.trans z3)
          have h3 := q.den_pos
          exact hg ⟨by omega, by rw [h1, h2]; exact Fr.ratio_gcd q⟩
    · refine ⟨_, rfl, ⟨_, rfl⟩, a, Str.ofString "/", rfl, rfl, rfl, by omega, fun p np => ?_⟩
      rw [eT]
      have s1 := same_new np (.tup [V.str a, V.str Str.empty, V.str Str.empty])
      refine ⟨p, _, rfl, SqT.of upd_same, rfl, _, _, rfl, _, _, rfl, _, _, rfl, rfl, ?_⟩
      generalize upd H p (.tup [V.str a, V.str Str.empty, V.str Str.empty]) = H1 at s1 ⊢
      refine tst a _ _ (by omega) (fun hi => iteF ?_) (fun hi => iteT (qn H1 (rd_none fun q e => hi ⟨_, ((of_int na).mp (congrArg tl e)).2⟩) s1))
      obtain ⟨i, ei⟩ := hi
      have eu : a = sI i := tl_inj ei
      have l1 : (iL i).length ≤ 4300 := by rw [← ei, ← TL.len_tl]; omega
      refine ⟨_, rfl, rfl, _, rfl, ?_⟩
      rw [decide_eq_true (show V.str Str.empty = V.str (Str.ofString "") from rfl)]
      refine iteT ⟨_, rfl, a, i, rfl, by rw [eu]; exact int_read43 l1, by omega, (by rw [eu]; exact iL_low _), (by show 2 ≤ sizeLine; decide), fun p2 np2 => ?_⟩
      have s2 := same_new np2 (.tup [V.int i, V.int 1])
      have : a = shR (i : Rat) := tl_inj ((of_int na).mpr ⟨rfl, ei⟩)
      exact qs (i : Rat) p2 _ (by rw [this]; exact rd_sh _) (s1.trans s2) (SqT.of upd_same)
theorem scShR : FnScope ["one", "top", "bottom"] ["one"] (defScope sShR) := ⟨rfl, rfl, rfl, by decide +kernel, rfl, by decide +kernel, by decide +kernel⟩
theorem ok_ShR {f  : Addr} {fd  : FuncData} {k : Nat} (F : Fun K "shown_ratio" "shown_ratio" sShR f fd)  (B : Blt mg) : FnOk P w K mg base CX0 (k + 1) f fd ["one"] (spShR K) := by
  refine F.ok scShR (fun vs H Q E h => ?_) (fun cdv A outer s H vs Q E hr h => ?_)
  · obtain ⟨a, q, n, rfl, _⟩ := h
    rfl
  · obtain ⟨a, q, n, rfl, ha, hb, h0, hn, q0⟩ := h
    refine ⟨_, (pss_cons (ps_asg (pv 0) (pg_tup (by rfl) (pgs_cons (pg_name (i := 1) scShR.nd rfl (.inl rfl)) (pgs_cons (pg_name (i := 2) scShR.nd rfl (.inl rfl)) pgs_nil))))
      (pss_cons (ps_if (pt_cmpR op_eq (pv 2) pe_int (nomark _)) (pss_one (ps_ret (pe_callTy (T := "str") call_str_int (by rfl) B.str_ (by decide +kernel) (pa_cons (pv 1) pa_nil)))) pss_nil)
      (pss_one (ps_ret (pe_joined (.cons (pe_fmt (pv 1)) (.cons pe_str (.cons (pe_fmt (pv 2)) .nil)))))))), ?_⟩
    have zz := szl
    have b1 := sI_len hb.1 h0
    have b2 := sI_len (i := (q.den : Int)) hb.dn h0
    have y1 : (Str.ofString "/").length = 1 := rfl
    have y0 : Str.empty.length = 0 := rfl
    refine ⟨_, rfl, a, _, rfl, ha, rfl, _, _, rfl, _, _, rfl, rfl, ?_⟩
    unfold shR at q0
    refine ⟨_, rfl, rfl, _, rfl, ?_⟩
    by_cases c : q.den = 1
    · rw [decide_eq_true (show V.int (q.den : Int) = V.int 1 by rw [c]; rfl)]
      rw [if_pos c] at q0
      exact iteT ⟨_, rfl, _, rfl, log_of hb.1 h0 hn, q0⟩
    · rw [decide_eq_false (show ¬ V.int (q.den : Int) = V.int 1 from fun z => c (by have := V.int.inj z; omega))]
      rw [if_neg c, ← emp_app (sI q.num)] at q0
      refine iteF ⟨_, rfl, .inr ⟨_, rfl, log_of hb.1 h0 hn, _, rfl, ?_, _, rfl, ?_, _, rfl, .inr ⟨_, rfl, log_of hb.dn h0 hn, _, rfl, ?_, q0⟩⟩⟩
      · simp only [app_len]; unfold sI at b1; omega
      · simp only [app_len]; unfold sI at b1; omega
      · simp only [app_len]; unfold sI at b1 b2; omega
end
end K03

set_option Elab.async false
set_option linter.all false
set_option maxRecDepth 100000
set_option maxHeartbeats 16000000
namespace K03
open PySem PySem.Spec PyProof.Rows L2 BX EXB Co Ru
open Dz Cs Hr Gs Nt
open Rs (Rsp Rv Ret tYes_of dV datR Flat Okr spShares spRowsL spTotal spCopied eqv_dR)
open Fr (Bd)
open TL (tl numL)
abbrev sNtInit : Stmt := inClass (topS 1) 0
structure NxT (K : PySem.W.Frag) (mg : Str → Option Value) (C fI : Addr) : Prop where
  g : mg "NoText" = some (.ref C)
  i : PySem.W.findIn K (.ref C) "__init__" = some (some (.ref fI))
  t : PySem.W.typeIn K (.ref fI) = some (.type "function")
  xf : XfC K C
  ex : ExcC K C
  o : OexC K C
  n1 : PySem.W.findIn K (.ref C) "part" = some none
  vV : PySem.W.findCls K (.type "ValueError") (.type "type") "__init__" = some (.val (.builtin "ValueError.__init__"))
/-- the refusal -/
def TxE (E : XK) (CT : Addr) (H : Hp) : Prop := ∀ H' d, Same H H' → H' d = some (.xd [("part", .int 0)]) → E (.ref CT) (some d) H'
theorem TxE.same {E : XK} {CT : Addr} {H H' : Hp} (h : TxE E CT H) (s : Same H H') : TxE E CT H' := fun H'' d s' e => h H'' d (s.trans s') e
def spRead03 (K : PySem.W.Frag) (CT : Addr) : Sp := fun vs H Q E => ∃ v : V, vs = [v] ∧ ((NoStr K H v ∧ TxE E CT H) ∨ ∃ a : Str, v = .str a ∧ a.length ≤ 4300 ∧ (∀ q p H', rdR a = some q → Same H H' → SqT K H' p (rp q) → Q (.ref p) H') ∧ (rdR a = none → TxE E CT H))
section
variable {P : Program} {w : World} {K : PySem.W.Frag} {mg : Str → Option Value} {base : Heap}
theorem scNtInit : FnScope ["self", "part"] ["self", "part"] (defScope sNtInit) := ⟨rfl, rfl, rfl, by decide +kernel, rfl, by decide +kernel, by decide +kernel⟩
theorem ok_NtInit {CT fT : Addr} {fd : FuncData} {k : Nat} (F : Fun K "__init__" "NoText.__init__" sNtInit fT fd) (T : NxT K mg CT fT) (B : Blt mg) : FnOk P w K mg base CX0 (k + 1) fT fd ["self", "part"] (spE1 CT "part") := by
  refine F.ok scNtInit (fun vs H Q E h => ?_) (fun cdv A outer s H vs Q E hr h => ?_)
  · obtain ⟨a, v, rfl, _⟩ := h
    rfl
  · obtain ⟨a, v, rfl, ha, q⟩ := h
    refine ⟨_, pss_cons (ps_expr (pe_veinit (by rfl) B.ValueError_ T.vV (pa_cons (pv 0) (pa_cons pe_str pa_nil)))) (pss_one (ps_ost (pv 0) (pv 1))), ?_⟩
    refine ⟨_, rfl, a, CT, _, rfl, (by show 1 ≤ 1000; decide), T.o, ha, ?_⟩
    exact ⟨_, rfl, _, rfl, a, CT, rfl, T.o, T.n1, .inl ⟨ha, fun dx hdx hne => q dx hdx hne⟩⟩
theorem scReadR : FnScope ["text", "one"] ["text"] (defScope sReadR) := ⟨rfl, rfl, rfl, by decide +kernel, rfl, by decide +kernel, by decide +kernel⟩
theorem ok_ReadR {f fR : Addr} {fd fdR : FuncData} {k : Nat} {CT fT : Addr} {fdT : FuncData} (F : Fun K "read_ratio" "read_ratio" sReadR f fd) (NX : NxT K mg CT fT) (GNX : FnOk P w K mg base CX0 k fT fdT ["self", "part"] (spE1 CT "part")) (bNX : Binds K fdT ["self", "part"] []) (GR : FnOk P w K mg base CX0 k fR fdR ["text"] (spRat43 K)) (kR : PySem.W.keepIn K (.ref fR) = true) (bR : Binds K fdR ["text"] []) (gR : mg "ratio_of" = some (.ref fR)) (B : Blt mg) : FnOk P w K mg base (L2.CX P w) (k + 2) f fd ["text"] (spRead03 K CT) := by
  refine F.okX scReadR (fun vs H Q E h => ?_) (fun cdv A outer s H vs Q E hr h => ?_)
  · obtain ⟨v, rfl, _⟩ := h
    rfl
  · obtain ⟨v, rfl, h⟩ := h
    have hk : Room k _ := hr.mono (by omega)
    refine ⟨_, (pss_cons (ps_set (i := 1) scReadR.nd rfl (.inl rfl) (pe_call GR hk (by rfl) gR kR bR .nil pass0 (pa_cons (pv 0) pa_nil)))
      (pss_cons (ps_if (pt_cmpR op_isN (pv 1) pe_non (nomark _)) (pss_one (ps_raise (W := fun cls d _ H' => E cls d H') rfl (takes_of rfl rfl rfl rfl) (pmk_oex NX.o NX.i NX.t GNX hr bNX .nil pass0 (by rfl) NX.g (pa_cons pe_int pa_nil)))) pss_nil)
      (pss_one (ps_ret (pv 1))))), ?_⟩
    rcases h with ⟨ns, e⟩ | ⟨a, rfl, hl, qs, qn⟩
    · refine ⟨_, rfl, v, rfl, .inl ⟨ns, ?_⟩⟩
      refine ⟨_, rfl, rfl, _, rfl, iteT ?_⟩
      exact mk1 fun dd hd => e _ dd (same_new hd _) upd_same
    · refine ⟨_, rfl, .str a, rfl, .inr ⟨a, rfl, hl, fun q p H' er s hp => ?_, fun H' er s => ?_⟩⟩
      · refine ⟨_, rfl, rfl, _, rfl, iteF ⟨_, rfl, qs q p H' er s hp⟩⟩
      · refine ⟨_, rfl, rfl, _, rfl, iteT ?_⟩
        exact mk1 fun dd hd => qn er _ dd (s.trans (same_new hd _)) upd_same
end
end K03

set_option Elab.async false
set_option linter.all false
set_option maxRecDepth 100000
set_option maxHeartbeats 16000000
namespace K03
open PySem PySem.Spec PyProof.Rows L2 BX EXB Co Ru
open Dz Cs Hr Gs Nt
open Rs (Rsp Rv Ret tYes_of dV datR Flat Okr spShares spRowsL spTotal spCopied eqv_dR)
open Fr (Bd)
open TL (tl numL)
theorem eqv_ratsA : ∀ t u : List Rat, PyData.eqvAll (t.map dR) (u.map dR) = decide (t = u)
  | [], [] => rfl
  | [], _ :: _ => rfl
  | _ :: _, [] => rfl
  | a :: t, b :: u => by
    rw [List.map_cons, List.map_cons, PyData.eqvAll, eqv_ratsA t u, Rs.eqv_dR, ← Bool.decide_and]
    exact decide_eq_decide.mpr ⟨fun ⟨x, y⟩ => by rw [x, y], fun z => by cases z; exact ⟨rfl, rfl⟩⟩
theorem eqv_rats (t u : List Rat) : PyData.eqv (.list (t.map dR)) (.list (u.map dR)) = decide (t = u) := by
  rw [PyData.eqv]
  exact eqv_ratsA t u
theorem eqv_rowsA : ∀ t u : List (List Rat), PyData.eqvAll (t.map fun qs => PyData.list (qs.map dR)) (u.map fun qs => PyData.list (qs.map dR)) = decide (t = u)
  | [], [] => rfl
  | [], _ :: _ => rfl
  | _ :: _, [] => rfl
  | a :: t, b :: u => by
    rw [List.map_cons, List.map_cons, PyData.eqvAll, eqv_rowsA t u, eqv_rats, ← Bool.decide_and]
    exact decide_eq_decide.mpr ⟨fun ⟨x, y⟩ => by rw [x, y], fun z => by cases z; exact ⟨rfl, rfl⟩⟩
theorem eqv_rows (t u : List (List Rat)) : PyData.eqv (dRows t) (dRows u) = decide (t = u) := by
  unfold dRows
  rw [PyData.eqv]
  exact eqv_rowsA t u
theorem tab_a {x d : Int} {u w : Int} (h0 : 0 ≤ d) (h5 : d < 5) (hu : 0 < u) (hw : 0 < w) : ∃ v : Int, atI [V.int 10, V.int 10, V.int 100, V.int u, V.int w] d = some (.int v) ∧ (v = 10 ∨ v = 100 ∨ v = u ∨ v = w) := by
  have : d = 0 ∨ d = 1 ∨ d = 2 ∨ d = 3 ∨ d = 4 := by omega
  rcases this with rfl | rfl | rfl | rfl | rfl
  · exact ⟨_, rfl, .inl rfl⟩
  · exact ⟨_, rfl, .inl rfl⟩
  · exact ⟨_, rfl, .inr (.inl rfl)⟩
  · exact ⟨_, rfl, .inr (.inr (.inl rfl))⟩
  · exact ⟨_, rfl, .inr (.inr (.inr rfl))⟩
theorem tab_b {d : Int} {w : Int} (h0 : 0 ≤ d) (h4 : d < 4) : ∃ v : Int, atI [V.int 1, V.int 9, V.int 100, V.int w] d = some (.int v) ∧ (v = 1 ∨ v = 9 ∨ v = 100 ∨ v = w) := by
  have : d = 0 ∨ d = 1 ∨ d = 2 ∨ d = 3 := by omega
  rcases this with rfl | rfl | rfl | rfl
  · exact ⟨_, rfl, .inl rfl⟩
  · exact ⟨_, rfl, .inr (.inl rfl)⟩
  · exact ⟨_, rfl, .inr (.inr (.inl rfl))⟩
  · exact ⟨_, rfl, .inr (.inr (.inr rfl))⟩
section
variable {P : Program} {w : World} {K : PySem.W.Frag} {mg : Str → Option Value} {base : Heap}
theorem scLeft : FnScope ["_law_cell", "_law_left_here", "_law_number_here", "_law_turn"] ["_law_cell"] (defScope sLeft) := ⟨rfl, rfl, rfl, by decide +kernel, rfl, by decide +kernel, by decide +kernel⟩
theorem ok_left {f : Addr} {fd : FuncData} {k : Nat} (F : Fun K "_law_left" "_law_left" sLeft f fd) (B : Blt mg) : FnOk P w K mg base CX0 (k + 1) f fd ["_law_cell"] spLeft := by
  refine F.ok scLeft (fun vs H Q E h => ?_) (fun cdv A outer s H vs Q E hr h => ?_)
  · obtain ⟨c, rfl, _⟩ := h
    rfl
  · obtain ⟨c, rfl, q⟩ := h
    refine ⟨_, pss_cons (ps_set (i := 1) scLeft.nd rfl (.inl rfl) (pe_callB call_abs (by rfl) B.abs_ (by decide +kernel) (pa_cons (pv 0) pa_nil)))
      (pss_cons (ps_if (pt_cmpR op_lt (pv 1) (pe_op op_pow pe_int pe_int) (nomark _))
        (pss_cons (ps_set (i := 2) scLeft.nd rfl (.inl rfl) (pv 0))
        (pss_one (ps_for PassesOwn.never rfl (pi_range1 (by rfl) B.range_ (pa_cons pe_int pa_nil)) (pg_name (i := 3) scLeft.nd rfl (.inl rfl))
          (pss_cons (ps_set (i := 2) scLeft.nd rfl (.inl rfl) (pe_op op_mod (pe_op op_mul (pe_op op_add (pe_op op_mod (pv 2) pe_int) pe_int) pe_int) pe_int))
          (pss_cons (ps_set (i := 2) scLeft.nd rfl (.inl rfl) (pe_op op_add (pe_op op_mod (pe_op op_mul (pv 2) pe_int) pe_int) (pv 3)))
          (pss_one (ps_set (i := 1) scLeft.nd rfl (.inl rfl) (pe_op op_add (pe_op op_mul (pv 1) pe_int) (pv 2)))))))))
        pss_nil)
      (pss_one (ps_ret (pe_lst (pa_cons (pv 1) pa_nil))))), ?_⟩
    refine ⟨_, rfl, c, rfl, ?_⟩
    refine ⟨_, rfl, 10, 18, rfl, rfl, ⟨by decide, by decide, by decide⟩, _, _, rfl, rfl, _, rfl, ite2 (fun z => ?_) (fun z => ?_)⟩
    · refine ⟨_, rfl, 40, rfl, by decide, by decide, for_range (lo := 0) (n := 40) (fun i σ H' => ∃ (n m : Int) (y : Option V), σ = [some (.int c), some (.int n), some (.int m), y] ∧ H' = H) ⟨_, _, none, rfl, rfl⟩ ?_ ?_⟩
      · rintro i σ H' hi ⟨n, m, y, rfl, rfl⟩
        refine ⟨_, rfl, _, _, rfl, rfl, (by show (0 : Int) < 2147483629; decide), _, _, rfl, rfl, _, _, rfl, rfl, .inr ⟨by decide, by decide⟩, _, _, rfl, rfl, (by show (0 : Int) < 2147483629; decide), ?_⟩
        refine ⟨_, rfl, _, _, rfl, rfl, .inr ⟨by decide, by decide⟩, _, _, rfl, rfl, (by show (0 : Int) < 2147483647; decide), _, rfl, _, _, rfl, rfl, ?_⟩
        refine ⟨_, rfl, _, _, rfl, rfl, .inr ⟨by decide, by decide⟩, _, rfl, _, _, rfl, rfl, ?_⟩
        exact ⟨_, _, _, rfl, rfl⟩
      · rintro σ H' ⟨n, m, y, rfl, rfl⟩
        exact ⟨_, rfl, (by show 1 ≤ sizeLine; decide), fun p hp => q p n hp⟩
    · exact ⟨_, rfl, (by show 1 ≤ sizeLine; decide), fun p hp => q p _ hp⟩
theorem scDigit : FnScope ["_law_left_here", "_law_many", "_law_found"] ["_law_left_here", "_law_many"] (defScope sDigit) := ⟨rfl, rfl, rfl, by decide +kernel, rfl, by decide +kernel, by decide +kernel⟩
theorem ok_digit {f : Addr} {fd : FuncData} {k : Nat} (F : Fun K "_law_digit" "_law_digit" sDigit f fd) : FnOk P w K mg base CX0 (k + 1) f fd ["_law_left_here", "_law_many"] spDigit := by
  refine F.ok scDigit (fun vs H Q E h => ?_) (fun cdv A outer s H vs Q E hr h => ?_)
  · obtain ⟨l, n, m, rfl, _⟩ := h
    rfl
  · obtain ⟨l, n, m, rfl, hl, hm, hmb, q⟩ := h
    refine ⟨_, pss_cons (ps_set (i := 2) scDigit.nd rfl (.inl rfl) (pe_op op_mod (pe_ix ix_list (pv 0) pe_int (fun _ _ => rfl)) (pv 1)))
      (pss_cons (ps_asg (pe_op op_fdivW (pe_ix ix_list (pv 0) pe_int (fun _ _ => rfl)) (pv 1)) (pg_sub (pv 0) pe_int set_list))
      (pss_one (ps_ret (pv 2)))), ?_⟩
    refine ⟨_, rfl, l, _, 0, .int n, rfl, rfl, SqL.of hl, atI_nat (j := 0) rfl, _, rfl, _, _, rfl, rfl, hm, ?_⟩
    refine ⟨_, rfl, l, _, 0, .int n, rfl, rfl, SqL.of hl, atI_nat (j := 0) rfl, _, rfl, _, _, rfl, rfl, wide_div hm hmb (by decide) (by decide), ?_⟩
    refine ⟨_, rfl, l, _, 0, 0, rfl, rfl, hl, rfl, ?_⟩
    exact ⟨_, rfl, q _ _ (Int.emod_nonneg _ (by omega)) (Int.emod_lt_of_pos _ hm)⟩
theorem scLow : FnScope ["_law_top", "_law_bottom", "_law_one", "_law_other"] ["_law_top", "_law_bottom"] (defScope sLow) := ⟨rfl, rfl, rfl, by decide +kernel, rfl, by decide +kernel, by decide +kernel⟩
theorem ok_low {f : Addr} {fd : FuncData} {k : Nat} (F : Fun K "_law_low" "_law_low" sLow f fd) (B : Blt mg) : FnOk P w K mg base CX0 (k + 1) f fd ["_law_top", "_law_bottom"] spLow := by
  refine F.ok scLow (fun vs H Q E h => ?_) (fun cdv A outer s H vs Q E hr h => ?_)
  · obtain ⟨a, b, n, rfl, _⟩ := h
    rfl
  · obtain ⟨t, b, n, rfl, ht, hb, h0, hn, q⟩ := h
    refine ⟨_, pss_cons (ps_set (i := 2) scLow.nd rfl (.inl rfl) (pe_callB call_abs (by rfl) B.abs_ (by decide +kernel) (pa_cons (pv 0) pa_nil)))
      (pss_cons (ps_set (i := 3) scLow.nd rfl (.inl rfl) (pe_callB call_abs (by rfl) B.abs_ (by decide +kernel) (pa_cons (pv 1) pa_nil)))
      (pss_cons (ps_while PassesOwn.never (pt_cmpR op_gt (pv 3) pe_int (nomark _))
        (pss_one (ps_par (i := 2) (j := 3) (by rfl) scLow.nd rfl rfl (by decide) rfl rfl (pa_cons (pv 3) (pa_cons (pe_op op_modN (pv 2) (pv 3)) pa_nil)) (by rfl))))
      (pss_cons (ps_if (pt_cmpR op_lt (pv 1) pe_int (nomark _)) (pss_one (ps_set (i := 2) scLow.nd rfl (.inl rfl) (pe_op op_sub pe_int (pv 2)))) pss_nil)
      (pss_one (ps_ret (pe_tup (pa_cons (pe_op op_fdivZ (pv 0) (pv 2)) (pa_cons (pe_op op_fdivZ (pv 1) (pv 2)) pa_nil)))))))), ?_⟩
    have hg := Fr.gcd_pos (t := t) h0
    have hgb := gcd_bd (t := t) h0 hb
    have hn0 : 0 < n := by
      cases n with
      | zero => simp at hb; omega
      | succ n => omega
    refine ⟨_, rfl, t, rfl, ?_⟩
    refine ⟨_, rfl, b, rfl, ?_⟩
    rw [abs_eq, abs_eq]
    refine ⟨fun m σ H' => ∃ x y : Int, σ = [some (.int t), some (.int b), some (.int x), some (.int y)] ∧ 0 ≤ x ∧ 0 ≤ y ∧ m = y.natAbs ∧ Int.gcd x y = Int.gcd t b ∧ H' = H,
      ⟨_, (t.natAbs : Int), (b.natAbs : Int), rfl, by omega, by omega, rfl, ?_, rfl⟩, ?_⟩
    · rw [Int.gcd, Int.gcd, Int.natAbs_natCast, Int.natAbs_natCast]
    rintro m σ H' ⟨x, y, rfl, hx, hy, rfl, hgg, rfl⟩
    refine ⟨_, rfl, y, 0, rfl, rfl, _, rfl, ite2 (fun c => ?_) (fun c => ?_)⟩
    · have hy0 : 0 < y := of_decide_eq_true c
      refine ⟨fun σ' H'' => ∃ x' y' : Int, σ' = [some (.int t), some (.int b), some (.int x'), some (.int y')] ∧ 0 ≤ x' ∧ 0 ≤ y' ∧ y'.natAbs < y.natAbs ∧ Int.gcd x' y' = Int.gcd t b ∧ H'' = H', ?_, ?_⟩
      · rintro σ' H'' ⟨x', y', e1, e2, e3, e4, e5, e6⟩
        exact ⟨y'.natAbs, e4, x', y', e1, e2, e3, rfl, e5, e6⟩
      · refine ⟨.int y, rfl, .int x, rfl, .int y, rfl, x, y, rfl, rfl, (by omega : y ≠ 0), _, _, rfl, y, _, rfl, hy, Int.fmod_nonneg_of_pos x hy0, Fr.fmod_abs x (by omega), ?_, rfl⟩
        rw [Fr.gcd_step]
        exact hgg
    · have hy0 : y = 0 := by
        have : ¬ 0 < y := of_decide_eq_false (Bool.eq_false_iff.mpr c)
        omega
      subst hy0
      rw [Int.gcd_zero_right] at hgg
      have ex : x = (Int.gcd t b : Int) := by omega
      subst ex
      refine ⟨_, rfl, b, 0, rfl, rfl, _, rfl, ite2 (fun c2 => ?_) (fun c2 => ?_)⟩
      · have hb0 : b < 0 := of_decide_eq_true c2
        refine ⟨_, rfl, 0, _, rfl, rfl, ?_⟩
        have d : ∀ i : Int, CDivZ i (0 - (Int.gcd t b : Int)) := fun i => divZ (n := n) (by omega) (by rw [Int.zero_sub, Int.natAbs_neg]; exact hgb) hn0 (by omega)
        refine ⟨_, rfl, _, rfl, t, _, rfl, rfl, d _, _, rfl, _, rfl, b, _, rfl, rfl, d _, (by show 2 ≤ sizeLine; decide), fun p hp => ?_⟩
        have z := q p hp
        rw [rp, ← Fr.lowN_num hb0, ← Fr.lowN_den hb0] at z
        rw [Int.zero_sub]
        exact z
      · have hb0 : 0 < b := by
          have : ¬ b < 0 := of_decide_eq_false (Bool.eq_false_iff.mpr c2)
          omega
        have d : ∀ i : Int, CDivZ i (Int.gcd t b : Int) := fun i => divZ (n := n) (by omega) hgb hn0 (by omega)
        refine ⟨_, rfl, _, rfl, t, _, rfl, rfl, d _, _, rfl, _, rfl, b, _, rfl, rfl, d _, (by show 2 ≤ sizeLine; decide), fun p hp => ?_⟩
        have z := q p hp
        rw [rp, ← Fr.low_num hb0, ← Fr.low_den hb0] at z
        exact z
theorem scLNum : FnScope ["_law_text_here", "_law_sign"] ["_law_text_here"] (defScope sLNum) := ⟨rfl, rfl, rfl, by decide +kernel, rfl, by decide +kernel, by decide +kernel⟩
theorem ok_LNum03 {f  : Addr} {fd  : FuncData} {k : Nat} (F : Fun K "_law_number" "_law_number" sLNum f fd) (nd : NoDg K)  (B : Blt mg) : FnOk P w K mg base CX0 (k + 1) f fd ["_law_text_here"] spNum03 := by
  refine F.ok scLNum (fun vs H Q E h => ?_) (fun cdv A outer s H vs Q E hr h => ?_)
  · obtain ⟨a, rfl, _⟩ := h
    rfl
  · obtain ⟨a, rfl, hl, hk0, q⟩ := h
    have hk := hr
    refine ⟨_, (pss_cons (ps_if (PW.pt (pw_or (pt_cmpR op_eq (pv 0) pe_str (nomark _)) (pw_or1 (pt_cmpR (op_neD hr.units) (pe_lc (own := [("_law_sign", 1)]) (g := gName 1) (tt := (tTest (tOp (fun x y H Q => ∃ (c : Nat) (z : Str), x = .str ⟨#[c]⟩ ∧ y = .str z ∧ Q (.bl (!decide (c ∈ z.cps.toList))) H) (tVar 1) (tC (.str "0123456789"))))) (te := (tVar 1)) rfl scLNum.nd (pi_str (pv 0)) (blkOk_by (N := ["_law_text_here", "_law_sign"]) (sc := defScope sLNum) (by decide +kernel)) (fun _ _ _ _ _ => (pg_name (i := 1) scLNum.nd rfl (Or.inl rfl))) (fun _ _ _ _ _ => (pts_one (pt_cmpR op_notIn_sign (pv 1) pe_str (by rfl)))) (fun _ _ _ _ _ => (pv 1))) (pe_lst pa_nil) (nomark _))))) (pss_one (ps_ret pe_non)) pss_nil)
      (pss_one (ps_ret (pe_callTy (T := "int") (call_int_any nd) (by rfl) B.int_ (by decide +kernel) (pa_cons (pv 0) pa_nil))))), ?_⟩
    have zz := szl
    refine ⟨_, rfl, rfl, _, rfl, ?_⟩
    by_cases c0 : a = Str.ofString ""
    · rw [decide_eq_true (show V.str a = V.str (Str.ofString "") by rw [c0])]
      refine iteT ?_
      have := q H (Same.refl _)
      rw [show tl a = [] by rw [c0]; rfl, show numW [] = none from rfl] at this
      exact this
    rw [decide_eq_false (show ¬ V.str a = V.str (Str.ofString "") from fun z => c0 (V.str.inj z))]
    refine iteF ?_
    have ne : tl a ≠ [] := fun z => c0 (tl_inj (z.trans rfl))
    refine ⟨_, rfl, a, rfl, fun D hD => lc_it (walk_str (z := a)) (fun i H' => H' D = some (.lst (odd ((tl a).take i))) ∧ Same H H') ⟨upd_same, same_new hD _⟩ (fun _ _ _ _ => trivial) ?_ ?_⟩
    · rintro i v H2 H3 hi ⟨hD2, s2⟩ ⟨rfl, c, ec, rfl⟩
      have et : (tl a)[i]? = some c := by
        have : a.cps.toList[i]? = some c := by rw [Array.getElem?_toList]; exact ec
        exact this
      have li : (tl a).length = a.length := (TL.len_tl a).symm
      have hi' : i < (tl a).length := (List.getElem?_eq_some_iff.mp et).1
      refine ⟨rfl, _, rfl, c, _, rfl, rfl, _, rfl, ?_⟩
      rw [dig_in]
      cases e : isD c with
      | false =>
        refine iteT ⟨_, rfl, _, hD2, ?_, ?_, fun b u eb => ?_⟩
        · unfold odd
          rw [List.length_map]
          have := List.length_filter_le (fun c => !isD c) ((tl a).take i)
          have := List.length_take_le i (tl a)
          exact small1000 (by omega)
        · rw [upd_same, take_succ_at et]
          unfold odd
          rw [List.filter_append, List.map_append]
          have : List.filter (fun c => !isD c) [c] = [c] := by simp [e]
          rw [this]
          rfl
        · rw [upd_ne (ne_of_none eb hD)]
          exact s2 _ _ eb
      | true =>
        refine iteF ⟨?_, s2⟩
        rw [hD2, take_succ_at et]
        unfold odd
        rw [List.filter_append]
        have : List.filter (fun c => !isD c) [c] = [] := by simp [e]
        rw [this, List.append_nil]
    rintro H' ⟨hD2, s2⟩
    rw [List.take_of_length_le (show (tl a).length ≤ a.cps.size from Nat.le_of_eq Array.length_toList)] at hD2
    refine ⟨(by show 0 ≤ sizeLine; decide), fun Z nZ => ?_⟩
    have s3 := same_new nZ (.lst [])
    refine ⟨dOdd ((tl a).filter fun c => !isD c), .list [], .lst (SqL.of (s3 _ _ hD2)) (dp_odd _), .lst (SqL.of upd_same) .nil, odd_shaped _ (fun c hc => hk0 c (List.mem_filter.mp hc).1), rfl, _, rfl, ?_⟩
    rw [eqv_odd]
    have sA := s2.trans s3
    cases ea : (tl a).all isD with
    | false =>
      have nn : ¬ ((tl a).filter fun c => !isD c) = [] := fun z => by
        have : odd (tl a) = [] := by unfold odd; rw [z]; rfl
        rw [odd_nil.mp this] at ea
        cases ea
      rw [decide_eq_false nn]
      refine iteT ?_
      have no : numW (tl a) = none := by unfold numW; rw [ea]; rfl
      have := q _ sA
      rw [no] at this
      exact this
    | true =>
      have nn : ((tl a).filter fun c => !isD c) = [] := by
        have := odd_nil.mpr ea
        unfold odd at this
        exact List.map_eq_nil_iff.mp this
      rw [decide_eq_true nn]
      refine iteF ?_
      have rd : intText? a = some ((NumText.digitsVal (tl a) : Nat) : Int) := intText_digits (dg_all ea) ne (by omega)
      have qq := q _ sA
      rw [show numW (tl a) = some (NumText.digitsVal (tl a)) by unfold numW; rw [ea, if_pos (by cases e9 : tl a with | nil => exact absurd e9 ne | cons _ _ => rfl)]] at qq
      exact ⟨_, rfl, a, _, rfl, rd, by omega, (fun c hc => by have := dg_all ea c hc; omega), qq⟩
theorem scLText : FnScope ["_law_one"] ["_law_one"] (defScope sLText) := ⟨rfl, rfl, rfl, by decide +kernel, rfl, by decide +kernel, by decide +kernel⟩
theorem ok_LText03 {f  : Addr} {fd  : FuncData} {k : Nat} (F : Fun K "_law_text" "_law_text" sLText f fd) (nd : NoDg K)  (B : Blt mg) : FnOk P w K mg base CX0 (k + 1) f fd ["_law_one"] (spLTxt03 K) := by
  refine F.ok scLText (fun vs H Q E h => ?_) (fun cdv A outer s H vs Q E hr h => ?_)
  · obtain ⟨a, q, n, rfl, _⟩ := h
    rfl
  · obtain ⟨a, q, n, rfl, ha, hb, h0, hn, q0⟩ := h
    refine ⟨_, (pss_cons (ps_if (pt_cmpR op_eq (pe_ix ix_tup (pv 0) pe_int (fun _ _ => rfl)) pe_int (nomark _)) (pss_one (ps_ret (pe_callTy (T := "str") (call_str_big nd (by rfl)) (by rfl) B.str_ (by decide +kernel) (pa_cons (pe_ix ix_tup (pv 0) pe_int (fun _ _ => rfl)) pa_nil)))) pss_nil)
      (pss_one (ps_ret (pe_op op_add_str (pe_op op_add_str (pe_callTy (T := "str") (call_str_big nd (by rfl)) (by rfl) B.str_ (by decide +kernel) (pa_cons (pe_ix ix_tup (pv 0) pe_int (fun _ _ => rfl)) pa_nil)) pe_str) (pe_callTy (T := "str") (call_str_big nd (by rfl)) (by rfl) B.str_ (by decide +kernel) (pa_cons (pe_ix ix_tup (pv 0) pe_int (fun _ _ => rfl)) pa_nil)))))), ?_⟩
    have zz := szl
    have b1 := sI_len hb.1 h0
    have b2 := sI_len (i := (q.den : Int)) hb.dn h0
    have y1 : (Str.ofString "/").length = 1 := rfl
    unfold shR at q0
    refine ⟨_, rfl, a, _, 1, .int (q.den : Int), rfl, rfl, ha, rfl, rfl, _, rfl, ?_⟩
    by_cases c : q.den = 1
    · rw [decide_eq_true (show V.int (q.den : Int) = V.int 1 by rw [c]; rfl)]
      rw [if_pos c] at q0
      exact iteT ⟨_, rfl, a, _, 0, .int q.num, rfl, rfl, ha, rfl, _, rfl, lt_big hb.1 hn, q0⟩
    · rw [decide_eq_false (show ¬ V.int (q.den : Int) = V.int 1 from fun z => c (by have := V.int.inj z; omega))]
      rw [if_neg c] at q0
      refine iteF ⟨_, rfl, a, _, 0, .int q.num, rfl, rfl, ha, rfl, _, rfl, lt_big hb.1 hn, _, _, rfl, rfl, ?_, _, rfl, a, _, 1, .int (q.den : Int), rfl, rfl, ha, rfl, _, rfl, lt_big hb.dn hn, _, _, rfl, rfl, ?_, q0⟩
      · unfold sI at b1; omega
      · simp only [app_len]; unfold sI at b1 b2; omega
theorem scLRatio : FnScope ["_law_left_here", "_law_size", "_law_top"] ["_law_left_here"] (defScope sLRatio) := ⟨rfl, rfl, rfl, by decide +kernel, rfl, by decide +kernel, by decide +kernel⟩
theorem ok_LRatio {f fD fL : Addr} {fd fdD fdL : FuncData} {k : Nat} (F : Fun K "_law_ratio" "_law_ratio" sLRatio f fd) (GD : FnOk P w K mg base CX0 k fD fdD ["_law_left_here", "_law_many"] spDigit) (kD : PySem.W.keepIn K (.ref fD) = true) (bD : Binds K fdD ["_law_left_here", "_law_many"] []) (gD : mg "_law_digit" = some (.ref fD)) (GL : FnOk P w K mg base CX0 k fL fdL ["_law_top", "_law_bottom"] spLow) (kL : PySem.W.keepIn K (.ref fL) = true) (bL : Binds K fdL ["_law_top", "_law_bottom"] []) (gL : mg "_law_low" = some (.ref fL)) : FnOk P w K mg base CX0 (k + 1) f fd ["_law_left_here"] (spLRatio03 K) := by
  refine F.ok scLRatio (fun vs H Q E h => ?_) (fun cdv A outer s H vs Q E hr h => ?_)
  · obtain ⟨l, z, rfl, _⟩ := h
    rfl
  · obtain ⟨l, z, rfl, hl, q⟩ := h
    refine ⟨_, (pss_cons (ps_set (i := 1) scLRatio.nd rfl (.inl rfl) (pe_ix ix_list (pe_lst (pa_cons pe_int (pa_cons pe_int (pa_cons pe_int (pa_cons (pe_op op_pow pe_int pe_int) (pa_cons (pe_op op_pow pe_int pe_int) pa_nil)))))) (pe_call GD hr (by rfl) gD kD bD .nil pass0 (pa_cons (pv 0) (pa_cons pe_int pa_nil))) (fun _ _ => rfl)))
      (pss_cons (ps_set (i := 2) scLRatio.nd rfl (.inl rfl) (pe_op op_mul (pe_call GD hr (by rfl) gD kD bD .nil pass0 (pa_cons (pv 0) (pa_cons (pv 1) pa_nil))) (pe_op op_sub pe_int (pe_op op_mul pe_int (pe_call GD hr (by rfl) gD kD bD .nil pass0 (pa_cons (pv 0) (pa_cons pe_int pa_nil)))))))
      (pss_one (ps_ret (pe_call GL hr (by rfl) gL kL bL .nil pass0 (pa_cons (pv 2) (pa_cons (pe_op op_add pe_int (pe_call GD hr (by rfl) gD kD bD .nil pass0 (pa_cons (pv 0) (pa_cons (pe_ix ix_list (pe_lst (pa_cons pe_int (pa_cons pe_int (pa_cons pe_int (pa_cons (pe_op op_sub (pe_op op_pow pe_int pe_int) pe_int) pa_nil))))) (pe_call GD hr (by rfl) gD kD bD .nil pass0 (pa_cons (pv 0) (pa_cons pe_int pa_nil))) (fun _ _ => rfl)) pa_nil)))) pa_nil))))))), ?_⟩
    have cp : CPow 10 9 := ⟨by decide, by decide, by decide⟩
    have cq : CPow 10 30 := ⟨by decide, by decide, by decide⟩
    refine ⟨10, 9, rfl, rfl, cp, 10, 30, rfl, rfl, cq, (by show 5 ≤ sizeLine; decide), fun p np => ?_⟩
    have pl : p ≠ l := fun z => by rw [z, hl] at np; cases np
    have sb := SameB.of (ex := l) (same_new np (.lst [V.int 10, V.int 10, V.int 100, V.int (10 ^ (9 : Int).toNat), V.int (10 ^ (30 : Int).toNat)]))
    have ep : (upd H p (.lst [V.int 10, V.int 10, V.int 100, V.int (10 ^ (9 : Int).toNat), V.int (10 ^ (30 : Int).toNat)])) p = some (.lst [V.int 10, V.int 10, V.int 100, V.int (10 ^ (9 : Int).toNat), V.int (10 ^ (30 : Int).toNat)]) := upd_same
    have hl : (upd H p (.lst [V.int 10, V.int 10, V.int 100, V.int (10 ^ (9 : Int).toNat), V.int (10 ^ (30 : Int).toNat)])) l = some (.lst [.int z]) := (upd_ne (Ne.symm pl)).trans hl
    generalize upd H p (.lst [V.int 10, V.int 10, V.int 100, V.int (10 ^ (9 : Int).toNat), V.int (10 ^ (30 : Int).toNat)]) = H1 at sb ep hl ⊢
    refine ⟨_, rfl, l, z, 5, rfl, hl, by decide, by decide, fun d z1 d0 d5 => ?_⟩
    obtain ⟨v, ev, hv⟩ := tab_a (x := 0) d0 d5 (show (0 : Int) < 10 ^ (9 : Int).toNat by decide) (show (0 : Int) < 10 ^ (30 : Int).toNat by decide)
    have ep : (upd H1 l (.lst [.int z1])) p = _ := (upd_ne pl).trans ep
    have sb := sb.trans (SameB.upd (o := .lst [.int z1]))
    have hl : (upd H1 l (.lst [.int z1])) l = some (.lst [.int z1]) := upd_same
    generalize upd H1 l (.lst [.int z1]) = H2 at sb ep hl ⊢
    have vb : 0 < v ∧ v ≤ 10 ^ 30 ∧ v.natAbs < 2 ^ 200 := by
      rcases hv with rfl | rfl | rfl | rfl <;> exact ⟨by decide, by decide, by decide⟩
    refine ⟨p, _, d, .int v, rfl, rfl, SqL.of ep, ev, ?_⟩
    clear ep pl ev hv np
    refine ⟨_, rfl, _, rfl, l, z1, v, rfl, hl, vb.1, vb.2.2, fun t z2 t0 tv => ?_⟩
    have sb := sb.trans (SameB.upd (o := .lst [.int z2]))
    have hl : (upd H2 l (.lst [.int z2])) l = some (.lst [.int z2]) := upd_same
    generalize upd H2 l (.lst [.int z2]) = H3 at sb hl ⊢
    refine ⟨_, rfl, l, z2, 2, rfl, hl, by decide, by decide, fun s z3 s0 s2 => ⟨2, s, rfl, rfl, .inl ⟨by decide, by decide⟩, 1, 2 * s, rfl, rfl, t, 1 - 2 * s, rfl, rfl, .inr ⟨by omega, by omega⟩, ?_⟩⟩
    have sb := sb.trans (SameB.upd (o := .lst [.int z3]))
    have hl : (upd H3 l (.lst [.int z3])) l = some (.lst [.int z3]) := upd_same
    generalize upd H3 l (.lst [.int z3]) = H4 at sb hl ⊢
    have ht : (t * (1 - 2 * s)).natAbs < 2 ^ 101 := by
      have h1 : (1 - 2 * s).natAbs = 1 := by omega
      have h2 : t.natAbs ≤ 10 ^ 30 := by omega
      rw [Int.natAbs_mul, h1, Nat.mul_one]
      exact Nat.lt_of_le_of_lt h2 (by decide)
    refine ⟨_, rfl, _, rfl, 10, 30, rfl, rfl, cq, _, 1, rfl, rfl, (by show 4 ≤ sizeLine; decide), fun p np => ?_⟩
    have pl : p ≠ l := fun z => by rw [z, hl] at np; cases np
    have sb := sb.trans (SameB.of (ex := l) (same_new np (.lst [V.int 1, V.int 9, V.int 100, V.int (10 ^ (30 : Int).toNat - 1)])))
    have ep : (upd H4 p (.lst [V.int 1, V.int 9, V.int 100, V.int (10 ^ (30 : Int).toNat - 1)])) p = some (.lst [V.int 1, V.int 9, V.int 100, V.int (10 ^ (30 : Int).toNat - 1)]) := upd_same
    have hl : (upd H4 p (.lst [V.int 1, V.int 9, V.int 100, V.int (10 ^ (30 : Int).toNat - 1)])) l = some (.lst [.int z3]) := (upd_ne (Ne.symm pl)).trans hl
    generalize upd H4 p (.lst [V.int 1, V.int 9, V.int 100, V.int (10 ^ (30 : Int).toNat - 1)]) = H5 at sb ep hl ⊢
    refine ⟨_, rfl, l, z3, 4, rfl, hl, by decide, by decide, fun d2 z4 e0 e4 => ?_⟩
    obtain ⟨u, eu, hu⟩ := tab_b (w := 10 ^ (30 : Int).toNat - 1) e0 e4
    have ep : (upd H5 l (.lst [.int z4])) p = _ := (upd_ne pl).trans ep
    have sb := sb.trans (SameB.upd (o := .lst [.int z4]))
    have hl : (upd H5 l (.lst [.int z4])) l = some (.lst [.int z4]) := upd_same
    generalize upd H5 l (.lst [.int z4]) = H6 at sb ep hl ⊢
    have ub : 0 < u ∧ u < 10 ^ 30 ∧ u.natAbs < 2 ^ 200 := by
      rcases hu with rfl | rfl | rfl | rfl <;> exact ⟨by decide, by decide, by decide⟩
    refine ⟨p, _, d2, .int u, rfl, rfl, SqL.of ep, eu, l, z4, u, rfl, hl, ub.1, ub.2.2, fun e z5 f0 f1 => ⟨1, e, rfl, rfl, _, 1 + e, 101, rfl, ht, ?_, by omega, by decide, fun p2 np2 => ?_⟩⟩
    · have : (1 + e).natAbs ≤ 10 ^ 30 := by omega
      exact Nat.lt_of_le_of_lt this (by decide)
    have hb : (1 + e).natAbs < 2 ^ 101 := by
      have : (1 + e).natAbs ≤ 10 ^ 30 := by omega
      exact Nat.lt_of_le_of_lt this (by decide)
    have hl2 : (upd H6 l (.lst [.int z5])) l = some (.lst [.int z5]) := upd_same
    exact q p2 _ z5 _ ((sb.trans (SameB.upd (o := .lst [.int z5]))).trans (SameB.of (same_new np2 _))) (same_new np2 _ _ _ hl2) (SqT.of upd_same) (Fr.bd_low ht hb (by omega))
end
end K03

set_option Elab.async false
set_option linter.all false
set_option maxRecDepth 100000
set_option maxHeartbeats 4000000
/-! a fraction's text, cut at its slash, its dash taken away -/
namespace Nt
open PySem PySem.Spec PyProof.Rows L2 BX EXB Co Ru
open TL (tl numL)
open Fr (Bd)
theorem numW_num (n : Nat) : numW (numL n) = some n := by
  obtain ⟨a, b⟩ := fig_parts (fig_num n)
  unfold numW
  rw [a, TL.numL_val]
  cases e : numL n with
  | nil => exact absurd e b
  | cons c l => rfl
theorem numW_abs (i : Int) : numW (tl (rep1 (sI i) dash Str.empty)) = some i.natAbs := by
  rcases int_two i with ⟨n, rfl⟩ | ⟨n, rfl⟩
  · rw [rep1_none (x := sI (n : Int)) (by show 45 ∉ iL (n : Int); rw [iL_nat]; exact numL_no (by decide))]
    show numW (iL (n : Int)) = _
    rw [iL_nat, numW_num, Int.natAbs_natCast]
  · rw [rep1_minus (x := sI (-((n + 1 : Nat) : Int))) (l := numL (n + 1)) (iL_neg n) (numL_no (by decide)), numW_num]
    congr 1
theorem split_sh (q : Rat) : (q.den = 1 ∧ Txt.split (shR q) (Str.ofString "/") = [sI q.num]) ∨ (q.den ≠ 1 ∧ Txt.split (shR q) (Str.ofString "/") = [sI q.num, sI (q.den : Int)]) := by
  by_cases c : q.den = 1
  · refine .inl ⟨c, TL.map_tl_inj ?_⟩
    rw [split_sl, txt1 c, sl_none (iL_no (by decide) (by decide))]
    rfl
  · refine .inr ⟨c, TL.map_tl_inj ?_⟩
    rw [split_sl, txt2 c, sl_cons (iL_no (by decide) (by decide)), sl_none (numL_no (by decide))]
    show _ = [iL q.num, iL (q.den : Int)]
    rw [iL_nat]
/-- what a law finds of the parts -/
def dueT (ws : List Str) : Option Nat := match ws with | w :: _ => numW (tl (rep1 w dash Str.empty)) | [] => none
def dueB (ws : List Str) : Option Nat := match ws with | [_, w] => numW (tl w) | _ => some 1
theorem sign_of {q : Rat} : Rat.divInt (q.num.natAbs : Int) (q.den : Int) = q ∨ Rat.divInt (-(q.num.natAbs : Int)) (q.den : Int) = q := by
  by_cases h : 0 ≤ q.num
  · refine .inl ?_
    rw [Int.natAbs_of_nonneg h]
    exact Rat.num_divInt_den q
  · refine .inr ?_
    rw [show -(q.num.natAbs : Int) = q.num by omega]
    exact Rat.num_divInt_den q
theorem due_sh {a : Str} {q : Rat} (h : rdR a = some q) : (Txt.split a (Str.ofString "/")).length ≤ 2 ∧ dueT (Txt.split a (Str.ofString "/")) = some q.num.natAbs ∧ dueB (Txt.split a (Str.ofString "/")) = some q.den := by
  have e := rd_some h
  rw [e]
  rcases split_sh q with ⟨c, w⟩ | ⟨c, w⟩
  · rw [w]
    refine ⟨(by show 1 ≤ 2; decide), numW_abs _, ?_⟩
    show some 1 = some q.den
    rw [c]
  · rw [w]
    refine ⟨(by show 2 ≤ 2; decide), numW_abs _, ?_⟩
    show numW (iL (q.den : Int)) = _
    rw [iL_nat, numW_num]
theorem numW_bd {w : Str} {n : Nat} (h : numW (tl w) = some n) (hl : w.length ≤ 900) : n < 2 ^ 3600 := by
  unfold numW at h
  split at h
  · rename_i c
    cases h
    rw [Bool.and_eq_true] at c
    have h1 := val_lt _ (tl w) rfl (dg_all c.1)
    have h2 := ten_le (tl w).length
    refine Nat.lt_of_lt_of_le (Nat.lt_of_lt_of_le h1 h2) (Nat.pow_le_pow_right (by decide) ?_)
    have : (tl w).length = w.length := (TL.len_tl w).symm
    omega
  · cases h
def spDue03 (K : PySem.W.Frag) : Sp := fun vs H Q _ => ∃ v : V, vs = [v] ∧ ((NoStr K H v ∧ Q .non H) ∨ ∃ a : Str, v = .str a ∧ a.length ≤ 900 ∧ Okc (tl a) ∧ (∀ q p H', rdR a = some q → Same H H' → SqT K H' p (rp q) → Q (.ref p) H') ∧ (rdR a = none → ∀ H', Same H H' → Q .non H'))
end Nt

set_option Elab.async false
set_option linter.all false
set_option maxRecDepth 100000
set_option maxHeartbeats 16000000
namespace K03
open PySem PySem.Spec PyProof.Rows L2 BX EXB Co Ru
open Dz Cs Hr Gs Nt
open Rs (Rsp Rv Ret tYes_of dV datR Flat Okr spShares spRowsL spTotal spCopied eqv_dR)
open Fr (Bd)
open TL (tl numL)
def sg (i : Nat) : Int := if i = 0 then 1 else -1
section
variable {P : Program} {w : World} {K : PySem.W.Frag} {mg : Str → Option Value} {base : Heap}
theorem scDue03 : FnScope ["_law_text_here", "_law_words", "_law_top", "_law_bottom", "_law_sign"] ["_law_text_here"] (defScope sDue03) := ⟨rfl, rfl, rfl, by decide +kernel, rfl, by decide +kernel, by decide +kernel⟩
theorem ok_Due03 {f fN fT fL : Addr} {fd fdN fdT fdL : FuncData} {k : Nat} (F : Fun K "_law_due" "_law_due" sDue03 f fd) (GN : FnOk P w K mg base CX0 k fN fdN ["_law_text_here"] spNum03) (kN : PySem.W.keepIn K (.ref fN) = true) (bN : Binds K fdN ["_law_text_here"] []) (gN : mg "_law_number" = some (.ref fN)) (GT : FnOk P w K mg base CX0 k fT fdT ["_law_one"] (spLTxt03 K)) (kT : PySem.W.keepIn K (.ref fT) = true) (bT : Binds K fdT ["_law_one"] []) (gT : mg "_law_text" = some (.ref fT)) (GL : FnOk P w K mg base CX0 k fL fdL ["_law_top", "_law_bottom"] spLow) (kL : PySem.W.keepIn K (.ref fL) = true) (bL : Binds K fdL ["_law_top", "_law_bottom"] []) (gL : mg "_law_low" = some (.ref fL)) (B : Blt mg) : FnOk P w K mg base CX0 (k + 2) f fd ["_law_text_here"] (spDue03 K) := by
  refine F.ok scDue03 (fun vs H Q E h => ?_) (fun cdv A outer s H vs Q E hr h => ?_)
  · obtain ⟨v, rfl, _⟩ := h
    rfl
  · obtain ⟨v, rfl, h⟩ := h
    have hk : Room k _ := hr.mono (by omega)
    refine ⟨_, (pss_cons (ps_if (pt_not (pt_val (pe_callB call_isi (by rfl) B.isinstance_ (by decide +kernel) (pa_cons (pv 0) (pa_cons (pe_bltn (v := .ty "str") (by rfl) B.str_ (by decide +kernel) rfl) pa_nil))))) (pss_one (ps_ret pe_non)) pss_nil)
      (CwR.pss_splitT (i := 1) scDue03.nd rfl (.inl rfl) (pv 0) (psst_cons (CwR.pst_set (i := 2) scDue03.nd rfl (.inl rfl) (CwR.pet_call1 GN hk (by rfl) gN kN bN pass0 (pat_cons (CwR.pet_rep1 (pe_ix ix_list (pv 1) pe_int (fun _ _ => rfl))) pat_nil))) (PSsT.of (pss_cons (ps_set (i := 3) scDue03.nd rfl (.inl rfl) pe_int)
      (pss_cons (ps_if (pt_cmpR op_eq (pe_callB call_len_seq (by rfl) B.len_ PySem.boot_len (pa_cons (pv 1) pa_nil)) pe_int (nomark _)) (pss_one (ps_set (i := 3) scDue03.nd rfl (.inl rfl) (pe_call GN hk (by rfl) gN kN bN .nil pass0 (pa_cons (pe_ix ix_list (pv 1) pe_int (fun _ _ => rfl)) pa_nil)))) pss_nil)
      (pss_cons (ps_if (PW.pt (pw_or (pt_cmpR op_gt (pe_callB call_len_seq (by rfl) B.len_ PySem.boot_len (pa_cons (pv 1) pa_nil)) pe_int (nomark _)) (pw_or (pt_cmpR op_isN (pv 2) pe_non (nomark _)) (pw_or1 (pt_not (pt_truth (pv 3) (by intro _; rfl))))))) (pss_one (ps_ret pe_non)) pss_nil)
      (pss_cons (ps_for PassesOwn.never rfl (pi_tup (pe_tup (pa_cons pe_int (pa_cons (pe_un un_neg pe_int) pa_nil)))) (pg_name (i := 4) scDue03.nd rfl (.inl rfl)) (pss_one (ps_if (pt_cmpR op_eq (pe_call GT hk (by rfl) gT kT bT .nil pass0 (pa_cons (pe_call GL hk (by rfl) gL kL bL .nil pass0 (pa_cons (pe_op op_mul (pv 4) (pv 2)) (pa_cons (pv 3) pa_nil))) pa_nil)) (pv 0) (nomark _)) (pss_one (ps_ret (pe_call GL hk (by rfl) gL kL bL .nil pass0 (pa_cons (pe_op op_mul (pv 4) (pv 2)) (pa_cons (pv 3) pa_nil))))) pss_nil)))
      (pss_one (ps_ret pe_non)))))))))), ?_⟩
    rcases h with ⟨⟨tv, ty, kt⟩, q⟩ | ⟨a, rfl, hl, hk0, qs, qn⟩
    · exact ⟨_, rfl, _, _, _, _, false, rfl, .ty "str", ty, kt, _, rfl, iteT q⟩
    refine ⟨_, rfl, _, _, _, _, true, rfl, .ty "str", .base (.str a), kit_ty (by rfl), _, rfl, iteF ?_⟩
    have zz := szl
    refine ⟨_, rfl, ⟨_, rfl⟩, a, _, rfl, rfl, rfl, by omega, fun p np => ?_⟩
    have ds := fun q h => due_sh (a := a) (q := q) h
    have hlen : (Txt.split a (Str.ofString "/")).length ≤ 902 := by have := PyProof.Rows.split_le a (Str.ofString "/"); omega
    have wl : ∀ w ∈ Txt.split a (Str.ofString "/"), w.length ≤ 900 := fun w hw => Nat.le_trans (split_le' (a := a) (b := Str.ofString "/") (by show [47] ≠ []; decide) (by decide +kernel) w hw) hl
    have okc : ∀ w ∈ Txt.split a (Str.ofString "/"), Okc (tl w) := fun w hw => okc_part hk0 hw
    have wne : Txt.split a (Str.ofString "/") ≠ [] := fun z => by
      have := split_sl a
      rw [z] at this
      exact sl_ne _ (tl a) (Nat.le_refl _) this.symm
    have s1 := same_new np (.lst ((Txt.split a (Str.ofString "/")).map V.str))
    have ep : (upd H p (.lst ((Txt.split a (Str.ofString "/")).map V.str))) p = some (.lst ((Txt.split a (Str.ofString "/")).map V.str)) := upd_same
    generalize upd H p (.lst ((Txt.split a (Str.ofString "/")).map V.str)) = H1 at s1 ep ⊢
    generalize Txt.split a (Str.ofString "/") = ws at ds hlen wl okc wne ep ⊢
    obtain ⟨w, wr, rfl⟩ : ∃ w wr, ws = w :: wr := by cases ws with | nil => exact absurd rfl wne | cons w wr => exact ⟨w, wr, rfl⟩
    have rl := rep1_le w
    have ww := wl w (List.mem_cons_self ..)
    refine ⟨_, rfl, p, _, 0, .str w, rfl, rfl, SqL.of ep, atI_nat (j := 0) rfl, w, rfl, by omega, rep1 w dash Str.empty, rfl, by omega, fun c hc => okc w (List.mem_cons_self ..) c (rep1_sub w c hc), fun H2 s2 => ?_⟩
    have ep := s2 _ _ ep
    have s12 := s1.trans s2
    clear s1 s2
    have tb : ∀ n, numW (tl (rep1 w dash Str.empty)) = some n → n < 2 ^ 3600 := fun n h => numW_bd h (by omega)
    have rn : (∀ q, rdR a = some q → False) → rdR a = none := fun h => by
      cases e : rdR a with
      | none => rfl
      | some q => exact absurd e (fun z => h q z)
    match wr with
    | [] =>
      refine ⟨_, rfl, p, _, rfl, .inl (SqL.of ep), rfl, _, rfl, ?_⟩
      rw [decide_eq_false (show ¬ V.int (((([w] : List Str).map V.str)).length : Int) = V.int 2 from fun z => by cases z)]
      refine iteF ?_
      refine ⟨_, rfl, p, _, rfl, .inl (SqL.of ep), _, _, rfl, rfl, _, rfl, ?_⟩
      rw [decide_eq_false (show ¬ (2 : Int) < ((([w] : List Str).map V.str).length : Int) by show ¬ (2 : Int) < 1; omega)]
      refine iteF ?_
      cases et : numW (tl (rep1 w dash Str.empty)) with
      | none =>
        refine ⟨_, rfl, rfl, _, rfl, iteT ?_⟩
        exact qn (rn fun q h => by have := (ds q h).2.1; rw [show dueT (w :: []) = numW (tl (rep1 w dash Str.empty)) from rfl, et] at this; cases this) _ s12
      | some n =>
      refine ⟨_, rfl, rfl, _, rfl, iteF ?_⟩
      have nb := tb n et
      have hB : dueB [w] = some 1 := rfl
      have mb : 1 < 2 ^ 3600 := Nat.one_lt_two_pow (by decide)
      have m0 : (1 : Nat) ≠ 0 := by decide
      refine ⟨_, rfl, true, rfl, iteF ?_⟩
      refine ⟨1, rfl, (by show 2 ≤ sizeLine; decide), fun tp ntp => ?_⟩
      have s3 := same_new ntp (.tup [V.int 1, V.int (-1)])
      have etp : SqT K (upd H2 tp (.tup [V.int 1, V.int (-1)])) tp [V.int 1, V.int (-1)] := SqT.of upd_same
      generalize upd H2 tp (.tup [V.int 1, V.int (-1)]) = H3 at s3 etp ⊢
      have s13 := s12.trans s3
      refine ⟨tp, rfl, ⟨_, etp⟩, for_tup (K := K) (a := tp) (xs := [V.int 1, V.int (-1)]) (fun i σ H' => ∃ y4 : Option V, σ = [some (.str a), some (.ref p), some (.int (n : Int)), some (.int ((1 : Nat) : Int)), y4] ∧ Same H3 H' ∧ ∀ j, j < i → shR (Rat.divInt (sg j * (n : Int)) ((1 : Nat) : Int)) ≠ a) ⟨_, rfl, Same.refl _, fun j h => absurd h (Nat.not_lt_zero _)⟩ (fun i σ H' _ ⟨_, _, s, _⟩ => seqT s etp) ?_ ?_⟩
      · rintro i x σ H4 hi ⟨y4, rfl, s4, hn⟩
        have i2 : i < 2 := (List.getElem?_eq_some_iff.mp hi).1
        have ex : x = .int (sg i) := by
          match i, i2, hi with
          | 0, _, hi => cases hi; rfl
          | 1, _, hi => cases hi; rfl
        subst ex
        have sgb : (sg i).natAbs = 1 := by unfold sg; split <;> rfl
        have tb1 : (sg i * (n : Int)).natAbs < 2 ^ 3600 := by rw [Int.natAbs_mul, sgb, Nat.one_mul, Int.natAbs_natCast]; exact nb
        have tb2 : (((1 : Nat) : Int)).natAbs < 2 ^ 3600 := by rw [Int.natAbs_natCast]; exact mb
        have cm : CMul (sg i) (n : Int) := .inl ⟨by omega, by omega⟩
        refine ⟨_, rfl, _, rfl, sg i, n, rfl, rfl, cm, _, rfl, sg i * (n : Int), ((1 : Nat) : Int), 3600, rfl, tb1, tb2, by omega, by decide, fun t nt => ?_⟩
        have s5 := same_new nt (.tup (rp (Rat.divInt (sg i * (n : Int)) ((1 : Nat) : Int))))
        refine ⟨t, _, 3600, rfl, SqT.of upd_same, Fr.bd_low tb1 tb2 (by omega), by decide, by decide, _, rfl, rfl, _, rfl, ?_⟩
        by_cases c : shR (Rat.divInt (sg i * (n : Int)) ((1 : Nat) : Int)) = a
        · rw [decide_eq_true (show V.str (shR (Rat.divInt (sg i * (n : Int)) ((1 : Nat) : Int))) = V.str a by rw [c])]
          refine iteT ⟨_, rfl, _, rfl, sg i, n, rfl, rfl, cm, _, rfl, sg i * (n : Int), ((1 : Nat) : Int), 3600, rfl, tb1, tb2, by omega, by decide, fun t2 nt2 => ?_⟩
          exact qs _ t2 _ (by rw [← c]; exact rd_sh _) (((s13.trans s4).trans s5).trans (same_new nt2 _)) (SqT.of upd_same)
        · rw [decide_eq_false (show ¬ V.str (shR (Rat.divInt (sg i * (n : Int)) ((1 : Nat) : Int))) = V.str a from fun z => c (V.str.inj z))]
          refine iteF ⟨_, rfl, s4.trans s5, fun j hj => ?_⟩
          by_cases e : j = i
          · rw [e]; exact c
          · exact hn j (by omega)
      rintro σ H4 ⟨y4, rfl, s4, hn⟩
      refine qn (rn fun q h => ?_) _ (s13.trans s4)
      obtain ⟨_, e1, e2⟩ := ds q h
      rw [show dueT (w :: []) = numW (tl (rep1 w dash Str.empty)) from rfl, et] at e1
      rw [hB] at e2
      have e1 := Option.some.inj e1
      have e2 := Option.some.inj e2
      have ea := rd_some h
      rcases sign_of (q := q) with z | z
      · refine hn 0 (by decide) ?_
        rw [show sg 0 * (n : Int) = (q.num.natAbs : Int) by rw [← e1]; exact Int.one_mul _, show ((1 : Nat) : Int) = (q.den : Int) by rw [e2], z, ea]
      · refine hn 1 (by decide) ?_
        rw [show sg 1 * (n : Int) = -(q.num.natAbs : Int) by rw [← e1]; show -1 * (n : Int) = _; omega, show ((1 : Nat) : Int) = (q.den : Int) by rw [e2], z, ea]
    | [w1] =>
      have w1l := wl w1 (by simp)
      refine ⟨_, rfl, p, _, rfl, .inl (SqL.of ep), rfl, _, rfl, ?_⟩
      rw [decide_eq_true (show V.int (((([w, w1] : List Str).map V.str)).length : Int) = V.int 2 from rfl)]
      refine iteT ?_
      refine ⟨_, rfl, p, _, 1, .str w1, rfl, rfl, SqL.of ep, atI_nat (j := 1) rfl, w1, rfl, w1l, okc w1 (by simp), fun H2' s2' => ?_⟩
      have ep := s2' _ _ ep
      have s12 := s12.trans s2'
      clear s2'
      refine ⟨_, rfl, p, _, rfl, .inl (SqL.of ep), _, _, rfl, rfl, _, rfl, ?_⟩
      rw [decide_eq_false (show ¬ (2 : Int) < ((([w, w1] : List Str).map V.str).length : Int) by show ¬ (2 : Int) < 2; omega)]
      refine iteF ?_
      cases et : numW (tl (rep1 w dash Str.empty)) with
      | none =>
        refine ⟨_, rfl, rfl, _, rfl, iteT ?_⟩
        exact qn (rn fun q h => by have := (ds q h).2.1; rw [show dueT (w :: [w1]) = numW (tl (rep1 w dash Str.empty)) from rfl, et] at this; cases this) _ s12
      | some n =>
      refine ⟨_, rfl, rfl, _, rfl, iteF ?_⟩
      have nb := tb n et
      cases eb : numW (tl w1) with
      | none =>
        refine ⟨_, rfl, false, rfl, iteT ?_⟩
        exact qn (rn fun q h => by have := (ds q h).2.2; rw [show dueB [w, w1] = numW (tl w1) from rfl, eb] at this; cases this) _ s12
      | some m =>
      have hB : dueB [w, w1] = some m := eb
      have mb := numW_bd eb w1l
      by_cases m0 : m = 0
      · subst m0
        refine ⟨_, rfl, false, rfl, iteT ?_⟩
        exact qn (rn fun q h => by have := (ds q h).2.2; rw [hB] at this; have := Option.some.inj this; have := q.den_pos; omega) _ s12
      refine ⟨_, rfl, true, (by show true = ((m : Int) != 0); simp; omega), iteF ?_⟩
      refine ⟨1, rfl, (by show 2 ≤ sizeLine; decide), fun tp ntp => ?_⟩
      have s3 := same_new ntp (.tup [V.int 1, V.int (-1)])
      have etp : SqT K (upd H2' tp (.tup [V.int 1, V.int (-1)])) tp [V.int 1, V.int (-1)] := SqT.of upd_same
      generalize upd H2' tp (.tup [V.int 1, V.int (-1)]) = H3 at s3 etp ⊢
      have s13 := s12.trans s3
      refine ⟨tp, rfl, ⟨_, etp⟩, for_tup (K := K) (a := tp) (xs := [V.int 1, V.int (-1)]) (fun i σ H' => ∃ y4 : Option V, σ = [some (.str a), some (.ref p), some (.int (n : Int)), some (.int (m : Int)), y4] ∧ Same H3 H' ∧ ∀ j, j < i → shR (Rat.divInt (sg j * (n : Int)) (m : Int)) ≠ a) ⟨_, rfl, Same.refl _, fun j h => absurd h (Nat.not_lt_zero _)⟩ (fun i σ H' _ ⟨_, _, s, _⟩ => seqT s etp) ?_ ?_⟩
      · rintro i x σ H4 hi ⟨y4, rfl, s4, hn⟩
        have i2 : i < 2 := (List.getElem?_eq_some_iff.mp hi).1
        have ex : x = .int (sg i) := by
          match i, i2, hi with
          | 0, _, hi => cases hi; rfl
          | 1, _, hi => cases hi; rfl
        subst ex
        have sgb : (sg i).natAbs = 1 := by unfold sg; split <;> rfl
        have tb1 : (sg i * (n : Int)).natAbs < 2 ^ 3600 := by rw [Int.natAbs_mul, sgb, Nat.one_mul, Int.natAbs_natCast]; exact nb
        have tb2 : ((m : Int)).natAbs < 2 ^ 3600 := by rw [Int.natAbs_natCast]; exact mb
        have cm : CMul (sg i) (n : Int) := .inl ⟨by omega, by omega⟩
        refine ⟨_, rfl, _, rfl, sg i, n, rfl, rfl, cm, _, rfl, sg i * (n : Int), m, 3600, rfl, tb1, tb2, by omega, by decide, fun t nt => ?_⟩
        have s5 := same_new nt (.tup (rp (Rat.divInt (sg i * (n : Int)) (m : Int))))
        refine ⟨t, _, 3600, rfl, SqT.of upd_same, Fr.bd_low tb1 tb2 (by omega), by decide, by decide, _, rfl, rfl, _, rfl, ?_⟩
        by_cases c : shR (Rat.divInt (sg i * (n : Int)) (m : Int)) = a
        · rw [decide_eq_true (show V.str (shR (Rat.divInt (sg i * (n : Int)) (m : Int))) = V.str a by rw [c])]
          refine iteT ⟨_, rfl, _, rfl, sg i, n, rfl, rfl, cm, _, rfl, sg i * (n : Int), m, 3600, rfl, tb1, tb2, by omega, by decide, fun t2 nt2 => ?_⟩
          exact qs _ t2 _ (by rw [← c]; exact rd_sh _) (((s13.trans s4).trans s5).trans (same_new nt2 _)) (SqT.of upd_same)
        · rw [decide_eq_false (show ¬ V.str (shR (Rat.divInt (sg i * (n : Int)) (m : Int))) = V.str a from fun z => c (V.str.inj z))]
          refine iteF ⟨_, rfl, s4.trans s5, fun j hj => ?_⟩
          by_cases e : j = i
          · rw [e]; exact c
          · exact hn j (by omega)
      rintro σ H4 ⟨y4, rfl, s4, hn⟩
      refine qn (rn fun q h => ?_) _ (s13.trans s4)
      obtain ⟨_, e1, e2⟩ := ds q h
      rw [show dueT (w :: [w1]) = numW (tl (rep1 w dash Str.empty)) from rfl, et] at e1
      rw [hB] at e2
      have e1 := Option.some.inj e1
      have e2 := Option.some.inj e2
      have ea := rd_some h
      rcases sign_of (q := q) with z | z
      · refine hn 0 (by decide) ?_
        rw [show sg 0 * (n : Int) = (q.num.natAbs : Int) by rw [← e1]; exact Int.one_mul _, show (m : Int) = (q.den : Int) by rw [e2], z, ea]
      · refine hn 1 (by decide) ?_
        rw [show sg 1 * (n : Int) = -(q.num.natAbs : Int) by rw [← e1]; show -1 * (n : Int) = _; omega, show (m : Int) = (q.den : Int) by rw [e2], z, ea]
    | w1 :: w2 :: r =>
      refine ⟨_, rfl, p, _, rfl, .inl (SqL.of ep), rfl, _, rfl, ?_⟩
      rw [decide_eq_false (show ¬ V.int ((((w :: w1 :: w2 :: r).map V.str)).length : Int) = V.int 2 from fun z => by
        have := V.int.inj z
        simp only [List.length_map, List.length_cons] at this
        omega)]
      refine iteF ?_
      refine ⟨_, rfl, p, _, rfl, .inl (SqL.of ep), _, _, rfl, rfl, _, rfl, ?_⟩
      rw [decide_eq_true (show (2 : Int) < (((w :: w1 :: w2 :: r).map V.str).length : Int) by simp only [List.length_map, List.length_cons]; omega)]
      refine iteT ?_
      exact qn (rn fun q h => by have := (ds q h).1; simp only [List.length_cons] at this; omega) _ s12
end
end K03

set_option Elab.async false
set_option linter.all false
set_option maxRecDepth 100000
set_option maxHeartbeats 16000000
namespace K03
open PySem PySem.Spec PyProof.Rows L2 BX EXB Co Ru
open Dz Cs Hr Gs Nt
open Rs (Rsp Rv Ret tYes_of dV datR Flat Okr spShares spRowsL spTotal spCopied eqv_dR)
open Fr (Bd)
open TL (tl numL)
structure NxL (K : PySem.W.Frag) (C : Addr) : Prop where
  nn : PySem.W.exmOne K (.ref C) (.ref C) = some true
  kV : PySem.W.kitOne K (.ref C) (.type "ValueError") = some true
def spLRead03 (K : PySem.W.Frag) : Sp := fun vs H Q _ => ∃ v : V, vs = [v] ∧ ((NoStr K H v ∧ ∀ p H', Same H H' → H' p = some (.lst [V.str "none", V.str "0", V.bl true]) → Q (.ref p) H') ∨ ∃ a : Str, v = .str a ∧ a.length ≤ 4300 ∧ (∀ q p H', rdR a = some q → Same H H' → SqT K H' p (rp q) → Q (.ref p) H') ∧ (rdR a = none → ∀ p H', Same H H' → H' p = some (.lst [V.str "none", V.str "0", V.bl true]) → Q (.ref p) H'))
section
variable {P : Program} {w : World} {K : PySem.W.Frag} {mg : Str → Option Value} {base : Heap}
theorem scLRead : FnScope ["_law_text_here", "e"] ["_law_text_here"] (defScope sLRead) := ⟨rfl, rfl, rfl, by decide +kernel, rfl, by decide +kernel, by decide +kernel⟩
theorem ok_LRead {f fR CT fT : Addr} {fd fdR : FuncData} {k : Nat} (F : Fun K "_law_read" "_law_read" sLRead f fd) (NX : NxT K mg CT fT) (NL : NxL K CT) (GR : FnOk P w K mg base (L2.CX P w) k fR fdR ["text"] (spRead03 K CT)) (kR : PySem.W.keepIn K (.ref fR) = true) (bR : Binds K fdR ["text"] []) (gR : mg "read_ratio" = some (.ref fR)) (B : Blt mg) : FnOkG P w K mg base CX0 (k + 1) f fd ["_law_text_here"] (spLRead03 K) := by
  refine okG F scLRead (fun vs H Q E h => ?_) (fun cdv A outer s H vs Q E hr hgd h => ?_)
  · obtain ⟨v, rfl, _⟩ := h
    rfl
  · obtain ⟨v, rfl, h⟩ := h
    have hu : (A.deeper (envOfC "_law_read" (defScope sLRead) s.heap.objs.size f cdv)).units + 80 < cLine := by have := hr.un; omega
    refine ⟨_, pss_one (ps_try_clauses (tb := fun W => tRet (tCallD (spRead03 K CT) [] (WE W) (tCons (tVar 0) tNil)))
        (Wout := fun _ _ _ _ => False) rfl rfl scLRead.nd takes0
        (fun W pn xe tk _ => pss_one (ps_ret (by exact (pe_callD (.of GR) hr hgd (by rfl) gR kR bR .nil (fun σ => passAt tk σ) (by exact (pa_cons (pv 0) pa_nil))))))
        (ClausesOk.cons (ts := fun a cls d => tRet (tLst (tCons (tC (.str "none")) (tCons (tCB (rRepr K) (tCons (tXf a cls d CT "part" (tVar 1)) tNil)) (tCons (tCB (rIsX K CT a cls d) (tCons (tVar 1) (tCons (tC (.ty "ValueError")) tNil))) tNil))))) (i := 1) rfl rfl ⟨rfl, by decide, .inl NX.g⟩ (fun a oe cls d pn hz hf => by exact (pss_one (ps_ret (pe_lst (pa_cons pe_str (pa_cons (pe_callB (call_reprD hgd hu) (by rfl) B.repr_ (by decide +kernel) (pa_cons (pe_xf NX.xf NX.n1 hz hf (pv 1)) pa_nil)) (pa_cons (pe_callB (call_isX NX.ex hz hf) (by rfl) B.isinstance_ (by decide +kernel) (pa_cons (pv 1) (pa_cons (pe_bltn (v := .ty "ValueError") (by rfl) B.ValueError_ (by decide +kernel) rfl) pa_nil))) pa_nil))))))) ClausesOk.nil)), ?_⟩
    rcases h with ⟨ns, q⟩ | ⟨a, rfl, hl, qs, q⟩
    · refine ⟨_, rfl, v, rfl, .inl ⟨ns, fun H' d s' ed => ?_⟩⟩
      refine ⟨true, NL.nn, fun _ a0 _ => ?_, fun z => Bool.noConfusion z⟩
      refine ⟨_, rfl, rfl, rfl, d, _, V.int 0, rfl, ed, rfl, V.int 0, PyData.int 0, rfl, .inl (.int _), rfl, (by decide), (by decide +kernel), ?_⟩
      refine ⟨_, rfl, .ty "ValueError", _, true, rfl, rfl, fun _ z => z, .inr ⟨d, _, rfl, ed⟩, NL.kV, (by show 3 ≤ sizeLine; decide), fun p hp => ?_⟩
      exact q p _ (s'.trans (same_new hp _)) upd_same
    · refine ⟨_, rfl, .str a, rfl, .inr ⟨a, rfl, hl, fun r p H' er s hp => qs r p H' er s hp, fun er H' d s' ed => ?_⟩⟩
      refine ⟨true, NL.nn, fun _ a0 _ => ?_, fun z => Bool.noConfusion z⟩
      refine ⟨_, rfl, rfl, rfl, d, _, V.int 0, rfl, ed, rfl, V.int 0, PyData.int 0, rfl, .inl (.int _), rfl, (by decide), (by decide +kernel), ?_⟩
      refine ⟨_, rfl, .ty "ValueError", _, true, rfl, rfl, fun _ z => z, .inr ⟨d, _, rfl, ed⟩, NL.kV, (by show 3 ≤ sizeLine; decide), fun p hp => ?_⟩
      exact q er p _ (s'.trans (same_new hp _)) upd_same
end
end K03

set_option Elab.async false
set_option linter.all false
set_option maxRecDepth 100000
set_option maxHeartbeats 16000000
namespace K03
open PySem PySem.Spec PyProof.Rows L2 BX EXB Co Ru
open Dz Cs Hr Gs Nt
open Rs (Rsp Rv Ret tYes_of dV datR Flat Okr spShares spRowsL spTotal spCopied eqv_dR)
open Fr (Bd)
open TL (tl numL)
def spRight03 (K : PySem.W.Frag) : Sp := fun vs H Q _ => ∃ v : V, vs = [v] ∧ (NoStr K H v ∨ ∃ a : Str, v = .str a ∧ a.length ≤ 900 ∧ Okc (tl a)) ∧ ∀ H', Same H H' → Q (.bl true) H'
section
variable {P : Program} {w : World} {K : PySem.W.Frag} {mg : Str → Option Value} {base : Heap}
theorem scRight03 : FnScope ["_law_text_here", "_law_due_here"] ["_law_text_here"] (defScope sRight03) := ⟨rfl, rfl, rfl, by decide +kernel, rfl, by decide +kernel, by decide +kernel⟩
theorem ok_Right03 {f fD fR : Addr} {fd fdD fdR : FuncData} {k : Nat} (F : Fun K "_law_right" "_law_right" sRight03 f fd) (GD : FnOk P w K mg base CX0 k fD fdD ["_law_text_here"] (spDue03 K)) (kD : PySem.W.keepIn K (.ref fD) = true) (bD : Binds K fdD ["_law_text_here"] []) (gD : mg "_law_due" = some (.ref fD)) (GR : FnOkG P w K mg base CX0 k fR fdR ["_law_text_here"] (spLRead03 K)) (kR : PySem.W.keepIn K (.ref fR) = true) (bR : Binds K fdR ["_law_text_here"] []) (gR : mg "_law_read" = some (.ref fR)) (B : Blt mg) : FnOkG P w K mg base CX0 (k + 1) f fd ["_law_text_here"] (spRight03 K) := by
  refine okG F scRight03 (fun vs H Q E h => ?_) (fun cdv A outer s H vs Q E hr hgd h => ?_)
  · obtain ⟨v, rfl, _⟩ := h
    rfl
  · obtain ⟨v, rfl, h, q⟩ := h
    have hk : Room k _ := hr.mono (by omega)
    refine ⟨_, (pss_cons (ps_set (i := 1) scRight03.nd rfl (.inl rfl) (pe_call GD hk (by rfl) gD kD bD .nil pass0 (pa_cons (pv 0) pa_nil)))
      (pss_one (ps_ret (pe_cmpR (op_eqD hk.units) (pe_callG GR hk hgd (by rfl) gR kR bR .nil pass0 (pa_cons (pv 0) pa_nil)) (pe_ifExp (pt_cmpR op_isN (pv 1) pe_non (nomark _)) (pe_lst (pa_cons pe_str (pa_cons pe_str (pa_cons pe_bl pa_nil)))) (pv 1)) (nomark _))))), ?_⟩
    rcases h with ns | ⟨a, rfl, hl, hk0⟩
    · refine ⟨_, rfl, v, rfl, .inl ⟨ns, ?_⟩⟩
      refine ⟨_, rfl, v, rfl, .inl ⟨ns, fun p H2 s2 e2 => ?_⟩⟩
      refine ⟨_, rfl, rfl, _, rfl, iteT ?_⟩
      refine ⟨(by show 3 ≤ sizeLine; decide), fun p3 n3 => ?_⟩
      have s3 := same_new n3 (.lst [V.str "none", V.str "0", V.bl true])
      refine ⟨.list [.str "none", .str "0", .bool true], .list [.str "none", .str "0", .bool true], .lst (SqL.of (s3 _ _ e2)) (.cons (.str _) (.cons (.str _) (.cons (.bl _) .nil))), .lst (SqL.of upd_same) (.cons (.str _) (.cons (.str _) (.cons (.bl _) .nil))), by decide +kernel, by decide +kernel, ?_⟩
      rw [SeqAt.eqv_refl (.list [.str "none", .str "0", .bool true]) (by decide +kernel)]
      exact q _ (s2.trans s3)
    refine ⟨_, rfl, .str a, rfl, .inr ⟨a, rfl, hl, hk0, fun q0 p1 H1 er s1 e1 => ?_, fun er H1 s1 => ?_⟩⟩
    · refine ⟨_, rfl, .str a, rfl, .inr ⟨a, rfl, by omega, fun q1 p2 H2 er2 s2 e2 => ?_, fun er2 => by rw [er] at er2; cases er2⟩⟩
      rw [er] at er2
      cases er2
      refine ⟨_, rfl, rfl, _, rfl, ?_⟩
      rw [decide_eq_false (fun z : V.ref p1 = V.non => by cases z)]
      refine iteF ?_
      refine ⟨_, rfl, dR q0, dR q0, dp_r e2, dp_r (seqT s2 e1), rfl, rfl, ?_⟩
      rw [eqv_dR, decide_eq_true rfl]
      exact q _ (s1.trans s2)
    · refine ⟨_, rfl, .str a, rfl, .inr ⟨a, rfl, by omega, fun q1 p2 H2 er2 => (by rw [er] at er2; cases er2), fun _ p2 H2 s2 e2 => ?_⟩⟩
      refine ⟨_, rfl, rfl, _, rfl, iteT ?_⟩
      refine ⟨(by show 3 ≤ sizeLine; decide), fun p3 n3 => ?_⟩
      have s3 := same_new n3 (.lst [V.str "none", V.str "0", V.bl true])
      refine ⟨.list [.str "none", .str "0", .bool true], .list [.str "none", .str "0", .bool true], .lst (SqL.of (s3 _ _ e2)) (.cons (.str _) (.cons (.str _) (.cons (.bl _) .nil))), .lst (SqL.of upd_same) (.cons (.str _) (.cons (.str _) (.cons (.bl _) .nil))), by decide +kernel, by decide +kernel, ?_⟩
      rw [SeqAt.eqv_refl (.list [.str "none", .str "0", .bool true]) (by decide +kernel)]
      exact q _ ((s1.trans s2).trans s3)
end
end K03

set_option Elab.async false
set_option linter.all false
set_option maxRecDepth 100000
set_option maxHeartbeats 32000000
namespace K03
open PySem PySem.Spec PyProof.Rows L2 BX EXB Co Ru
open Dz Cs Hr Gs Nt
open Rs (Rsp Rv Ret tYes_of dV datR Flat Okr spShares spRowsL spTotal spCopied eqv_dR)
open Fr (Bd)
open TL (tl numL)
def sOk : V → Bool
  | .str a => decide (a.length ≤ 900) && (tl a).all (fun c => decide (c < 1114112))
  | _ => false
theorem sOk_of {x : V} (h : sOk x = true) : ∃ a : Str, x = .str a ∧ a.length ≤ 900 ∧ Okc (tl a) := by
  unfold sOk at h
  split at h
  · rename_i a
    obtain ⟨h1, h2⟩ := Bool.and_eq_true_iff.mp h
    exact ⟨a, rfl, of_decide_eq_true h1, fun c hc => of_decide_eq_true (List.all_eq_true.mp h2 c hc)⟩
  · cases h
theorem okc_shR (q : Rat) : Okc (tl (shR q)) := fun c hc => by
  rcases Nat.lt_or_ge c 1114112 with h | h
  · exact h
  · exact absurd hc (txt_no (by omega) (by omega) (.inr (by omega)))
theorem okc_app {x y : Str} (hx : Okc (tl x)) (hy : Okc (tl y)) : Okc (tl (x ++ y)) := fun c hc => by
  rw [TL.tl_append] at hc
  rcases List.mem_append.mp hc with h | h
  · exact hx c h
  · exact hy c h
theorem okc_cut {x : Str} {lo hi : Option Int} (hx : Okc (tl x)) : Okc (tl (cutS x lo hi)) := fun c hc => by
  refine hx c ?_
  have hc : c ∈ (x.cps.toList.drop (HT.sIx x.length 0 lo)).take (HT.sIx x.length x.length hi - HT.sIx x.length 0 lo) := hc
  exact List.mem_of_mem_drop (List.mem_of_mem_take hc)
theorem sgn_at {e : Int} (h0 : 0 ≤ e) (h1 : e < 18) : ∃ c, atI (Str.ofString "0123456789/- +.x\n\t").cps.toList e = some c ∧ c < 1114112 := by
  have : e = 0 ∨ e = 1 ∨ e = 2 ∨ e = 3 ∨ e = 4 ∨ e = 5 ∨ e = 6 ∨ e = 7 ∨ e = 8 ∨ e = 9 ∨ e = 10 ∨ e = 11 ∨ e = 12 ∨ e = 13 ∨ e = 14 ∨ e = 15 ∨ e = 16 ∨ e = 17 := by omega
  rcases this with rfl | rfl | rfl | rfl | rfl | rfl | rfl | rfl | rfl | rfl | rfl | rfl | rfl | rfl | rfl | rfl | rfl | rfl
  all_goals exact ⟨_, rfl, by decide⟩
theorem cut_int {ns : List Int} {lo hi : Option Int} {i : Nat} {v : V} (h : (cutV (ns.map V.int) lo hi ++ [V.int 7])[i]? = some v) : ∃ c, v = .int c := by
  have hm := List.mem_of_getElem? h
  rcases List.mem_append.mp hm with hm | hm
  · unfold cutV at hm
    have := List.mem_of_mem_drop (List.mem_of_mem_take hm)
    obtain ⟨c, _, rfl⟩ := List.mem_map.mp this
    exact ⟨c, rfl⟩
  · rw [List.mem_singleton.mp hm]; exact ⟨7, rfl⟩
theorem sqL_same {K : PySem.W.Frag} {H H' : Hp} {a : Addr} {xs : List V} (s : Same H H') (h : SqL K H a xs) : SqL K H' a xs := h.ext (fun b o e => s b o e)
def spLaw (K : PySem.W.Frag) : Sp := fun vs H Q _ => ∃ (a : Addr) (ns : List Int), vs = [.ref a] ∧ SqL K H a (ns.map V.int) ∧ ns.length ≤ 63 ∧ ∀ H', Q (.bl true) H'
section
variable {P : Program} {w : World} {K : PySem.W.Frag} {mg : Str → Option Value} {base : Heap}
theorem scLaw : FnScope ["_law_script", "_law_some", "_law_thing", "_law_cell", "_law_left_here", "_law_one", "_law_text_here", "_law_at", "_law_sign", "_law_bent"] ["_law_script"] (defScope sLaw) := ⟨rfl, rfl, rfl, by decide +kernel, rfl, by decide +kernel, by decide +kernel⟩
theorem ok_law {f fR fLf fRa fT fS fQ fD : Addr} {fd fdR fdLf fdRa fdT fdS fdQ fdD : FuncData} {k : Nat} {CT : Addr} (F : Fun K "law" "law" sLaw f fd) (GR : FnOkG P w K mg base CX0 k fR fdR ["_law_text_here"] (spRight03 K)) (kR : PySem.W.keepIn K (.ref fR) = true) (bR : Binds K fdR ["_law_text_here"] []) (gR : mg "_law_right" = some (.ref fR)) (GLf : FnOk P w K mg base CX0 k fLf fdLf ["_law_cell"] spLeft) (kLf : PySem.W.keepIn K (.ref fLf) = true) (bLf : Binds K fdLf ["_law_cell"] []) (gLf : mg "_law_left" = some (.ref fLf)) (GRa : FnOk P w K mg base CX0 k fRa fdRa ["_law_left_here"] (spLRatio03 K)) (kRa : PySem.W.keepIn K (.ref fRa) = true) (bRa : Binds K fdRa ["_law_left_here"] []) (gRa : mg "_law_ratio" = some (.ref fRa)) (GT : FnOk P w K mg base CX0 k fT fdT ["_law_one"] (spLTxt03 K)) (kT : PySem.W.keepIn K (.ref fT) = true) (bT : Binds K fdT ["_law_one"] []) (gT : mg "_law_text" = some (.ref fT)) (GS : FnOk P w K mg base CX0 k fS fdS ["one"] (spShR K)) (kS : PySem.W.keepIn K (.ref fS) = true) (bS : Binds K fdS ["one"] []) (gS : mg "shown_ratio" = some (.ref fS)) (GQ : FnOk P w K mg base (L2.CX P w) k fQ fdQ ["text"] (spRead03 K CT)) (kQ : PySem.W.keepIn K (.ref fQ) = true) (bQ : Binds K fdQ ["text"] []) (gQ : mg "read_ratio" = some (.ref fQ)) (GD : FnOk P w K mg base CX0 k fD fdD ["_law_left_here", "_law_many"] spDigit) (kD : PySem.W.keepIn K (.ref fD) = true) (bD : Binds K fdD ["_law_left_here", "_law_many"] []) (gD : mg "_law_digit" = some (.ref fD)) (B : Blt mg) : FnOkG P w K mg base CX0 (k + 1) f fd ["_law_script"] (spLaw K) := by
  refine okG F scLaw (fun vs H Q E h => ?_) (fun cdv A outer s H vs Q E hr hgd h => ?_)
  · obtain ⟨a, ns, rfl, _⟩ := h
    rfl
  · obtain ⟨a, ns, rfl, hS, hlen, q⟩ := h
    have hk : Room k _ := hr.mono (by omega)
    refine ⟨_, (pss_cons (ps_set (i := 1) scLaw.nd rfl (.inl rfl) (pe_lst (pa_cons pe_str (pa_cons pe_str (pa_cons pe_str (pa_cons pe_str (pa_cons pe_str (pa_cons pe_str (pa_cons pe_str (pa_cons pe_str (pa_cons pe_str (pa_cons pe_str (pa_cons pe_str (pa_cons pe_str (pa_cons pe_str (pa_cons pe_str (pa_cons pe_str pa_nil)))))))))))))))))
      (pss_cons (ps_set (i := 1) scLaw.nd rfl (.inl rfl) (pe_op op_cat (pv 1) (pe_lst (pa_cons (pe_op op_mulS pe_str pe_int) (pa_cons (pe_op op_mulS pe_str pe_int) (pa_cons (pe_op op_add_str pe_str (pe_op op_mulS pe_str pe_int)) (pa_cons (pe_op op_add_str pe_str (pe_op op_mulS pe_str pe_int)) (pa_cons pe_str (pa_cons pe_str (pa_cons pe_str (pa_cons pe_str (pa_cons pe_str (pa_cons pe_str pa_nil)))))))))))))
      (pss_cons (ps_set (i := 1) scLaw.nd rfl (.inl rfl) (pe_op op_cat (pv 1) (pe_lst (pa_cons pe_str (pa_cons pe_str (pa_cons pe_str (pa_cons pe_str (pa_cons (pe_op op_add_str pe_str (pe_op op_mulS pe_str pe_int)) (pa_cons (pe_op op_add_str pe_str (pe_op op_mulS pe_str pe_int)) (pa_cons (pe_op op_mulS pe_str pe_int) (pa_cons (pe_op op_add_str pe_str (pe_op op_mulS pe_str pe_int)) pa_nil)))))))))))
      (pss_cons (ps_set (i := 1) scLaw.nd rfl (.inl rfl) (pe_op op_cat (pv 1) (pe_lst (pa_cons (pe_op op_add_str pe_str (pe_op op_mulS pe_str pe_int)) (pa_cons (pe_op op_add_str pe_str (pe_op op_mulS pe_str pe_int)) (pa_cons (pe_op op_add_str pe_str (pe_op op_mulS pe_str pe_int)) pa_nil))))))
      (pss_cons (ps_for PassesOwn.never rfl (pi_list (pe_op op_cat (pv 1) (pe_lst (pa_cons pe_non (pa_cons pe_int (pa_cons (pe_tup (pa_cons pe_int (pa_cons pe_int pa_nil))) (pa_cons (pe_lst (pa_cons pe_str pa_nil)) (pa_cons pe_bl pa_nil)))))))) (pg_name (i := 2) scLaw.nd rfl (.inl rfl)) (pss_one (ps_if (pt_not (pt_val (pe_callG GR hk hgd (by rfl) gR kR bR .nil pass0 (pa_cons (pv 2) pa_nil)))) (pss_one (ps_ret pe_bl)) pss_nil)))
      (pss_cons (ps_for PassesOwn.never rfl (pi_list (pe_op op_cat (pe_slice sl_list (pv 0) po_none (po_some pe_int)) (pe_lst (pa_cons pe_int pa_nil)))) (pg_name (i := 3) scLaw.nd rfl (.inl rfl)) (pss_cons (ps_set (i := 4) scLaw.nd rfl (.inl rfl) (pe_call GLf hk (by rfl) gLf kLf bLf .nil pass0 (pa_cons (pv 3) pa_nil)))
      (pss_cons (ps_set (i := 5) scLaw.nd rfl (.inl rfl) (pe_call GRa hk (by rfl) gRa kRa bRa .nil pass0 (pa_cons (pv 4) pa_nil)))
      (pss_cons (ps_set (i := 6) scLaw.nd rfl (.inl rfl) (pe_call GT hk (by rfl) gT kT bT .nil pass0 (pa_cons (pv 5) pa_nil)))
      (pss_cons (ps_if (PW.pt (pw_or (pt_cmpR op_ne (pe_call GS hk (by rfl) gS kS bS .nil pass0 (pa_cons (pv 5) pa_nil)) (pv 6) (nomark _)) (pw_or1 (pt_cmpR (op_neD hk.units) (pe_call (Rs.quiet GQ) hk (by rfl) gQ kQ bQ .nil pass0 (pa_cons (pv 6) pa_nil)) (pv 5) (nomark _))))) (pss_one (ps_ret pe_bl)) pss_nil)
      (pss_cons (ps_set (i := 7) scLaw.nd rfl (.inl rfl) (pe_call GD hk (by rfl) gD kD bD .nil pass0 (pa_cons (pv 4) (pa_cons (pe_op op_add (pe_callB call_len_str (by rfl) B.len_ PySem.boot_len (pa_cons (pv 6) pa_nil)) pe_int) pa_nil))))
      (pss_cons (ps_set (i := 8) scLaw.nd rfl (.inl rfl) (pe_ix ix_str pe_str (pe_call GD hk (by rfl) gD kD bD .nil pass0 (pa_cons (pv 4) (pa_cons pe_int pa_nil))) (fun _ _ => rfl)))
      (pss_one (ps_for PassesOwn.never rfl (pi_list (pe_lst (pa_cons (pe_op op_add_str (pe_slice sl_str (pv 6) po_none (po_some (pv 7))) (pe_slice sl_str (pv 6) (po_some (pe_op op_add (pv 7) pe_int)) po_none)) (pa_cons (pe_op op_add_str (pe_op op_add_str (pe_slice sl_str (pv 6) po_none (po_some (pv 7))) (pv 8)) (pe_slice sl_str (pv 6) (po_some (pv 7)) po_none)) (pa_cons (pe_op op_add_str (pe_op op_add_str (pe_slice sl_str (pv 6) po_none (po_some (pv 7))) (pv 8)) (pe_slice sl_str (pv 6) (po_some (pe_op op_add (pv 7) pe_int)) po_none)) pa_nil))))) (pg_name (i := 9) scLaw.nd rfl (.inl rfl)) (pss_one (ps_if (pt_not (pt_val (pe_callG GR hk hgd (by rfl) gR kR bR .nil pass0 (pa_cons (pv 9) pa_nil)))) (pss_one (ps_ret pe_bl)) pss_nil)))))))))))
      (pss_one (ps_ret pe_bl)))))))), ?_⟩
    have zz := szl
    refine ⟨(by show 15 ≤ sizeLine; decide), fun p1 n1 => ?_⟩
    have s1 := same_new n1 (.lst [V.str ("0"), V.str ("-0"), V.str ("00"), V.str ("1/1"), V.str ("2/4"), V.str ("1/2"), V.str ("-1/2"), V.str ("1/-2"), V.str ("--1"), V.str ("+1"), V.str ("1/"), V.str ("/2"), V.str ("1/2/3"), V.str (" 1"), V.str ("1 ")])
    have e1 : (upd H p1 (.lst [V.str ("0"), V.str ("-0"), V.str ("00"), V.str ("1/1"), V.str ("2/4"), V.str ("1/2"), V.str ("-1/2"), V.str ("1/-2"), V.str ("--1"), V.str ("+1"), V.str ("1/"), V.str ("/2"), V.str ("1/2/3"), V.str (" 1"), V.str ("1 ")])) p1 = some (.lst [V.str ("0"), V.str ("-0"), V.str ("00"), V.str ("1/1"), V.str ("2/4"), V.str ("1/2"), V.str ("-1/2"), V.str ("1/-2"), V.str ("--1"), V.str ("+1"), V.str ("1/"), V.str ("/2"), V.str ("1/2/3"), V.str (" 1"), V.str ("1 ")]) := upd_same
    have t1 : ([V.str ("0"), V.str ("-0"), V.str ("00"), V.str ("1/1"), V.str ("2/4"), V.str ("1/2"), V.str ("-1/2"), V.str ("1/-2"), V.str ("--1"), V.str ("+1"), V.str ("1/"), V.str ("/2"), V.str ("1/2/3"), V.str (" 1"), V.str ("1 ")] : List V).all sOk = true := by decide +kernel
    have m1 : ([V.str ("0"), V.str ("-0"), V.str ("00"), V.str ("1/1"), V.str ("2/4"), V.str ("1/2"), V.str ("-1/2"), V.str ("1/-2"), V.str ("--1"), V.str ("+1"), V.str ("1/"), V.str ("/2"), V.str ("1/2/3"), V.str (" 1"), V.str ("1 ")] : List V).length = 15 := rfl
    generalize upd H p1 (.lst [V.str ("0"), V.str ("-0"), V.str ("00"), V.str ("1/1"), V.str ("2/4"), V.str ("1/2"), V.str ("-1/2"), V.str ("1/-2"), V.str ("--1"), V.str ("+1"), V.str ("1/"), V.str ("/2"), V.str ("1/2/3"), V.str (" 1"), V.str ("1 ")]) = H1 at s1 e1 ⊢
    generalize ([V.str ("0"), V.str ("-0"), V.str ("00"), V.str ("1/1"), V.str ("2/4"), V.str ("1/2"), V.str ("-1/2"), V.str ("1/-2"), V.str ("--1"), V.str ("+1"), V.str ("1/"), V.str ("/2"), V.str ("1/2/3"), V.str (" 1"), V.str ("1 ")] : List V) = x1 at e1 t1 m1 ⊢
    refine ⟨_, rfl, _, 30, rfl, rfl, (by decide), (by decide), (by decide), (by decide), _, 31, rfl, rfl, (by decide), (by decide), (by decide), (by decide), _, 30, rfl, rfl, (by decide), (by decide), (by decide), (by decide), _, _, rfl, rfl, (by decide +kernel), _, 30, rfl, rfl, (by decide), (by decide), (by decide), (by decide), _, _, rfl, rfl, (by decide +kernel), (by show 10 ≤ sizeLine; decide), fun q2 o2 => ?_⟩
    have u2 := same_new o2 (.lst [V.str (repS "9" 30), V.str (repS "9" 31), V.str ("1/" ++ repS "9" 30), V.str ("1/1" ++ repS "0" 30), V.str ("0/2"), V.str ("1/0"), V.str ("0/1"), V.str ("01"), V.str ("1/02"), V.str ("1.5")])
    have f2 : (upd H1 q2 (.lst [V.str (repS "9" 30), V.str (repS "9" 31), V.str ("1/" ++ repS "9" 30), V.str ("1/1" ++ repS "0" 30), V.str ("0/2"), V.str ("1/0"), V.str ("0/1"), V.str ("01"), V.str ("1/02"), V.str ("1.5")])) q2 = some (.lst [V.str (repS "9" 30), V.str (repS "9" 31), V.str ("1/" ++ repS "9" 30), V.str ("1/1" ++ repS "0" 30), V.str ("0/2"), V.str ("1/0"), V.str ("0/1"), V.str ("01"), V.str ("1/02"), V.str ("1.5")]) := upd_same
    have g2 : ([V.str (repS "9" 30), V.str (repS "9" 31), V.str ("1/" ++ repS "9" 30), V.str ("1/1" ++ repS "0" 30), V.str ("0/2"), V.str ("1/0"), V.str ("0/1"), V.str ("01"), V.str ("1/02"), V.str ("1.5")] : List V).all sOk = true := by decide +kernel
    have w2 : ([V.str (repS "9" 30), V.str (repS "9" 31), V.str ("1/" ++ repS "9" 30), V.str ("1/1" ++ repS "0" 30), V.str ("0/2"), V.str ("1/0"), V.str ("0/1"), V.str ("01"), V.str ("1/02"), V.str ("1.5")] : List V).length = 10 := rfl
    generalize upd H1 q2 (.lst [V.str (repS "9" 30), V.str (repS "9" 31), V.str ("1/" ++ repS "9" 30), V.str ("1/1" ++ repS "0" 30), V.str ("0/2"), V.str ("1/0"), V.str ("0/1"), V.str ("01"), V.str ("1/02"), V.str ("1.5")]) = J2 at u2 f2 ⊢
    generalize ([V.str (repS "9" 30), V.str (repS "9" 31), V.str ("1/" ++ repS "9" 30), V.str ("1/1" ++ repS "0" 30), V.str ("0/2"), V.str ("1/0"), V.str ("0/1"), V.str ("01"), V.str ("1/02"), V.str ("1.5")] : List V) = y2 at f2 g2 w2 ⊢
    refine ⟨p1, q2, _, _, rfl, rfl, u2 _ _ e1, f2, by omega, fun p2 n2 => ?_⟩
    have s2 := (s1.trans u2).trans (same_new n2 (.lst (x1 ++ y2)))
    have e2 : (upd J2 p2 (.lst (x1 ++ y2))) p2 = some (.lst (x1 ++ y2)) := upd_same
    have t2 : (x1 ++ y2).all sOk = true := by rw [List.all_append, t1, g2]; rfl
    have m2 : (x1 ++ y2).length = 25 := by rw [List.length_append, m1, w2]
    generalize upd J2 p2 (.lst (x1 ++ y2)) = H2 at s2 e2 ⊢
    generalize x1 ++ y2 = x2 at e2 t2 m2 ⊢
    clear s1 u2 f2 g2 w2 t1 m1 e1 n2 o2
    refine ⟨_, rfl, _, 30, rfl, rfl, (by decide), (by decide), (by decide), (by decide), _, _, rfl, rfl, (by decide +kernel), _, 31, rfl, rfl, (by decide), (by decide), (by decide), (by decide), _, _, rfl, rfl, (by decide +kernel), _, 900, rfl, rfl, (by decide), (by decide), (by decide), (by decide), _, 90, rfl, rfl, (by decide), (by decide), (by decide), (by decide), _, _, rfl, rfl, (by decide +kernel), (by show 8 ≤ sizeLine; decide), fun q3 o3 => ?_⟩
    have u3 := same_new o3 (.lst [V.str ("1\n"), V.str ("1\t"), V.str (""), V.str ("1_0"), V.str ("-" ++ repS "9" 30), V.str ("-" ++ repS "9" 31), V.str (repS "7" 900), V.str ("2/1" ++ repS "0" 90)])
    have f3 : (upd H2 q3 (.lst [V.str ("1\n"), V.str ("1\t"), V.str (""), V.str ("1_0"), V.str ("-" ++ repS "9" 30), V.str ("-" ++ repS "9" 31), V.str (repS "7" 900), V.str ("2/1" ++ repS "0" 90)])) q3 = some (.lst [V.str ("1\n"), V.str ("1\t"), V.str (""), V.str ("1_0"), V.str ("-" ++ repS "9" 30), V.str ("-" ++ repS "9" 31), V.str (repS "7" 900), V.str ("2/1" ++ repS "0" 90)]) := upd_same
    have g3 : ([V.str ("1\n"), V.str ("1\t"), V.str (""), V.str ("1_0"), V.str ("-" ++ repS "9" 30), V.str ("-" ++ repS "9" 31), V.str (repS "7" 900), V.str ("2/1" ++ repS "0" 90)] : List V).all sOk = true := by decide +kernel
    have w3 : ([V.str ("1\n"), V.str ("1\t"), V.str (""), V.str ("1_0"), V.str ("-" ++ repS "9" 30), V.str ("-" ++ repS "9" 31), V.str (repS "7" 900), V.str ("2/1" ++ repS "0" 90)] : List V).length = 8 := rfl
    generalize upd H2 q3 (.lst [V.str ("1\n"), V.str ("1\t"), V.str (""), V.str ("1_0"), V.str ("-" ++ repS "9" 30), V.str ("-" ++ repS "9" 31), V.str (repS "7" 900), V.str ("2/1" ++ repS "0" 90)]) = J3 at u3 f3 ⊢
    generalize ([V.str ("1\n"), V.str ("1\t"), V.str (""), V.str ("1_0"), V.str ("-" ++ repS "9" 30), V.str ("-" ++ repS "9" 31), V.str (repS "7" 900), V.str ("2/1" ++ repS "0" 90)] : List V) = y3 at f3 g3 w3 ⊢
    refine ⟨p2, q3, _, _, rfl, rfl, u3 _ _ e2, f3, by omega, fun p3 n3 => ?_⟩
    have s3 := (s2.trans u3).trans (same_new n3 (.lst (x2 ++ y3)))
    have e3 : (upd J3 p3 (.lst (x2 ++ y3))) p3 = some (.lst (x2 ++ y3)) := upd_same
    have t3 : (x2 ++ y3).all sOk = true := by rw [List.all_append, t2, g3]; rfl
    have m3 : (x2 ++ y3).length = 33 := by rw [List.length_append, m2, w3]
    generalize upd J3 p3 (.lst (x2 ++ y3)) = H3 at s3 e3 ⊢
    generalize x2 ++ y3 = x3 at e3 t3 m3 ⊢
    clear s2 u3 f3 g3 w3 t2 m2 e2 n3 o3
    refine ⟨_, rfl, _, 90, rfl, rfl, (by decide), (by decide), (by decide), (by decide), _, _, rfl, rfl, (by decide +kernel), _, 40, rfl, rfl, (by decide), (by decide), (by decide), (by decide), _, _, rfl, rfl, (by decide +kernel), _, 40, rfl, rfl, (by decide), (by decide), (by decide), (by decide), _, _, rfl, rfl, (by decide +kernel), (by show 3 ≤ sizeLine; decide), fun q4 o4 => ?_⟩
    have u4 := same_new o4 (.lst [V.str ("1/3" ++ repS "0" 90), V.str ("-" ++ repS "0" 40), V.str ("1/" ++ repS "0" 40)])
    have f4 : (upd H3 q4 (.lst [V.str ("1/3" ++ repS "0" 90), V.str ("-" ++ repS "0" 40), V.str ("1/" ++ repS "0" 40)])) q4 = some (.lst [V.str ("1/3" ++ repS "0" 90), V.str ("-" ++ repS "0" 40), V.str ("1/" ++ repS "0" 40)]) := upd_same
    have g4 : ([V.str ("1/3" ++ repS "0" 90), V.str ("-" ++ repS "0" 40), V.str ("1/" ++ repS "0" 40)] : List V).all sOk = true := by decide +kernel
    have w4 : ([V.str ("1/3" ++ repS "0" 90), V.str ("-" ++ repS "0" 40), V.str ("1/" ++ repS "0" 40)] : List V).length = 3 := rfl
    generalize upd H3 q4 (.lst [V.str ("1/3" ++ repS "0" 90), V.str ("-" ++ repS "0" 40), V.str ("1/" ++ repS "0" 40)]) = J4 at u4 f4 ⊢
    generalize ([V.str ("1/3" ++ repS "0" 90), V.str ("-" ++ repS "0" 40), V.str ("1/" ++ repS "0" 40)] : List V) = y4 at f4 g4 w4 ⊢
    refine ⟨p3, q4, _, _, rfl, rfl, u4 _ _ e3, f4, by omega, fun p4 n4 => ?_⟩
    have s4 := (s3.trans u4).trans (same_new n4 (.lst (x3 ++ y4)))
    have e4 : (upd J4 p4 (.lst (x3 ++ y4))) p4 = some (.lst (x3 ++ y4)) := upd_same
    have t4 : (x3 ++ y4).all sOk = true := by rw [List.all_append, t3, g4]; rfl
    have m4 : (x3 ++ y4).length = 36 := by rw [List.length_append, m3, w4]
    generalize upd J4 p4 (.lst (x3 ++ y4)) = H4 at s4 e4 ⊢
    generalize x3 ++ y4 = x4 at e4 t4 m4 ⊢
    clear s3 u4 f4 g4 w4 t3 m3 e3 n4 o4
    refine ⟨_, rfl, (by show 2 ≤ sizeLine; decide), fun pt nt => ?_⟩
    have a1 := same_new nt (.tup [V.int 1, V.int 2])
    have b1 : (upd H4 pt (.tup [V.int 1, V.int 2])) pt = some (.tup [V.int 1, V.int 2]) := upd_same
    generalize upd H4 pt (.tup [V.int 1, V.int 2]) = J5 at a1 b1 ⊢
    refine ⟨(by show 1 ≤ sizeLine; decide), fun pl nl => ?_⟩
    have a2 := same_new nl (.lst [V.str "1"])
    have b2 : (upd J5 pl (.lst [V.str "1"])) pl = some (.lst [V.str "1"]) := upd_same
    generalize upd J5 pl (.lst [V.str "1"]) = J6 at a2 b2 ⊢
    refine ⟨(by show 5 ≤ sizeLine; decide), fun p5 n5 => ?_⟩
    have a3 := same_new n5 (.lst [V.non, V.int 1, V.ref pt, V.ref pl, V.bl true])
    have b3 : (upd J6 p5 (.lst [V.non, V.int 1, V.ref pt, V.ref pl, V.bl true])) p5 = some (.lst [V.non, V.int 1, V.ref pt, V.ref pl, V.bl true]) := upd_same
    generalize upd J6 p5 (.lst [V.non, V.int 1, V.ref pt, V.ref pl, V.bl true]) = J7 at a3 b3 ⊢
    refine ⟨p4, p5, _, _, rfl, rfl, ((a1.trans a2).trans a3) _ _ e4, b3, by rw [m4]; exact (by decide : 36 + 5 ≤ sizeLine), fun T nT => ?_⟩
    have a4 := same_new nT (.lst (x4 ++ [V.non, V.int 1, V.ref pt, V.ref pl, V.bl true]))
    have eT : (upd J7 T (.lst (x4 ++ [V.non, V.int 1, V.ref pt, V.ref pl, V.bl true]))) T = some (.lst (x4 ++ [V.non, V.int 1, V.ref pt, V.ref pl, V.bl true])) := upd_same
    generalize upd J7 T (.lst (x4 ++ [V.non, V.int 1, V.ref pt, V.ref pl, V.bl true])) = J8 at a4 eT ⊢
    have bt : J8 pt = some (.tup [V.int 1, V.int 2]) := ((a2.trans a3).trans a4) _ _ b1
    have bl : J8 pl = some (.lst [V.str "1"]) := (a3.trans a4) _ _ b2
    have hS := sqL_same (s4.trans (((a1.trans a2).trans a3).trans a4)) hS
    clear a1 a2 a3 a4 b1 b2 b3 s4 e4 nT n5 nl nt
    refine ⟨T, rfl, ⟨_, SqL.of eT⟩, for_list (K := K) (a := T) (xs := x4 ++ [V.non, V.int 1, V.ref pt, V.ref pl, V.bl true]) (fun i σ H' => ∃ y1 y2 y3 y4 y5 y6 y7 y8 y9 : Option V, σ = [some (.ref a), y1, y2, y3, y4, y5, y6, y7, y8, y9] ∧ Same J8 H')
      ⟨_, _, _, _, _, _, _, _, _, rfl, Same.refl _⟩ (fun i σ H' _ ⟨_, _, _, _, _, _, _, _, _, _, s⟩ => SqL.of (s _ _ eT)) ?_ ?_⟩
    · rintro i x σ H5 hi ⟨y1, y2, y3, y4, y5, y6, y7, y8, y9, rfl, s5⟩
      have tg : NoStr K H5 x ∨ ∃ a : Str, x = .str a ∧ a.length ≤ 900 ∧ Okc (tl a) := by
        rcases List.mem_append.mp (List.mem_of_getElem? hi) with h | h
        · exact .inr (sOk_of (List.all_eq_true.mp t4 x h))
        · refine .inl ?_
          simp only [List.mem_cons, List.not_mem_nil, or_false] at h
          rcases h with rfl | rfl | rfl | rfl | rfl
          · exact ⟨_, .base .non, kit_ty (by rfl)⟩
          · exact ⟨_, .base (.int _), kit_ty (by rfl)⟩
          · exact ⟨_, .base (.tup (s5 _ _ bt)), kit_ty (by rfl)⟩
          · exact ⟨_, .base (.lst (s5 _ _ bl)), kit_ty (by rfl)⟩
          · exact ⟨_, .base (.bl _), kit_ty (by rfl)⟩
      refine ⟨_, rfl, x, rfl, tg, fun H6 s6 => ?_⟩
      exact ⟨_, rfl, iteF ⟨_, _, _, _, _, _, _, _, _, rfl, s5.trans s6⟩⟩
    rintro σ Hz ⟨y1, y2, y3, y4, y5, y6, y7, y8, y9, rfl, s5⟩
    have hS := sqL_same s5 hS
    clear s5 eT bt bl t4 m4
    refine ⟨_, rfl, 30, rfl, a, _, rfl, hS, fun p9 n9 => ?_⟩
    have e9 : (upd Hz p9 (.lst (cutV (ns.map V.int) none (some 30)))) p9 = some (.lst (cutV (ns.map V.int) none (some 30))) := upd_same
    generalize upd Hz p9 (.lst (cutV (ns.map V.int) none (some 30))) = Ha at e9 ⊢
    refine ⟨(by show 1 ≤ sizeLine; decide), fun p8 n8 => ?_⟩
    have e98 := (same_new n8 (.lst [V.int 7])) _ _ e9
    refine ⟨p9, p8, _, _, rfl, rfl, e98, upd_same, ?_, fun L nL => ?_⟩
    · have := cutV_length (ns.map V.int) none (some 30)
      rw [List.length_map] at this
      rw [List.length_singleton]
      exact Nat.le_of_lt (small1000 (by omega))
    have eL : (upd (upd Ha p8 (.lst [V.int 7])) L (.lst (cutV (ns.map V.int) none (some 30) ++ [V.int 7]))) L = some (.lst (cutV (ns.map V.int) none (some 30) ++ [V.int 7])) := upd_same
    generalize upd (upd Ha p8 (.lst [V.int 7])) L (.lst (cutV (ns.map V.int) none (some 30) ++ [V.int 7])) = Hb at eL ⊢
    refine ⟨L, rfl, ⟨_, SqL.of eL⟩, for_list (K := K) (a := L) (xs := cutV (ns.map V.int) none (some 30) ++ [V.int 7]) (fun i σ H' => ∃ y1 y2 y3 y4 y5 y6 y7 y8 y9 : Option V, σ = [some (.ref a), y1, y2, y3, y4, y5, y6, y7, y8, y9] ∧ H' L = some (.lst (cutV (ns.map V.int) none (some 30) ++ [V.int 7])))
      ⟨_, _, _, _, _, _, _, _, _, rfl, eL⟩ (fun i σ H' _ ⟨_, _, _, _, _, _, _, _, _, _, e⟩ => SqL.of e) ?_ ?_⟩
    rotate_left
    · rintro σ H1 ⟨y1, y2, y3, y4, y5, y6, y7, y8, y9, rfl, _⟩
      exact q _
    rintro i xx σ H1 hi ⟨y1, y2, y3, y4, y5, y6, y7, y8, y9, rfl, hL⟩
    obtain ⟨c, rfl⟩ := cut_int hi
    clear hi eL e98 e9
    generalize cutV (ns.map V.int) none (some 30) ++ [V.int 7] = xs at hL ⊢
    refine ⟨_, rfl, c, rfl, fun l z0 nl => ?_⟩
    have hLl : L ≠ l := ne_of_none hL nl
    have hl1 : (upd H1 l (.lst [.int z0])) l = some (.lst [.int z0]) := upd_same
    have hL1 : (upd H1 l (.lst [.int z0])) L = some (.lst xs) := by rw [upd_ne hLl]; exact hL
    generalize upd H1 l (.lst [.int z0]) = H2 at hl1 hL1 ⊢
    clear hL nl
    refine ⟨_, rfl, l, z0, rfl, hl1, fun p r z1 H3 sb3 hl3 hp hb => ?_⟩
    have hL3 := sb3 _ _ hLl hL1
    have ln := shR_len hb (by decide)
    have oc := okc_shR r
    refine ⟨_, rfl, p, r, 101, rfl, hp, hb, by decide, by decide, ?_⟩
    refine ⟨_, rfl, p, r, 101, rfl, hp, hb, by decide, by decide, _, rfl, rfl, _, rfl, ?_⟩
    rw [decide_eq_true rfl]
    refine iteF ?_
    refine ⟨_, rfl, .str (shR r), rfl, .inr ⟨shR r, rfl, by omega, fun r2 p2 H4 er s4 hp2 => ?_, fun er => by rw [rd_sh] at er; cases er⟩⟩
    rw [rd_sh] at er
    cases er
    refine ⟨_, rfl, dR r, dR r, dp_r hp2, dp_r (seqT s4 hp), rfl, rfl, _, rfl, ?_⟩
    rw [eqv_dR, decide_eq_true rfl]
    refine iteF ?_
    have hl4 := s4 _ _ hl3
    have hL4 := s4 _ _ hL3
    clear hp hp2 hb
    generalize shR r = tx at ln oc ⊢
    refine ⟨_, rfl, _, rfl, tx, rfl, by omega, (tx.length : Int), 1, rfl, rfl, l, z1, (tx.length : Int) + 1, rfl, hl4, by omega, Nat.lt_of_le_of_lt (m := 300) (by omega) (by decide), fun d z2 d0 d1 => ?_⟩
    have hl5 : (upd H4 l (.lst [.int z2])) l = some (.lst [.int z2]) := upd_same
    have hL5 : (upd H4 l (.lst [.int z2])) L = some (.lst xs) := by rw [upd_ne hLl]; exact hL4
    generalize upd H4 l (.lst [.int z2]) = H5 at hl5 hL5 ⊢
    refine ⟨_, rfl, l, z2, 18, rfl, hl5, by decide, by decide, fun e z3 e0 e1 => ?_⟩
    have hL6 : (upd H5 l (.lst [.int z3])) L = some (.lst xs) := by rw [upd_ne hLl]; exact hL5
    generalize upd H5 l (.lst [.int z3]) = H6 at hL6 ⊢
    obtain ⟨cp, ec, cl⟩ := sgn_at e0 e1
    refine ⟨_, e, cp, rfl, rfl, by decide, ec, ?_⟩
    have os : Okc (tl (⟨#[cp]⟩ : Str)) := fun c hc => by rw [List.mem_singleton.mp hc]; exact cl
    have ls : (⟨#[cp]⟩ : Str).length = 1 := rfl
    generalize (⟨#[cp]⟩ : Str) = sg at os ls ⊢
    have k1 := cutS_length tx none (some d)
    have k2 := cutS_length tx (some (d + 1)) none
    have k3 := cutS_length tx (some d) none
    have o1 : Okc (tl (cutS tx none (some d))) := okc_cut oc
    have o2 : Okc (tl (cutS tx (some (d + 1)) none)) := okc_cut oc
    have o3 : Okc (tl (cutS tx (some d) none)) := okc_cut oc
    have j1 : (cutS tx none (some d) ++ cutS tx (some (d + 1)) none).length ≤ 900 := by simp only [app_len]; omega
    have j2 : (cutS tx none (some d) ++ sg ++ cutS tx (some d) none).length ≤ 900 := by simp only [app_len]; omega
    have j3 : (cutS tx none (some d) ++ sg ++ cutS tx (some (d + 1)) none).length ≤ 900 := by simp only [app_len]; omega
    refine ⟨_, rfl, _, rfl, d, rfl, tx, rfl, (by omega), _, rfl, _, rfl, d, 1, rfl, rfl, d + 1, rfl, tx, rfl, (by omega), _, _, rfl, rfl, by omega, _, rfl, _, rfl, d, rfl, tx, rfl, (by omega), _, rfl, _, _, rfl, rfl, by omega, _, rfl, _, rfl, d, rfl, tx, rfl, (by omega), _, _, rfl, rfl, by rw [app_len]; omega, _, rfl, _, rfl, d, rfl, tx, rfl, (by omega), _, rfl, _, _, rfl, rfl, by omega, _, rfl, _, rfl, d, 1, rfl, rfl, d + 1, rfl, tx, rfl, (by omega), _, _, rfl, rfl, by rw [app_len]; omega, (by show 3 ≤ sizeLine; decide), fun W nW => ?_⟩
    have s7 := same_new nW (.lst [V.str (cutS tx none (some d) ++ cutS tx (some (d + 1)) none), V.str (cutS tx none (some d) ++ sg ++ cutS tx (some d) none), V.str (cutS tx none (some d) ++ sg ++ cutS tx (some (d + 1)) none)])
    have eW : (upd H6 W (.lst [V.str (cutS tx none (some d) ++ cutS tx (some (d + 1)) none), V.str (cutS tx none (some d) ++ sg ++ cutS tx (some d) none), V.str (cutS tx none (some d) ++ sg ++ cutS tx (some (d + 1)) none)])) W = some (.lst [V.str (cutS tx none (some d) ++ cutS tx (some (d + 1)) none), V.str (cutS tx none (some d) ++ sg ++ cutS tx (some d) none), V.str (cutS tx none (some d) ++ sg ++ cutS tx (some (d + 1)) none)]) := upd_same
    generalize upd H6 W (.lst [V.str (cutS tx none (some d) ++ cutS tx (some (d + 1)) none), V.str (cutS tx none (some d) ++ sg ++ cutS tx (some d) none), V.str (cutS tx none (some d) ++ sg ++ cutS tx (some (d + 1)) none)]) = H7 at s7 eW ⊢
    have hL7 := s7 _ _ hL6
    refine ⟨W, rfl, ⟨_, SqL.of eW⟩, for_list (K := K) (a := W) (xs := [V.str (cutS tx none (some d) ++ cutS tx (some (d + 1)) none), V.str (cutS tx none (some d) ++ sg ++ cutS tx (some d) none), V.str (cutS tx none (some d) ++ sg ++ cutS tx (some (d + 1)) none)]) (fun i σ H' => ∃ y1 y2 y3 y4 y5 y6 y7 y8 y9 : Option V, σ = [some (.ref a), y1, y2, y3, y4, y5, y6, y7, y8, y9] ∧ Same H7 H')
      ⟨_, _, _, _, _, _, _, _, _, rfl, Same.refl _⟩ (fun i σ H' _ ⟨_, _, _, _, _, _, _, _, _, _, s⟩ => SqL.of (s _ _ eW)) ?_ ?_⟩
    · rintro i x σ H8 hi ⟨y1, y2, y3, y4, y5, y6, y7, y8, y9, rfl, s8⟩
      have tg : ∃ a : Str, x = .str a ∧ a.length ≤ 900 ∧ Okc (tl a) := by
        have h := List.mem_of_getElem? hi
        simp only [List.mem_cons, List.not_mem_nil, or_false] at h
        rcases h with rfl | rfl | rfl
        · exact ⟨_, rfl, j1, okc_app o1 o2⟩
        · exact ⟨_, rfl, j2, okc_app (okc_app o1 os) o3⟩
        · exact ⟨_, rfl, j3, okc_app (okc_app o1 os) o2⟩
      refine ⟨_, rfl, x, rfl, .inr tg, fun H9 s9 => ?_⟩
      exact ⟨_, rfl, iteF ⟨_, _, _, _, _, _, _, _, _, rfl, s8.trans s9⟩⟩
    rintro σ H8 ⟨y1, y2, y3, y4, y5, y6, y7, y8, y9, rfl, s8⟩
    exact ⟨_, _, _, _, _, _, _, _, _, rfl, s8 _ _ hL7⟩
end
end K03

set_option Elab.async false
set_option linter.all false
set_option maxRecDepth 100000
set_option maxHeartbeats 4000000
/-! what the top leaves, by facts that the kernel's own run of it shows -/
namespace Hk
open PySem PySem.Spec PyProof.Rows L2 He
abbrev Fk : Type := PySem.W.Frag → Bool
abbrev Ao : Type := Bool × List FnV × List FnW
/-- facts in groups, defs, defs with defaults -/
def see (fa : List (List Fk)) (fn : List FnD) (fd : List DefD) (K : PySem.W.Frag) : Ao := (fa.all (fun l => l.all (fun f => f K)), fn.map (fun d => fnObs K d.at_), fd.map (fun d => fnW K d.at_))
def want (fn : List FnD) (fd : List DefD) : Ao := (true, fn.map FnD.val, fd.map DefD.val)
def Tells (fa : List (List Fk)) (fn : List FnD) (fd : List DefD) (K : PySem.W.Frag) : Prop := see fa fn fd K = want fn fd
def seeG (as : List Addr) (fa : List (List Fk)) (fn : List FnD) (fd : List DefD) (g : Addr → Option Obj) : Ao := see fa fn fd (frG g as)
def hook (as : List Addr) (fa : List (List Fk)) (fn : List FnD) (fd : List DefD) : PySem.W.Hook :=
  { α := Ao, obs := fun s => seeG as fa fn fd s.heap.get?, val := fun _ => want fn fd, says := fun _ h => ∃ K : PySem.W.Frag, K.In h ∧ Tells fa fn fd K,
    of := fun _ _ e => ⟨_, frG_in, e⟩, keeps := fun _ _ _ z k => let ⟨K, a, b⟩ := z; ⟨K, PySem.W.Frag.In.keeps a k, b⟩ }
theorem seeG_eq {as : List Addr} {fa : List (List Fk)} {fn : List FnD} {fd : List DefD} {g : Addr → Option Obj} {s : Shared} (h : ∀ a, g a = s.heap.get? a) : seeG as fa fn fd g = (hook as fa fn fd).obs s := by
  rw [show g = s.heap.get? from funext h] <;> rfl
section
variable {fa : List (List Fk)} {fn : List FnD} {fd : List DefD} {K : PySem.W.Frag}
theorem Tells.fact (c : Tells fa fn fd K) (i j : Nat) {l : List Fk} {f : Fk} (h : fa[i]? = some l) (g : l[j]? = some f) : f K = true := by
  have c1 : fa.all (fun l => l.all (fun f => f K)) = true := congrArg (fun z : Ao => z.1) c
  exact List.all_eq_true.mp (List.all_eq_true.mp c1 l (List.mem_of_getElem? h)) f (List.mem_of_getElem? g)
theorem Tells.fnAt (c : Tells fa fn fd K) (i : Nat) {d : FnD} (h : fn[i]? = some d) (k : (Fa.code d.at_ d.qual).ok K = true) :
    ∃ oc od osl kV doc pm an cdv ct, K.lookup (fAd K d.at_) = some ⟨oc, od, .func (PySem.W.fnOf d.name d.qual d.params d.body d.scope .none kV doc pm an cdv ct), osl⟩ ∧ PySem.W.codeIn K cdv d.qual = true := by
  have e : fn.map (fun d => fnObs K d.at_) = fn.map FnD.val := congrArg (fun z : Ao => z.2.1) c
  have e2 : (fn.map (fun d => fnObs K d.at_))[i]? = (fn.map FnD.val)[i]? := by rw [e]
  rw [List.getElem?_map, List.getElem?_map, h] at e2
  exact fn_ok (Option.some.inj e2) k
theorem Tells.fdAt (c : Tells fa fn fd K) (i : Nat) {d : DefD} (h : fd[i]? = some d) (k : d.ok K = true) : ∃ f, FunD K d.name d.qual d.params d.body d.scope (d.dvs K) (d.kws K) (fAd K d.at_) f := by
  have e : fd.map (fun d => fnW K d.at_) = fd.map DefD.val := congrArg (fun z : Ao => z.2.2) c
  have e2 : (fd.map (fun d => fnW K d.at_))[i]? = (fd.map DefD.val)[i]? := by rw [e]
  rw [List.getElem?_map, List.getElem?_map, h] at e2
  exact DefD.funD (Option.some.inj e2) k
end
/-- the namespace of the class at C -/
def nsA (K : PySem.W.Frag) (C : Addr) : Addr := match K.lookup C with
  | some ⟨_, _, .cls cd, _⟩ => cd.ns
  | _ => 0
/-- a class of this tail, this __new__ -/
def clsB (C : PySem.W.Frag → Addr) (tl : List Value) (hd : Bool) (nw : String) : Fk := fun K => match K.lookup (C K) with
  | some ⟨.type "type", _, .cls cd, sl⟩ => (match cd.mro, sl.toList with
    | .ref C' :: bm, [_, _, _, _, some (.builtin n), _] => decide (C' = C K) && (decide (n = nw) && (!cd.hasDel && (decide (bm = tl) && (!hd || cd.hasDict))))
    | _, _ => false)
  | _ => false
theorem clsB_ok {C : PySem.W.Frag → Addr} {tl : List Value} {hd : Bool} {nw : String} {K : PySem.W.Frag} (h : clsB C tl hd nw K = true) :
    ∃ nm q bs hdct sn sub ab col dd k0 k1 k2 k3 k5, K.lookup (C K) = some (excClassObj nm q (C K) (nsA K (C K)) bs tl hdct sn sub ab col dd k0 k1 k2 k3 k5 nw) ∧ (hd = true → hdct = true) := by
  unfold clsB at h
  split at h
  · rename_i dd cd sl ho
    split at h
    · rename_i C' bm k0 k1 k2 k3 n k5 hm hs
      simp only [Bool.and_eq_true, decide_eq_true_eq, Bool.not_eq_true', Bool.or_eq_true] at h
      obtain ⟨e1, e2, e3, e4, e5⟩ := h
      subst e1 e2 e4
      have eN : nsA K (C K) = cd.ns := by
        unfold nsA
        rw [ho]
      obtain ⟨nm, bs, mro, ns, qn, hdd, sn, sub, ab, col, del⟩ := cd
      dsimp only at hm e3 e5 eN
      subst hm e3
      have esl : sl = #[k0, k1, k2, k3, some (.builtin n), k5] := by
        obtain ⟨l⟩ := sl
        simp only at hs
        rw [hs]
      subst esl
      refine ⟨nm, qn, bs, hdd, sn, sub, ab, col, dd, k0, k1, k2, k3, k5, by rw [ho, eN], fun e => ?_⟩
      subst e
      rcases e5 with z | z
      · cases z
      · exact z
    · cases h
  · cases h
theorem clsT {C : PySem.W.Frag → Addr} {tl : List Value} {nw : String} {K : PySem.W.Frag} (h : clsB C tl true nw K = true) :
    ∃ nm q N bs sn sub ab col dd k0 k1 k2 k3 k5, K.lookup (C K) = some (excClassObj nm q (C K) N bs tl true sn sub ab col dd k0 k1 k2 k3 k5 nw) := by
  obtain ⟨nm, q, bs, hdct, sn, sub, ab, col, dd, k0, k1, k2, k3, k5, e, z⟩ := clsB_ok h
  cases z rfl
  exact ⟨nm, q, _, bs, sn, sub, ab, col, dd, k0, k1, k2, k3, k5, e⟩
/-- the object at an address is of the built-in type T -/
def tyB (f : PySem.W.Frag → Addr) (T : String) : Fk := fun K => match K.lookup (f K) with
  | some ⟨.type t, _, _, _⟩ => decide (t = T)
  | _ => false
theorem tyB_ok {f : PySem.W.Frag → Addr} {T : String} {K : PySem.W.Frag} {o : Obj} (h : tyB f T K = true) (e : K.lookup (f K) = some o) : o.cls = .type T := by
  unfold tyB at h
  rw [e] at h
  obtain ⟨oc, od, dt, osl⟩ := o
  cases oc with
  | type t =>
    have : t = T := of_decide_eq_true h
    rw [this]
  | _ => cases h
/-- a whole number by a name -/
def intB (x : Str) (i : Int) : Fk := fun K => match PySem.W.nsIn K mainGlobals x with
  | some (some (.int j _)) => decide (j = i)
  | _ => false
theorem intB_ok {x : Str} {i : Int} {K : PySem.W.Frag} (h : intB x i K = true) : ∃ t, PySem.W.nsIn K mainGlobals x = some (some (.int i t)) := by
  unfold intB at h
  cases e : PySem.W.nsIn K mainGlobals x with
  | none =>
    rw [e] at h
    cases h
  | some o =>
    rw [e] at h
    cases o with
    | none => cases h
    | some v =>
      cases v with
      | int j t =>
        have : j = i := of_decide_eq_true h
        exact ⟨t, by rw [this]⟩
      | _ => cases h
theorem both {α β γ : Type} {E : Option α} {f : α → β} {g : α → γ} {b : β} {c : γ} (h1 : E.map f = some b) (h2 : E.map g = some c) : E.map (fun s => (f s, g s)) = some (b, c) := by
  cases E with
  | none => cases h1
  | some x =>
    have e1 : f x = b := Option.some.inj h1
    have e2 : g x = c := Option.some.inj h2
    show some (f x, g x) = some (b, c)
    rw [e1, e2]
/-- so many facts of what a state holds -/
def facB {α : Type} (k : α → PySem.W.Frag) (fa : List (List Fk)) (s : α) : Bool := fa.all (fun l => l.all (fun f => f (k s)))
theorem facs {α : Type} {E : Option α} {k : α → PySem.W.Frag} {fa fb : List (List Fk)} (h1 : E.map (facB k fa) = some true) (h2 : E.map (facB k fb) = some true) : E.map (facB k (fa ++ fb)) = some true := by
  cases E with
  | none => cases h1
  | some x =>
    have e1 : facB k fa x = true := Option.some.inj h1
    have e2 : facB k fb x = true := Option.some.inj h2
    show some ((fa ++ fb).all fun l => l.all fun f => f (k x)) = some true
    rw [List.all_append]
    unfold facB at e1 e2
    rw [e1, e2]
    rfl
def defB {α : Type} (k : α → PySem.W.Frag) (fn : List FnD) (s : α) : List FnV := fn.map (fun d => fnObs (k s) d.at_)
theorem defs {α : Type} {E : Option α} {k : α → PySem.W.Frag} {fa fb : List FnD} (h1 : E.map (defB k fa) = some (fa.map FnD.val)) (h2 : E.map (defB k fb) = some (fb.map FnD.val)) : E.map (defB k (fa ++ fb)) = some ((fa ++ fb).map FnD.val) := by
  cases E with
  | none => cases h1
  | some x =>
    have e1 : defB k fa x = fa.map FnD.val := Option.some.inj h1
    have e2 : defB k fb x = fb.map FnD.val := Option.some.inj h2
    show some ((fa ++ fb).map fun d => fnObs (k x) d.at_) = some ((fa ++ fb).map FnD.val)
    unfold defB at e1 e2
    rw [List.map_append, List.map_append, e1, e2]
/-- as walk_ofE, of a promise that holds where nothing is being shown -/
theorem walk_ofEG {l : PySem.W.OpenLaw} {n k : Nat} {q : Program} {loose : List Str} {XP : (Str → Option Value) → Heap → Prop} {YP : World → Heap → Prop} {d : DefRec} {CX : CXT} {x : Str}
    (hn : l.most = some n) (hn2 : n ≤ sizeLine) (hdf : d.params.defaults = []) (hr : Room k callerA)
    (F : ∀ (w : World) (mg : Str → Option Value) (fa : Addr) (h : Heap), YP w h → h.Ns mainGlobals mg → mg d.name = some (.ref fa) →
      ∃ (K : PySem.W.Frag) (fd : FuncData) (sp : Sp), K.In h ∧ (∀ (s : Shared) (u : Value), BindsTo s fd ⟨[u], []⟩ [(x, u)]) ∧
        (∀ (H : Hp) (a : Addr) (ns : List Int), ns.length ≤ n → Only H → SqL K H a (ns.map V.int) → sp [.ref a] H (fun v _ => v = .bl true) fun _ _ _ => False) ∧
        ∀ base : Heap, K.In base → base.Ns mainGlobals mg → BX.FnOkG l.prog w K mg base CX k fa fd [x] sp)
    (hCX : ∀ (H : Hp) (s : Shared) (e : Value) (s' : Shared), CX [] H s (fun _ _ _ => False) e s' → False) :
    PySem.W.WalkO q loose XP YP l.row.toRowW d [] (fun f vs => PySem.call f vs) := by
  refine Att.attach_call hn hdf fun w s0 s1 mg mb fa o pm cd doc a vs ns G Y ho hd hcd hmg hobj hints hlen hg => ?_
  obtain ⟨K, fd, sp, KX, hb, hsp, hF⟩ := F w mg fa _ Y G.T.g hmg
  exact BX.law_callG KX G.T.g G.T.b G.T.builtins G.T.nolimit hg hobj hints (Nat.le_trans hlen hn2) hr hF hb (fun H hO hS => hsp H a ns hlen hO hS) fun H e s' => hCX H s1 e s'
end Hk

set_option Elab.async false
set_option linter.all false
set_option maxRecDepth 100000
set_option maxHeartbeats 8000000
namespace K03
open PySem PySem.Spec PyProof.Rows L2 BX EXB Co Ru
open Dz Cs Hr Gs Nt
theorem all_mk {l : PySem.W.OpenLaw} {w : World} {K : PySem.W.Frag} {h : Heap} {mg : Str → Option Value} {fa f_d_is_whole f_d_is_ratio f_d_divisor f_d_law_left f_d_law_digit f_d_law_low f_d_shown_ratio f_d_ratio_of f_d_is_figures f_d_read_ratio f_d_law_ratio f_d_law_text f_d_law_number f_d_law_due f_d_law_read f_d_law_right f_d_law C_T f_i_T : Addr} (X : K.In h) (G : h.Ns mainGlobals mg) (hfa : mg "law" = some (.ref fa)) {nm_T q_T : Str} {N_T : Addr} {bs_T : List Value} {sn_T : List Str} {su_T : List Value} {ab_T : Bool} {co_T : Option Bool} {dd_T : Option Addr} {m0_T m1_T m2_T m3_T m5_T : Option Value}
    {od_d_is_whole an_d_is_whole : Option Addr} {sl_d_is_whole : Array (Option Value)} {oc_d_is_whole kV_d_is_whole dc_d_is_whole pm_d_is_whole cd_d_is_whole ct_d_is_whole : Value}
    {od_d_is_ratio an_d_is_ratio : Option Addr} {sl_d_is_ratio : Array (Option Value)} {oc_d_is_ratio kV_d_is_ratio dc_d_is_ratio pm_d_is_ratio cd_d_is_ratio ct_d_is_ratio : Value}
    {od_d_divisor an_d_divisor : Option Addr} {sl_d_divisor : Array (Option Value)} {oc_d_divisor kV_d_divisor dc_d_divisor pm_d_divisor cd_d_divisor ct_d_divisor : Value}
    {od_d_law_left an_d_law_left : Option Addr} {sl_d_law_left : Array (Option Value)} {oc_d_law_left kV_d_law_left dc_d_law_left pm_d_law_left cd_d_law_left ct_d_law_left : Value}
    {od_d_law_digit an_d_law_digit : Option Addr} {sl_d_law_digit : Array (Option Value)} {oc_d_law_digit kV_d_law_digit dc_d_law_digit pm_d_law_digit cd_d_law_digit ct_d_law_digit : Value}
    {od_d_law_low an_d_law_low : Option Addr} {sl_d_law_low : Array (Option Value)} {oc_d_law_low kV_d_law_low dc_d_law_low pm_d_law_low cd_d_law_low ct_d_law_low : Value}
    {od_d_shown_ratio an_d_shown_ratio : Option Addr} {sl_d_shown_ratio : Array (Option Value)} {oc_d_shown_ratio kV_d_shown_ratio dc_d_shown_ratio pm_d_shown_ratio cd_d_shown_ratio ct_d_shown_ratio : Value}
    {od_d_ratio_of an_d_ratio_of : Option Addr} {sl_d_ratio_of : Array (Option Value)} {oc_d_ratio_of kV_d_ratio_of dc_d_ratio_of pm_d_ratio_of cd_d_ratio_of ct_d_ratio_of : Value}
    {od_d_is_figures an_d_is_figures : Option Addr} {sl_d_is_figures : Array (Option Value)} {oc_d_is_figures kV_d_is_figures dc_d_is_figures pm_d_is_figures cd_d_is_figures ct_d_is_figures : Value}
    {od_d_read_ratio an_d_read_ratio : Option Addr} {sl_d_read_ratio : Array (Option Value)} {oc_d_read_ratio kV_d_read_ratio dc_d_read_ratio pm_d_read_ratio cd_d_read_ratio ct_d_read_ratio : Value}
    {od_d_law_ratio an_d_law_ratio : Option Addr} {sl_d_law_ratio : Array (Option Value)} {oc_d_law_ratio kV_d_law_ratio dc_d_law_ratio pm_d_law_ratio cd_d_law_ratio ct_d_law_ratio : Value}
    {od_d_law_text an_d_law_text : Option Addr} {sl_d_law_text : Array (Option Value)} {oc_d_law_text kV_d_law_text dc_d_law_text pm_d_law_text cd_d_law_text ct_d_law_text : Value}
    {od_d_law_number an_d_law_number : Option Addr} {sl_d_law_number : Array (Option Value)} {oc_d_law_number kV_d_law_number dc_d_law_number pm_d_law_number cd_d_law_number ct_d_law_number : Value}
    {od_d_law_due an_d_law_due : Option Addr} {sl_d_law_due : Array (Option Value)} {oc_d_law_due kV_d_law_due dc_d_law_due pm_d_law_due cd_d_law_due ct_d_law_due : Value}
    {od_d_law_read an_d_law_read : Option Addr} {sl_d_law_read : Array (Option Value)} {oc_d_law_read kV_d_law_read dc_d_law_read pm_d_law_read cd_d_law_read ct_d_law_read : Value}
    {od_d_law_right an_d_law_right : Option Addr} {sl_d_law_right : Array (Option Value)} {oc_d_law_right kV_d_law_right dc_d_law_right pm_d_law_right cd_d_law_right ct_d_law_right : Value}
    {od_d_law an_d_law : Option Addr} {sl_d_law : Array (Option Value)} {oc_d_law kV_d_law dc_d_law pm_d_law cd_d_law ct_d_law : Value}
    {od_i_T an_i_T : Option Addr} {sl_i_T : Array (Option Value)} {oc_i_T kV_i_T dc_i_T pm_i_T cd_i_T ct_i_T : Value}
    (a_d_is_whole : PySem.W.nsIn K mainGlobals "is_whole" = some (some (.ref f_d_is_whole)))
    (l_d_is_whole : K.lookup f_d_is_whole = some ⟨oc_d_is_whole, od_d_is_whole, .func (PySem.W.fnOf "is_whole" "is_whole" (defArgs sWhole) (defBody sWhole) (defScope sWhole) .none kV_d_is_whole dc_d_is_whole pm_d_is_whole an_d_is_whole cd_d_is_whole ct_d_is_whole), sl_d_is_whole⟩)
    (c_d_is_whole : PySem.W.codeIn K cd_d_is_whole "is_whole" = true)
    (k_d_is_whole : PySem.W.keepIn K (.ref f_d_is_whole) = true)
    (a_d_is_ratio : PySem.W.nsIn K mainGlobals "is_ratio" = some (some (.ref f_d_is_ratio)))
    (l_d_is_ratio : K.lookup f_d_is_ratio = some ⟨oc_d_is_ratio, od_d_is_ratio, .func (PySem.W.fnOf "is_ratio" "is_ratio" (defArgs sIsR) (defBody sIsR) (defScope sIsR) .none kV_d_is_ratio dc_d_is_ratio pm_d_is_ratio an_d_is_ratio cd_d_is_ratio ct_d_is_ratio), sl_d_is_ratio⟩)
    (c_d_is_ratio : PySem.W.codeIn K cd_d_is_ratio "is_ratio" = true)
    (k_d_is_ratio : PySem.W.keepIn K (.ref f_d_is_ratio) = true)
    (a_d_divisor : PySem.W.nsIn K mainGlobals "divisor" = some (some (.ref f_d_divisor)))
    (l_d_divisor : K.lookup f_d_divisor = some ⟨oc_d_divisor, od_d_divisor, .func (PySem.W.fnOf "divisor" "divisor" (defArgs sDiv) (defBody sDiv) (defScope sDiv) .none kV_d_divisor dc_d_divisor pm_d_divisor an_d_divisor cd_d_divisor ct_d_divisor), sl_d_divisor⟩)
    (c_d_divisor : PySem.W.codeIn K cd_d_divisor "divisor" = true)
    (k_d_divisor : PySem.W.keepIn K (.ref f_d_divisor) = true)
    (a_d_law_left : PySem.W.nsIn K mainGlobals "_law_left" = some (some (.ref f_d_law_left)))
    (l_d_law_left : K.lookup f_d_law_left = some ⟨oc_d_law_left, od_d_law_left, .func (PySem.W.fnOf "_law_left" "_law_left" (defArgs sLeft) (defBody sLeft) (defScope sLeft) .none kV_d_law_left dc_d_law_left pm_d_law_left an_d_law_left cd_d_law_left ct_d_law_left), sl_d_law_left⟩)
    (c_d_law_left : PySem.W.codeIn K cd_d_law_left "_law_left" = true)
    (k_d_law_left : PySem.W.keepIn K (.ref f_d_law_left) = true)
    (a_d_law_digit : PySem.W.nsIn K mainGlobals "_law_digit" = some (some (.ref f_d_law_digit)))
    (l_d_law_digit : K.lookup f_d_law_digit = some ⟨oc_d_law_digit, od_d_law_digit, .func (PySem.W.fnOf "_law_digit" "_law_digit" (defArgs sDigit) (defBody sDigit) (defScope sDigit) .none kV_d_law_digit dc_d_law_digit pm_d_law_digit an_d_law_digit cd_d_law_digit ct_d_law_digit), sl_d_law_digit⟩)
    (c_d_law_digit : PySem.W.codeIn K cd_d_law_digit "_law_digit" = true)
    (k_d_law_digit : PySem.W.keepIn K (.ref f_d_law_digit) = true)
    (a_d_law_low : PySem.W.nsIn K mainGlobals "_law_low" = some (some (.ref f_d_law_low)))
    (l_d_law_low : K.lookup f_d_law_low = some ⟨oc_d_law_low, od_d_law_low, .func (PySem.W.fnOf "_law_low" "_law_low" (defArgs sLow) (defBody sLow) (defScope sLow) .none kV_d_law_low dc_d_law_low pm_d_law_low an_d_law_low cd_d_law_low ct_d_law_low), sl_d_law_low⟩)
    (c_d_law_low : PySem.W.codeIn K cd_d_law_low "_law_low" = true)
    (k_d_law_low : PySem.W.keepIn K (.ref f_d_law_low) = true)
    (a_d_shown_ratio : PySem.W.nsIn K mainGlobals "shown_ratio" = some (some (.ref f_d_shown_ratio)))
    (l_d_shown_ratio : K.lookup f_d_shown_ratio = some ⟨oc_d_shown_ratio, od_d_shown_ratio, .func (PySem.W.fnOf "shown_ratio" "shown_ratio" (defArgs sShR) (defBody sShR) (defScope sShR) .none kV_d_shown_ratio dc_d_shown_ratio pm_d_shown_ratio an_d_shown_ratio cd_d_shown_ratio ct_d_shown_ratio), sl_d_shown_ratio⟩)
    (c_d_shown_ratio : PySem.W.codeIn K cd_d_shown_ratio "shown_ratio" = true)
    (k_d_shown_ratio : PySem.W.keepIn K (.ref f_d_shown_ratio) = true)
    (a_d_ratio_of : PySem.W.nsIn K mainGlobals "ratio_of" = some (some (.ref f_d_ratio_of)))
    (l_d_ratio_of : K.lookup f_d_ratio_of = some ⟨oc_d_ratio_of, od_d_ratio_of, .func (PySem.W.fnOf "ratio_of" "ratio_of" (defArgs sRatOf) (defBody sRatOf) (defScope sRatOf) .none kV_d_ratio_of dc_d_ratio_of pm_d_ratio_of an_d_ratio_of cd_d_ratio_of ct_d_ratio_of), sl_d_ratio_of⟩)
    (c_d_ratio_of : PySem.W.codeIn K cd_d_ratio_of "ratio_of" = true)
    (k_d_ratio_of : PySem.W.keepIn K (.ref f_d_ratio_of) = true)
    (a_d_is_figures : PySem.W.nsIn K mainGlobals "is_figures" = some (some (.ref f_d_is_figures)))
    (l_d_is_figures : K.lookup f_d_is_figures = some ⟨oc_d_is_figures, od_d_is_figures, .func (PySem.W.fnOf "is_figures" "is_figures" (defArgs sFig) (defBody sFig) (defScope sFig) .none kV_d_is_figures dc_d_is_figures pm_d_is_figures an_d_is_figures cd_d_is_figures ct_d_is_figures), sl_d_is_figures⟩)
    (c_d_is_figures : PySem.W.codeIn K cd_d_is_figures "is_figures" = true)
    (k_d_is_figures : PySem.W.keepIn K (.ref f_d_is_figures) = true)
    (a_d_read_ratio : PySem.W.nsIn K mainGlobals "read_ratio" = some (some (.ref f_d_read_ratio)))
    (l_d_read_ratio : K.lookup f_d_read_ratio = some ⟨oc_d_read_ratio, od_d_read_ratio, .func (PySem.W.fnOf "read_ratio" "read_ratio" (defArgs sReadR) (defBody sReadR) (defScope sReadR) .none kV_d_read_ratio dc_d_read_ratio pm_d_read_ratio an_d_read_ratio cd_d_read_ratio ct_d_read_ratio), sl_d_read_ratio⟩)
    (c_d_read_ratio : PySem.W.codeIn K cd_d_read_ratio "read_ratio" = true)
    (k_d_read_ratio : PySem.W.keepIn K (.ref f_d_read_ratio) = true)
    (a_d_law_ratio : PySem.W.nsIn K mainGlobals "_law_ratio" = some (some (.ref f_d_law_ratio)))
    (l_d_law_ratio : K.lookup f_d_law_ratio = some ⟨oc_d_law_ratio, od_d_law_ratio, .func (PySem.W.fnOf "_law_ratio" "_law_ratio" (defArgs sLRatio) (defBody sLRatio) (defScope sLRatio) .none kV_d_law_ratio dc_d_law_ratio pm_d_law_ratio an_d_law_ratio cd_d_law_ratio ct_d_law_ratio), sl_d_law_ratio⟩)
    (c_d_law_ratio : PySem.W.codeIn K cd_d_law_ratio "_law_ratio" = true)
    (k_d_law_ratio : PySem.W.keepIn K (.ref f_d_law_ratio) = true)
    (a_d_law_text : PySem.W.nsIn K mainGlobals "_law_text" = some (some (.ref f_d_law_text)))
    (l_d_law_text : K.lookup f_d_law_text = some ⟨oc_d_law_text, od_d_law_text, .func (PySem.W.fnOf "_law_text" "_law_text" (defArgs sLText) (defBody sLText) (defScope sLText) .none kV_d_law_text dc_d_law_text pm_d_law_text an_d_law_text cd_d_law_text ct_d_law_text), sl_d_law_text⟩)
    (c_d_law_text : PySem.W.codeIn K cd_d_law_text "_law_text" = true)
    (k_d_law_text : PySem.W.keepIn K (.ref f_d_law_text) = true)
    (a_d_law_number : PySem.W.nsIn K mainGlobals "_law_number" = some (some (.ref f_d_law_number)))
    (l_d_law_number : K.lookup f_d_law_number = some ⟨oc_d_law_number, od_d_law_number, .func (PySem.W.fnOf "_law_number" "_law_number" (defArgs sLNum) (defBody sLNum) (defScope sLNum) .none kV_d_law_number dc_d_law_number pm_d_law_number an_d_law_number cd_d_law_number ct_d_law_number), sl_d_law_number⟩)
    (c_d_law_number : PySem.W.codeIn K cd_d_law_number "_law_number" = true)
    (k_d_law_number : PySem.W.keepIn K (.ref f_d_law_number) = true)
    (a_d_law_due : PySem.W.nsIn K mainGlobals "_law_due" = some (some (.ref f_d_law_due)))
    (l_d_law_due : K.lookup f_d_law_due = some ⟨oc_d_law_due, od_d_law_due, .func (PySem.W.fnOf "_law_due" "_law_due" (defArgs sDue03) (defBody sDue03) (defScope sDue03) .none kV_d_law_due dc_d_law_due pm_d_law_due an_d_law_due cd_d_law_due ct_d_law_due), sl_d_law_due⟩)
    (c_d_law_due : PySem.W.codeIn K cd_d_law_due "_law_due" = true)
    (k_d_law_due : PySem.W.keepIn K (.ref f_d_law_due) = true)
    (a_d_law_read : PySem.W.nsIn K mainGlobals "_law_read" = some (some (.ref f_d_law_read)))
    (l_d_law_read : K.lookup f_d_law_read = some ⟨oc_d_law_read, od_d_law_read, .func (PySem.W.fnOf "_law_read" "_law_read" (defArgs sLRead) (defBody sLRead) (defScope sLRead) .none kV_d_law_read dc_d_law_read pm_d_law_read an_d_law_read cd_d_law_read ct_d_law_read), sl_d_law_read⟩)
    (c_d_law_read : PySem.W.codeIn K cd_d_law_read "_law_read" = true)
    (k_d_law_read : PySem.W.keepIn K (.ref f_d_law_read) = true)
    (a_d_law_right : PySem.W.nsIn K mainGlobals "_law_right" = some (some (.ref f_d_law_right)))
    (l_d_law_right : K.lookup f_d_law_right = some ⟨oc_d_law_right, od_d_law_right, .func (PySem.W.fnOf "_law_right" "_law_right" (defArgs sRight03) (defBody sRight03) (defScope sRight03) .none kV_d_law_right dc_d_law_right pm_d_law_right an_d_law_right cd_d_law_right ct_d_law_right), sl_d_law_right⟩)
    (c_d_law_right : PySem.W.codeIn K cd_d_law_right "_law_right" = true)
    (k_d_law_right : PySem.W.keepIn K (.ref f_d_law_right) = true)
    (a_d_law : PySem.W.nsIn K mainGlobals "law" = some (some (.ref f_d_law)))
    (l_d_law : K.lookup f_d_law = some ⟨oc_d_law, od_d_law, .func (PySem.W.fnOf "law" "law" (defArgs sLaw) (defBody sLaw) (defScope sLaw) .none kV_d_law dc_d_law pm_d_law an_d_law cd_d_law ct_d_law), sl_d_law⟩)
    (c_d_law : PySem.W.codeIn K cd_d_law "law" = true)
    (k_d_law : PySem.W.keepIn K (.ref f_d_law) = true)
    (aC_T : PySem.W.nsIn K mainGlobals "NoText" = some (some (.ref C_T)))
    (xC_T : K.lookup C_T = some (excClassObj nm_T q_T C_T N_T bs_T [.type "ValueError", .type "Exception", .type "BaseException", .type "object"] true sn_T su_T ab_T co_T dd_T m0_T m1_T m2_T m3_T m5_T "ValueError.__new__"))
    (sa_T : PySem.W.findIn K (.ref C_T) "__setattr__" = some (some (.builtin "object.__setattr__")))
    (ga_T : PySem.W.findIn K (.ref C_T) "__getattribute__" = some (some (.builtin "BaseException.__getattribute__")))
    (gg_T : PySem.W.findIn K (.ref C_T) "__getattr__" = some none)
    (cl_T : PySem.W.findIn K (.ref C_T) "__class__" = some (some (.builtin "object.__class__")))
    (mo_T : PySem.W.mroIn K C_T (.type "object") = some true)
    (kC_T : PySem.W.keepIn K (.ref C_T) = true)
    (eC_T : PySem.W.subIn K (.ref C_T) (.type "BaseException") = some true)
    (tC_T : PySem.W.typeIn K (.ref C_T) = some (.type "type"))
    (hd_T : PySem.W.hasDictIn K C_T = true)
    (vV_T : PySem.W.findCls K (.type "ValueError") (.type "type") "__init__" = some (.val (.builtin "ValueError.__init__")))
    (sp_ : PySem.W.specialIn K (.builtin "object.__class__") "__get__" = some (some (.builtin "getset_descriptor.__get__")))
    (tk_ : PySem.W.takesIn K (.builtin "object.__class__") = some true)
    (i_i_T : PySem.W.findIn K (.ref C_T) "__init__" = some (some (.ref f_i_T)))
    (ty_i_T : PySem.W.typeIn K (.ref f_i_T) = some (.type "function"))
    (l_i_T : K.lookup f_i_T = some ⟨oc_i_T, od_i_T, .func (PySem.W.fnOf "__init__" "NoText.__init__" (defArgs sNtInit) (defBody sNtInit) (defScope sNtInit) .none kV_i_T dc_i_T pm_i_T an_i_T cd_i_T ct_i_T), sl_i_T⟩)
    (c_i_T : PySem.W.codeIn K cd_i_T "NoText.__init__" = true)
    (k_i_T : PySem.W.keepIn K (.ref f_i_T) = true)
    (no_T_part : PySem.W.findIn K (.ref C_T) "part" = some none)
    (sb_T_T : PySem.W.subIn K (.ref C_T) (.ref C_T) = some true)
    (kt_T_ValueError : PySem.W.kitOne K (.ref C_T) (.type "ValueError") = some true)
    (dgA : PySem.W.nsOkIn K cStatics = true)
    (dgB : PySem.W.nsIn K cStatics "sys.int_max_str_digits" = some none)
    (z_abs : PySem.W.nsIn K mainGlobals "abs" = some none)
    (z_isinstance : PySem.W.nsIn K mainGlobals "isinstance" = some none)
    (z_int : PySem.W.nsIn K mainGlobals "int" = some none)
    (z_bool : PySem.W.nsIn K mainGlobals "bool" = some none)
    (z_tuple : PySem.W.nsIn K mainGlobals "tuple" = some none)
    (z_list : PySem.W.nsIn K mainGlobals "list" = some none)
    (z_len : PySem.W.nsIn K mainGlobals "len" = some none)
    (z_range : PySem.W.nsIn K mainGlobals "range" = some none)
    (z_str : PySem.W.nsIn K mainGlobals "str" = some none)
    (z_repr : PySem.W.nsIn K mainGlobals "repr" = some none)
    (z_sum : PySem.W.nsIn K mainGlobals "sum" = some none)
    (z_all : PySem.W.nsIn K mainGlobals "all" = some none)
    (z_any : PySem.W.nsIn K mainGlobals "any" = some none)
    (z_enumerate : PySem.W.nsIn K mainGlobals "enumerate" = some none)
    (z_zip : PySem.W.nsIn K mainGlobals "zip" = some none)
    (z_min : PySem.W.nsIn K mainGlobals "min" = some none)
    (z_max : PySem.W.nsIn K mainGlobals "max" = some none)
    (z_sorted : PySem.W.nsIn K mainGlobals "sorted" = some none)
    (z_ValueError : PySem.W.nsIn K mainGlobals "ValueError" = some none)
    (z_ZeroDivisionError : PySem.W.nsIn K mainGlobals "ZeroDivisionError" = some none)
    (z_OverflowError : PySem.W.nsIn K mainGlobals "OverflowError" = some none)
    (z_IndexError : PySem.W.nsIn K mainGlobals "IndexError" = some none)
    (z_LookupError : PySem.W.nsIn K mainGlobals "LookupError" = some none)
    (z_ArithmeticError : PySem.W.nsIn K mainGlobals "ArithmeticError" = some none)
    (z_KeyError : PySem.W.nsIn K mainGlobals "KeyError" = some none)
    (z_RuntimeError : PySem.W.nsIn K mainGlobals "RuntimeError" = some none) :
    ∃ fd : FuncData, (∀ (s : Shared) (v : Value), BindsTo s fd ⟨[v], []⟩ [("_law_script", v)]) ∧ ∀ base : Heap, K.In base → base.Ns mainGlobals mg → FnOkG l.prog w K mg base CX0 15 fa fd ["_law_script"] (spLaw K) := by
  have e := hfa.symm.trans (PySem.W.mg_of X G a_d_law)
  cases e
  have B : Blt mg := ⟨PySem.W.mg_none_of X G z_abs, PySem.W.mg_none_of X G z_isinstance, PySem.W.mg_none_of X G z_int, PySem.W.mg_none_of X G z_bool, PySem.W.mg_none_of X G z_tuple, PySem.W.mg_none_of X G z_list, PySem.W.mg_none_of X G z_len, PySem.W.mg_none_of X G z_range, PySem.W.mg_none_of X G z_str, PySem.W.mg_none_of X G z_repr, PySem.W.mg_none_of X G z_sum, PySem.W.mg_none_of X G z_all, PySem.W.mg_none_of X G z_any, PySem.W.mg_none_of X G z_enumerate, PySem.W.mg_none_of X G z_zip, PySem.W.mg_none_of X G z_min, PySem.W.mg_none_of X G z_max, PySem.W.mg_none_of X G z_sorted, PySem.W.mg_none_of X G z_ValueError, PySem.W.mg_none_of X G z_ZeroDivisionError, PySem.W.mg_none_of X G z_OverflowError, PySem.W.mg_none_of X G z_IndexError, PySem.W.mg_none_of X G z_LookupError, PySem.W.mg_none_of X G z_ArithmeticError, PySem.W.mg_none_of X G z_KeyError, PySem.W.mg_none_of X G z_RuntimeError⟩
  have F_d_is_whole := fun_mk (st := sWhole) l_d_is_whole c_d_is_whole k_d_is_whole
  have b_d_is_whole := F_d_is_whole.binds (ps := ["thing"]) fun _ _ _ _ _ _ us hl => match us, hl with | [_], _ => rfl
  have g_d_is_whole := PySem.W.mg_of X G a_d_is_whole
  have F_d_is_ratio := fun_mk (st := sIsR) l_d_is_ratio c_d_is_ratio k_d_is_ratio
  have b_d_is_ratio := F_d_is_ratio.binds (ps := ["thing"]) fun _ _ _ _ _ _ us hl => match us, hl with | [_], _ => rfl
  have g_d_is_ratio := PySem.W.mg_of X G a_d_is_ratio
  have F_d_divisor := fun_mk (st := sDiv) l_d_divisor c_d_divisor k_d_divisor
  have b_d_divisor := F_d_divisor.binds (ps := ["one", "other"]) fun _ _ _ _ _ _ us hl => match us, hl with | [_, _], _ => rfl
  have g_d_divisor := PySem.W.mg_of X G a_d_divisor
  have F_d_law_left := fun_mk (st := sLeft) l_d_law_left c_d_law_left k_d_law_left
  have b_d_law_left := F_d_law_left.binds (ps := ["_law_cell"]) fun _ _ _ _ _ _ us hl => match us, hl with | [_], _ => rfl
  have g_d_law_left := PySem.W.mg_of X G a_d_law_left
  have F_d_law_digit := fun_mk (st := sDigit) l_d_law_digit c_d_law_digit k_d_law_digit
  have b_d_law_digit := F_d_law_digit.binds (ps := ["_law_left_here", "_law_many"]) fun _ _ _ _ _ _ us hl => match us, hl with | [_, _], _ => rfl
  have g_d_law_digit := PySem.W.mg_of X G a_d_law_digit
  have F_d_law_low := fun_mk (st := sLow) l_d_law_low c_d_law_low k_d_law_low
  have b_d_law_low := F_d_law_low.binds (ps := ["_law_top", "_law_bottom"]) fun _ _ _ _ _ _ us hl => match us, hl with | [_, _], _ => rfl
  have g_d_law_low := PySem.W.mg_of X G a_d_law_low
  have F_d_shown_ratio := fun_mk (st := sShR) l_d_shown_ratio c_d_shown_ratio k_d_shown_ratio
  have b_d_shown_ratio := F_d_shown_ratio.binds (ps := ["one"]) fun _ _ _ _ _ _ us hl => match us, hl with | [_], _ => rfl
  have g_d_shown_ratio := PySem.W.mg_of X G a_d_shown_ratio
  have F_d_ratio_of := fun_mk (st := sRatOf) l_d_ratio_of c_d_ratio_of k_d_ratio_of
  have b_d_ratio_of := F_d_ratio_of.binds (ps := ["text"]) fun _ _ _ _ _ _ us hl => match us, hl with | [_], _ => rfl
  have g_d_ratio_of := PySem.W.mg_of X G a_d_ratio_of
  have F_d_is_figures := fun_mk (st := sFig) l_d_is_figures c_d_is_figures k_d_is_figures
  have b_d_is_figures := F_d_is_figures.binds (ps := ["text"]) fun _ _ _ _ _ _ us hl => match us, hl with | [_], _ => rfl
  have g_d_is_figures := PySem.W.mg_of X G a_d_is_figures
  have F_d_read_ratio := fun_mk (st := sReadR) l_d_read_ratio c_d_read_ratio k_d_read_ratio
  have b_d_read_ratio := F_d_read_ratio.binds (ps := ["text"]) fun _ _ _ _ _ _ us hl => match us, hl with | [_], _ => rfl
  have g_d_read_ratio := PySem.W.mg_of X G a_d_read_ratio
  have F_d_law_ratio := fun_mk (st := sLRatio) l_d_law_ratio c_d_law_ratio k_d_law_ratio
  have b_d_law_ratio := F_d_law_ratio.binds (ps := ["_law_left_here"]) fun _ _ _ _ _ _ us hl => match us, hl with | [_], _ => rfl
  have g_d_law_ratio := PySem.W.mg_of X G a_d_law_ratio
  have F_d_law_text := fun_mk (st := sLText) l_d_law_text c_d_law_text k_d_law_text
  have b_d_law_text := F_d_law_text.binds (ps := ["_law_one"]) fun _ _ _ _ _ _ us hl => match us, hl with | [_], _ => rfl
  have g_d_law_text := PySem.W.mg_of X G a_d_law_text
  have F_d_law_number := fun_mk (st := sLNum) l_d_law_number c_d_law_number k_d_law_number
  have b_d_law_number := F_d_law_number.binds (ps := ["_law_text_here"]) fun _ _ _ _ _ _ us hl => match us, hl with | [_], _ => rfl
  have g_d_law_number := PySem.W.mg_of X G a_d_law_number
  have F_d_law_due := fun_mk (st := sDue03) l_d_law_due c_d_law_due k_d_law_due
  have b_d_law_due := F_d_law_due.binds (ps := ["_law_text_here"]) fun _ _ _ _ _ _ us hl => match us, hl with | [_], _ => rfl
  have g_d_law_due := PySem.W.mg_of X G a_d_law_due
  have F_d_law_read := fun_mk (st := sLRead) l_d_law_read c_d_law_read k_d_law_read
  have b_d_law_read := F_d_law_read.binds (ps := ["_law_text_here"]) fun _ _ _ _ _ _ us hl => match us, hl with | [_], _ => rfl
  have g_d_law_read := PySem.W.mg_of X G a_d_law_read
  have F_d_law_right := fun_mk (st := sRight03) l_d_law_right c_d_law_right k_d_law_right
  have b_d_law_right := F_d_law_right.binds (ps := ["_law_text_here"]) fun _ _ _ _ _ _ us hl => match us, hl with | [_], _ => rfl
  have g_d_law_right := PySem.W.mg_of X G a_d_law_right
  have F_d_law := fun_mk (st := sLaw) l_d_law c_d_law k_d_law
  have g_d_law := PySem.W.mg_of X G a_d_law
  have ex_T : ExcC K C_T := ⟨ga_T, gg_T, eC_T, hd_T, cl_T, sp_, tk_, mo_T⟩
  have xf_T : XfC K C_T := ⟨ga_T, gg_T, eC_T, hd_T⟩
  have gC_T := PySem.W.mg_of X G aC_T
  have oex_T : OexC K C_T := ⟨⟨nm_T, q_T, N_T, bs_T, _, sn_T, su_T, ab_T, co_T, dd_T, m0_T, m1_T, m2_T, m3_T, m5_T, xC_T, by decide +kernel⟩, sa_T, eC_T, tC_T, kC_T⟩
  have exc_T : ExC K C_T "ValueError.__new__" [.type "ValueError", .type "Exception", .type "BaseException", .type "object"] := ⟨⟨nm_T, q_T, N_T, bs_T, sn_T, su_T, ab_T, co_T, dd_T, m0_T, m1_T, m2_T, m3_T, m5_T, xC_T⟩, eC_T, tC_T, kC_T⟩
  have F_i_T := fun_mk (st := sNtInit) l_i_T c_i_T k_i_T
  have b_i_T := F_i_T.binds (ps := ["self", "part"]) fun _ _ _ _ _ _ us hl => match us, hl with | [_, _], _ => rfl
  have em_T_T := PySem.W.exm_ref eC_T hd_T tC_T sb_T_T
  have X0 : NxT K mg C_T f_i_T := ⟨gC_T, i_i_T, ty_i_T, xf_T, ex_T, oex_T, no_T_part, vV_T⟩
  have nd0 : NoDg K := ⟨dgA, dgB⟩
  refine ⟨PySem.W.fnOf "law" "law" (defArgs sLaw) (defBody sLaw) (defScope sLaw) .none kV_d_law dc_d_law pm_d_law an_d_law cd_d_law ct_d_law, fun s v => .of_eq rfl, fun base _ _ => ?_⟩
  have G_d_divisor : FnOk l.prog w K mg base CX0 1 f_d_divisor _ ["one", "other"] spDiv := ok_div F_d_divisor  B
  have G_d_is_whole : FnOk l.prog w K mg base CX0 1 f_d_is_whole _ ["thing"] (spWholeZ K) := ok_WholeZ F_d_is_whole  B
  have G_d_is_ratio : FnOk l.prog w K mg base CX0 2 f_d_is_ratio _ ["thing"] (spIsRZ K) := ok_IsRZ F_d_is_ratio (G_d_is_whole.mono (by decide)) k_d_is_whole b_d_is_whole g_d_is_whole (G_d_divisor.mono (by decide)) k_d_divisor b_d_divisor g_d_divisor B
  have G_d_is_figures : FnOk l.prog w K mg base CX0 1 f_d_is_figures _ ["text"] spFig := ok_Fig F_d_is_figures 
  have G_d_ratio_of : FnOk l.prog w K mg base CX0 3 f_d_ratio_of _ ["text"] (spRat43 K) := ok_RatOf43 F_d_ratio_of nd0 (G_d_is_figures.mono (by decide)) k_d_is_figures b_d_is_figures g_d_is_figures (G_d_is_ratio.mono (by decide)) k_d_is_ratio b_d_is_ratio g_d_is_ratio B
  have G_d_shown_ratio : FnOk l.prog w K mg base CX0 1 f_d_shown_ratio _ ["one"] (spShR K) := ok_ShR F_d_shown_ratio  B
  have G_i_T : FnOk l.prog w K mg base CX0 1 f_i_T _ ["self", "part"] (spE1 C_T "part") := ok_NtInit F_i_T X0 B
  have G_d_read_ratio : FnOk l.prog w K mg base (L2.CX l.prog w) 5 f_d_read_ratio _ ["text"] (spRead03 K C_T) := ok_ReadR F_d_read_ratio X0 (G_i_T.mono (by decide)) b_i_T (G_d_ratio_of.mono (by decide)) k_d_ratio_of b_d_ratio_of g_d_ratio_of B
  have G_d_law_left : FnOk l.prog w K mg base CX0 1 f_d_law_left _ ["_law_cell"] spLeft := ok_left F_d_law_left  B
  have G_d_law_digit : FnOk l.prog w K mg base CX0 1 f_d_law_digit _ ["_law_left_here", "_law_many"] spDigit := ok_digit F_d_law_digit 
  have G_d_law_low : FnOk l.prog w K mg base CX0 1 f_d_law_low _ ["_law_top", "_law_bottom"] spLow := ok_low F_d_law_low  B
  have G_d_law_number : FnOk l.prog w K mg base CX0 1 f_d_law_number _ ["_law_text_here"] spNum03 := ok_LNum03 F_d_law_number nd0  B
  have G_d_law_text : FnOk l.prog w K mg base CX0 1 f_d_law_text _ ["_law_one"] (spLTxt03 K) := ok_LText03 F_d_law_text nd0  B
  have G_d_law_ratio : FnOk l.prog w K mg base CX0 2 f_d_law_ratio _ ["_law_left_here"] (spLRatio03 K) := ok_LRatio F_d_law_ratio (G_d_law_digit.mono (by decide)) k_d_law_digit b_d_law_digit g_d_law_digit (G_d_law_low.mono (by decide)) k_d_law_low b_d_law_low g_d_law_low
  have G_d_law_due : FnOk l.prog w K mg base CX0 3 f_d_law_due _ ["_law_text_here"] (spDue03 K) := ok_Due03 F_d_law_due (G_d_law_number.mono (by decide)) k_d_law_number b_d_law_number g_d_law_number (G_d_law_text.mono (by decide)) k_d_law_text b_d_law_text g_d_law_text (G_d_law_low.mono (by decide)) k_d_law_low b_d_law_low g_d_law_low B
  have G_d_law_read : FnOkG l.prog w K mg base CX0 6 f_d_law_read _ ["_law_text_here"] (spLRead03 K) := ok_LRead F_d_law_read X0 ⟨em_T_T, kt_T_ValueError⟩ (G_d_read_ratio.mono (by decide)) k_d_read_ratio b_d_read_ratio g_d_read_ratio B
  have G_d_law_right : FnOkG l.prog w K mg base CX0 7 f_d_law_right _ ["_law_text_here"] (spRight03 K) := ok_Right03 F_d_law_right (G_d_law_due.mono (by decide)) k_d_law_due b_d_law_due g_d_law_due (G_d_law_read.mono (by decide)) k_d_law_read b_d_law_read g_d_law_read B
  exact ok_law (k := 14) F_d_law (G_d_law_right.mono (by decide)) k_d_law_right b_d_law_right g_d_law_right (G_d_law_left.mono (by decide)) k_d_law_left b_d_law_left g_d_law_left (G_d_law_ratio.mono (by decide)) k_d_law_ratio b_d_law_ratio g_d_law_ratio (G_d_law_text.mono (by decide)) k_d_law_text b_d_law_text g_d_law_text (G_d_shown_ratio.mono (by decide)) k_d_shown_ratio b_d_shown_ratio g_d_shown_ratio (G_d_read_ratio.mono (by decide)) k_d_read_ratio b_d_read_ratio g_d_read_ratio (G_d_law_digit.mono (by decide)) k_d_law_digit b_d_law_digit g_d_law_digit B
def fa0 : List Hk.Fk := [
  fun K => (He.Fa.code ("is_whole", none) "is_whole").ok K,
  fun K => (He.Fa.code ("is_ratio", none) "is_ratio").ok K,
  fun K => (He.Fa.code ("divisor", none) "divisor").ok K,
  fun K => (He.Fa.code ("_law_left", none) "_law_left").ok K,
  fun K => (He.Fa.code ("_law_digit", none) "_law_digit").ok K,
  fun K => (He.Fa.code ("_law_low", none) "_law_low").ok K,
  fun K => (He.Fa.code ("shown_ratio", none) "shown_ratio").ok K,
  fun K => (He.Fa.code ("ratio_of", none) "ratio_of").ok K,
  fun K => (He.Fa.code ("is_figures", none) "is_figures").ok K,
  fun K => (He.Fa.code ("read_ratio", none) "read_ratio").ok K,
  fun K => (He.Fa.code ("_law_ratio", none) "_law_ratio").ok K,
  fun K => (He.Fa.code ("_law_text", none) "_law_text").ok K,
  fun K => (He.Fa.code ("_law_number", none) "_law_number").ok K,
  fun K => (He.Fa.code ("_law_due", none) "_law_due").ok K,
  fun K => (He.Fa.code ("_law_read", none) "_law_read").ok K,
  fun K => (He.Fa.code ("_law_right", none) "_law_right").ok K]
def fa1 : List Hk.Fk := [
  fun K => (He.Fa.code ("law", none) "law").ok K,
  fun K => (He.Fa.code ("NoText", some "__init__") "NoText.__init__").ok K,
  Hk.clsB (fun K => He.ga K "NoText") [.type "ValueError", .type "Exception", .type "BaseException", .type "object"] true "ValueError.__new__",
  fun K => decide (PySem.W.nsIn K mainGlobals "is_whole" = some (some (.ref (He.ga K "is_whole")))),
  fun K => decide (PySem.W.keepIn K (.ref (He.ga K "is_whole")) = true),
  fun K => decide (PySem.W.nsIn K mainGlobals "is_ratio" = some (some (.ref (He.ga K "is_ratio")))),
  fun K => decide (PySem.W.keepIn K (.ref (He.ga K "is_ratio")) = true),
  fun K => decide (PySem.W.nsIn K mainGlobals "divisor" = some (some (.ref (He.ga K "divisor")))),
  fun K => decide (PySem.W.keepIn K (.ref (He.ga K "divisor")) = true),
  fun K => decide (PySem.W.nsIn K mainGlobals "_law_left" = some (some (.ref (He.ga K "_law_left")))),
  fun K => decide (PySem.W.keepIn K (.ref (He.ga K "_law_left")) = true),
  fun K => decide (PySem.W.nsIn K mainGlobals "_law_digit" = some (some (.ref (He.ga K "_law_digit")))),
  fun K => decide (PySem.W.keepIn K (.ref (He.ga K "_law_digit")) = true),
  fun K => decide (PySem.W.nsIn K mainGlobals "_law_low" = some (some (.ref (He.ga K "_law_low")))),
  fun K => decide (PySem.W.keepIn K (.ref (He.ga K "_law_low")) = true),
  fun K => decide (PySem.W.nsIn K mainGlobals "shown_ratio" = some (some (.ref (He.ga K "shown_ratio"))))]
def fa2 : List Hk.Fk := [
  fun K => decide (PySem.W.keepIn K (.ref (He.ga K "shown_ratio")) = true),
  fun K => decide (PySem.W.nsIn K mainGlobals "ratio_of" = some (some (.ref (He.ga K "ratio_of")))),
  fun K => decide (PySem.W.keepIn K (.ref (He.ga K "ratio_of")) = true),
  fun K => decide (PySem.W.nsIn K mainGlobals "is_figures" = some (some (.ref (He.ga K "is_figures")))),
  fun K => decide (PySem.W.keepIn K (.ref (He.ga K "is_figures")) = true),
  fun K => decide (PySem.W.nsIn K mainGlobals "read_ratio" = some (some (.ref (He.ga K "read_ratio")))),
  fun K => decide (PySem.W.keepIn K (.ref (He.ga K "read_ratio")) = true),
  fun K => decide (PySem.W.nsIn K mainGlobals "_law_ratio" = some (some (.ref (He.ga K "_law_ratio")))),
  fun K => decide (PySem.W.keepIn K (.ref (He.ga K "_law_ratio")) = true),
  fun K => decide (PySem.W.nsIn K mainGlobals "_law_text" = some (some (.ref (He.ga K "_law_text")))),
  fun K => decide (PySem.W.keepIn K (.ref (He.ga K "_law_text")) = true),
  fun K => decide (PySem.W.nsIn K mainGlobals "_law_number" = some (some (.ref (He.ga K "_law_number")))),
  fun K => decide (PySem.W.keepIn K (.ref (He.ga K "_law_number")) = true),
  fun K => decide (PySem.W.nsIn K mainGlobals "_law_due" = some (some (.ref (He.ga K "_law_due")))),
  fun K => decide (PySem.W.keepIn K (.ref (He.ga K "_law_due")) = true),
  fun K => decide (PySem.W.nsIn K mainGlobals "_law_read" = some (some (.ref (He.ga K "_law_read"))))]
def fa3 : List Hk.Fk := [
  fun K => decide (PySem.W.keepIn K (.ref (He.ga K "_law_read")) = true),
  fun K => decide (PySem.W.nsIn K mainGlobals "_law_right" = some (some (.ref (He.ga K "_law_right")))),
  fun K => decide (PySem.W.keepIn K (.ref (He.ga K "_law_right")) = true),
  fun K => decide (PySem.W.nsIn K mainGlobals "law" = some (some (.ref (He.ga K "law")))),
  fun K => decide (PySem.W.keepIn K (.ref (He.ga K "law")) = true),
  fun K => decide (PySem.W.nsIn K mainGlobals "NoText" = some (some (.ref (He.ga K "NoText")))),
  fun K => decide (PySem.W.findIn K (.ref (He.ga K "NoText")) "__setattr__" = some (some (.builtin "object.__setattr__"))),
  fun K => decide (PySem.W.findIn K (.ref (He.ga K "NoText")) "__getattribute__" = some (some (.builtin "BaseException.__getattribute__"))),
  fun K => decide (PySem.W.findIn K (.ref (He.ga K "NoText")) "__getattr__" = some none),
  fun K => decide (PySem.W.findIn K (.ref (He.ga K "NoText")) "__class__" = some (some (.builtin "object.__class__"))),
  fun K => decide (PySem.W.mroIn K (He.ga K "NoText") (.type "object") = some true),
  fun K => decide (PySem.W.keepIn K (.ref (He.ga K "NoText")) = true),
  fun K => decide (PySem.W.subIn K (.ref (He.ga K "NoText")) (.type "BaseException") = some true),
  fun K => decide (PySem.W.typeIn K (.ref (He.ga K "NoText")) = some (.type "type")),
  fun K => decide (PySem.W.hasDictIn K (He.ga K "NoText") = true),
  fun K => decide (PySem.W.findIn K (.ref (He.ga K "NoText")) "__init__" = some (some (.ref (He.ma K (He.ga K "NoText") "__init__"))))]
def fa4 : List Hk.Fk := [
  fun K => decide (PySem.W.typeIn K (.ref (He.ma K (He.ga K "NoText") "__init__")) = some (.type "function")),
  fun K => decide (PySem.W.keepIn K (.ref (He.ma K (He.ga K "NoText") "__init__")) = true),
  fun K => decide (PySem.W.findIn K (.ref (He.ga K "NoText")) "part" = some none),
  fun K => decide (PySem.W.subIn K (.ref (He.ga K "NoText")) (.ref (He.ga K "NoText")) = some true),
  fun K => decide (PySem.W.kitOne K (.ref (He.ga K "NoText")) (.type "ValueError") = some true),
  fun K => decide (PySem.W.nsOkIn K cStatics = true),
  fun K => decide (PySem.W.nsIn K cStatics "sys.int_max_str_digits" = some none),
  fun K => decide (PySem.W.nsIn K mainGlobals "abs" = some none),
  fun K => decide (PySem.W.nsIn K mainGlobals "isinstance" = some none),
  fun K => decide (PySem.W.nsIn K mainGlobals "int" = some none),
  fun K => decide (PySem.W.nsIn K mainGlobals "bool" = some none),
  fun K => decide (PySem.W.nsIn K mainGlobals "tuple" = some none),
  fun K => decide (PySem.W.nsIn K mainGlobals "list" = some none),
  fun K => decide (PySem.W.nsIn K mainGlobals "len" = some none),
  fun K => decide (PySem.W.nsIn K mainGlobals "range" = some none),
  fun K => decide (PySem.W.nsIn K mainGlobals "str" = some none)]
def fa5 : List Hk.Fk := [
  fun K => decide (PySem.W.nsIn K mainGlobals "repr" = some none),
  fun K => decide (PySem.W.nsIn K mainGlobals "sum" = some none),
  fun K => decide (PySem.W.nsIn K mainGlobals "all" = some none),
  fun K => decide (PySem.W.nsIn K mainGlobals "any" = some none),
  fun K => decide (PySem.W.nsIn K mainGlobals "enumerate" = some none),
  fun K => decide (PySem.W.nsIn K mainGlobals "zip" = some none),
  fun K => decide (PySem.W.nsIn K mainGlobals "min" = some none),
  fun K => decide (PySem.W.nsIn K mainGlobals "max" = some none),
  fun K => decide (PySem.W.nsIn K mainGlobals "sorted" = some none),
  fun K => decide (PySem.W.nsIn K mainGlobals "ValueError" = some none),
  fun K => decide (PySem.W.nsIn K mainGlobals "ZeroDivisionError" = some none),
  fun K => decide (PySem.W.nsIn K mainGlobals "OverflowError" = some none),
  fun K => decide (PySem.W.nsIn K mainGlobals "IndexError" = some none),
  fun K => decide (PySem.W.nsIn K mainGlobals "LookupError" = some none),
  fun K => decide (PySem.W.nsIn K mainGlobals "ArithmeticError" = some none),
  fun K => decide (PySem.W.nsIn K mainGlobals "KeyError" = some none)]
def fa6 : List Hk.Fk := [
  fun K => decide (PySem.W.nsIn K mainGlobals "RuntimeError" = some none)]
def pk0 : List (List Hk.Fk) := [fa0, fa1, fa2, fa3, fa4, fa5, fa6]
def faa : List (List Hk.Fk) := pk0
def fns0 : List He.FnD := [
  ⟨("is_whole", none), "is_whole", "is_whole", defArgs sWhole, defBody sWhole, defScope sWhole⟩,
  ⟨("is_ratio", none), "is_ratio", "is_ratio", defArgs sIsR, defBody sIsR, defScope sIsR⟩,
  ⟨("divisor", none), "divisor", "divisor", defArgs sDiv, defBody sDiv, defScope sDiv⟩,
  ⟨("_law_left", none), "_law_left", "_law_left", defArgs sLeft, defBody sLeft, defScope sLeft⟩,
  ⟨("_law_digit", none), "_law_digit", "_law_digit", defArgs sDigit, defBody sDigit, defScope sDigit⟩,
  ⟨("_law_low", none), "_law_low", "_law_low", defArgs sLow, defBody sLow, defScope sLow⟩,
  ⟨("shown_ratio", none), "shown_ratio", "shown_ratio", defArgs sShR, defBody sShR, defScope sShR⟩,
  ⟨("ratio_of", none), "ratio_of", "ratio_of", defArgs sRatOf, defBody sRatOf, defScope sRatOf⟩,
  ⟨("is_figures", none), "is_figures", "is_figures", defArgs sFig, defBody sFig, defScope sFig⟩,
  ⟨("read_ratio", none), "read_ratio", "read_ratio", defArgs sReadR, defBody sReadR, defScope sReadR⟩,
  ⟨("_law_ratio", none), "_law_ratio", "_law_ratio", defArgs sLRatio, defBody sLRatio, defScope sLRatio⟩,
  ⟨("_law_text", none), "_law_text", "_law_text", defArgs sLText, defBody sLText, defScope sLText⟩,
  ⟨("_law_number", none), "_law_number", "_law_number", defArgs sLNum, defBody sLNum, defScope sLNum⟩,
  ⟨("_law_due", none), "_law_due", "_law_due", defArgs sDue03, defBody sDue03, defScope sDue03⟩,
  ⟨("_law_read", none), "_law_read", "_law_read", defArgs sLRead, defBody sLRead, defScope sLRead⟩,
  ⟨("_law_right", none), "_law_right", "_law_right", defArgs sRight03, defBody sRight03, defScope sRight03⟩,
  ⟨("law", none), "law", "law", defArgs sLaw, defBody sLaw, defScope sLaw⟩,
  ⟨("NoText", some "__init__"), "__init__", "NoText.__init__", defArgs sNtInit, defBody sNtInit, defScope sNtInit⟩]
def fns : List He.FnD := fns0
def fds : List He.DefD := []
def nm0 : List PySem.Str := ["__name__", "NoText", "is_whole", "is_ratio", "divisor", "shown_ratio", "read_ratio", "ratio_of", "is_figures", "_law_left", "_law_digit", "_law_low", "_law_plus", "_law_less", "_law_times", "_law_under", "_law_ratio", "_law_text", "_law_number", "_law_due", "_law_read", "_law_right"]
def names : List PySem.Str := nm0
def as0 : List Addr := [3, 6, 4, 31, 41, 48, 55, 62, 69, 76, 83, 90, 97, 104, 111, 118, 125, 132, 139, 146, 151, 158, 165, 172, 179]
def as1 : List Addr := [0, 30, 40, 47, 54, 61, 68, 75, 82, 89, 96, 103, 110, 117, 124, 131, 138, 145, 150, 157, 164, 171, 178, 28, 29]
def as2 : List Addr := [32, 35, 36, 37, 38, 39, 42, 43, 44, 45, 46, 49, 50, 51, 52, 53, 56, 57, 58, 59, 60, 63, 64, 65, 66]
def as3 : List Addr := [67, 70, 71, 72, 73, 74, 77, 78, 79, 80, 81, 84, 85, 86, 87, 88, 91, 92, 93, 94, 95, 98, 99, 100, 101]
def as4 : List Addr := [102, 105, 106, 107, 108, 109, 112, 113, 114, 115, 116, 119, 120, 121, 122, 123, 126, 127, 128, 129, 130, 133, 134, 135, 136]
def as5 : List Addr := [137, 140, 141, 142, 143, 144, 147, 148, 149, 152, 153, 154, 155, 156, 159, 160, 161, 162, 163, 166, 167, 168, 169, 170, 173]
def as6 : List Addr := [174, 175, 176, 177, 27, 22, 23, 24, 25, 26, 2]
def as : List Addr := as0 ++ (as1 ++ (as2 ++ (as3 ++ (as4 ++ (as5 ++ (as6))))))
abbrev R : PySem.W.OpenRow := PySem.W.OpenLaw.row PySem.Challenge.rw_besttelling_k03_fractions_written
abbrev hkx : PySem.W.Hook := Hk.hook as faa fns fds
def ob (s : PySem.W.SharedT) : Hk.Ao := Hk.seeG as faa fns fds (HandSHeadRun.getT s)
theorem ob_eq (s : PySem.W.SharedT) : ob s = hkx.obs s.abs := Hk.seeG_eq (HandSHeadRun.getT_eq s)
abbrev kf (s : PySem.W.SharedT) : PySem.W.Frag := He.frG (HandSHeadRun.getT s) as
abbrev qv : Program := PySem.W.view R.prog [25]
noncomputable abbrev Ev (w : World) (os : OsState) : Option PySem.W.SharedT := HandSHeadRun.endF (HandSHeadRun.stepQ (HandSHeadRun.denQ HandSHeadRun.tabQ) R.prog w) 12000 R.prog w os
set_option maxHeartbeats 0
theorem run_a (w : World) (os : OsState) : (Ev w os).map (fun s => HandSHeadRun.looksF R.prog (PySem.W.boot_heap w.params) s.abs) = some true := by
  kernel_rfl
theorem run_b (w : World) (os : OsState) : (Ev w os).map (fun s => HandSHeadRun.seenQ qv names (importedModules R.prog.main.body) (fun s => PySem.W.xlAt qv [] s && PySem.W.recOk R.toRowW.records s) s.abs) = some (PySem.W.openGood qv names) := by
  kernel_rfl
theorem run_f0 (w : World) (os : OsState) : (Ev w os).map (Hk.facB kf pk0) = some true := by
  kernel_rfl
theorem run_d0 (w : World) (os : OsState) : (Ev w os).map (Hk.defB kf fns0) = some (fns0.map He.FnD.val) := by
  kernel_rfl
theorem run_e (w : World) (os : OsState) : (Ev w os).map (fun s => fds.map (fun d => He.fnW (kf s) d.at_)) = some (fds.map He.DefD.val) := by
  kernel_rfl
theorem run (w : World) : HandSHeadRun.RunEq R qv hkx ob 12000 names w := fun os => Hk.both (run_a w os) (Hk.both (run_b w os) (Hk.both (run_f0 w os) (Hk.both (run_d0 w os) (run_e w os))))
end K03
open PySem PySem.W PySem.Calls PyProof.Rows
set_option maxRecDepth 100000 in
set_option maxHeartbeats 0 in
theorem PySem.Challenge.cw_besttelling_k03_fractions_written_holds : PySem.Challenge.rw_besttelling_k03_fractions_written.Holds := by
  w_on; o_law
  refine HandSHeadRun.head_any (r := OpenLaw.row PySem.Challenge.rw_besttelling_k03_fractions_written) (q := view (OpenLaw.row PySem.Challenge.rw_besttelling_k03_fractions_written).prog [25]) (H := K03.hkx) (ob := K03.ob) (M := 12000) (loose := K03.names) (d := HandSHeadRun.topDef (OpenLaw.row PySem.Challenge.rw_besttelling_k03_fractions_written).prog 25) (kwd := []) K03.ob_eq
    (by kernel_rfl) (fun s => by kernel_rfl) K03.run (by kernel_rfl) (by kernel_rfl) (by kernel_rfl) (by rfl) (by first | assumption | decide +kernel) (by decide +kernel) ⟨rfl, rfl, rfl, rfl, rfl, by decide +kernel⟩ ?hw ?hc
  case hw => w_witness2
  case hc =>
    refine Hk.walk_ofEG (l := PySem.Challenge.rw_besttelling_k03_fractions_written) (n := 63) (k := 15) (x := "_law_script") (CX := L2.CX0) rfl (by decide) (by kernel_rfl) ⟨rfl, by decide, by decide⟩ ?F (fun _ _ _ _ z => z)
    intro w mg fa h Y G hmg0
    obtain ⟨K, KX, c⟩ := Y
    have hmg : mg ("law" : PySem.Str) = some (.ref fa) := by
      have e : (HandSHeadRun.topDef (OpenLaw.row PySem.Challenge.rw_besttelling_k03_fractions_written).prog 25).name = ("law" : PySem.Str) := by kernel_rfl
      rw [← e]
      exact hmg0
    obtain ⟨oc_d_is_whole, od_d_is_whole, sl_d_is_whole, kV_d_is_whole, dc_d_is_whole, pm_d_is_whole, an_d_is_whole, cd_d_is_whole, ct_d_is_whole, l_d_is_whole, c_d_is_whole⟩ := c.fnAt 0 rfl (c.fact 0 0 rfl rfl)
    obtain ⟨oc_d_is_ratio, od_d_is_ratio, sl_d_is_ratio, kV_d_is_ratio, dc_d_is_ratio, pm_d_is_ratio, an_d_is_ratio, cd_d_is_ratio, ct_d_is_ratio, l_d_is_ratio, c_d_is_ratio⟩ := c.fnAt 1 rfl (c.fact 0 1 rfl rfl)
    obtain ⟨oc_d_divisor, od_d_divisor, sl_d_divisor, kV_d_divisor, dc_d_divisor, pm_d_divisor, an_d_divisor, cd_d_divisor, ct_d_divisor, l_d_divisor, c_d_divisor⟩ := c.fnAt 2 rfl (c.fact 0 2 rfl rfl)
    obtain ⟨oc_d_law_left, od_d_law_left, sl_d_law_left, kV_d_law_left, dc_d_law_left, pm_d_law_left, an_d_law_left, cd_d_law_left, ct_d_law_left, l_d_law_left, c_d_law_left⟩ := c.fnAt 3 rfl (c.fact 0 3 rfl rfl)
    obtain ⟨oc_d_law_digit, od_d_law_digit, sl_d_law_digit, kV_d_law_digit, dc_d_law_digit, pm_d_law_digit, an_d_law_digit, cd_d_law_digit, ct_d_law_digit, l_d_law_digit, c_d_law_digit⟩ := c.fnAt 4 rfl (c.fact 0 4 rfl rfl)
    obtain ⟨oc_d_law_low, od_d_law_low, sl_d_law_low, kV_d_law_low, dc_d_law_low, pm_d_law_low, an_d_law_low, cd_d_law_low, ct_d_law_low, l_d_law_low, c_d_law_low⟩ := c.fnAt 5 rfl (c.fact 0 5 rfl rfl)
    obtain ⟨oc_d_shown_ratio, od_d_shown_ratio, sl_d_shown_ratio, kV_d_shown_ratio, dc_d_shown_ratio, pm_d_shown_ratio, an_d_shown_ratio, cd_d_shown_ratio, ct_d_shown_ratio, l_d_shown_ratio, c_d_shown_ratio⟩ := c.fnAt 6 rfl (c.fact 0 6 rfl rfl)
    obtain ⟨oc_d_ratio_of, od_d_ratio_of, sl_d_ratio_of, kV_d_ratio_of, dc_d_ratio_of, pm_d_ratio_of, an_d_ratio_of, cd_d_ratio_of, ct_d_ratio_of, l_d_ratio_of, c_d_ratio_of⟩ := c.fnAt 7 rfl (c.fact 0 7 rfl rfl)
    obtain ⟨oc_d_is_figures, od_d_is_figures, sl_d_is_figures, kV_d_is_figures, dc_d_is_figures, pm_d_is_figures, an_d_is_figures, cd_d_is_figures, ct_d_is_figures, l_d_is_figures, c_d_is_figures⟩ := c.fnAt 8 rfl (c.fact 0 8 rfl rfl)
    obtain ⟨oc_d_read_ratio, od_d_read_ratio, sl_d_read_ratio, kV_d_read_ratio, dc_d_read_ratio, pm_d_read_ratio, an_d_read_ratio, cd_d_read_ratio, ct_d_read_ratio, l_d_read_ratio, c_d_read_ratio⟩ := c.fnAt 9 rfl (c.fact 0 9 rfl rfl)
    obtain ⟨oc_d_law_ratio, od_d_law_ratio, sl_d_law_ratio, kV_d_law_ratio, dc_d_law_ratio, pm_d_law_ratio, an_d_law_ratio, cd_d_law_ratio, ct_d_law_ratio, l_d_law_ratio, c_d_law_ratio⟩ := c.fnAt 10 rfl (c.fact 0 10 rfl rfl)
    obtain ⟨oc_d_law_text, od_d_law_text, sl_d_law_text, kV_d_law_text, dc_d_law_text, pm_d_law_text, an_d_law_text, cd_d_law_text, ct_d_law_text, l_d_law_text, c_d_law_text⟩ := c.fnAt 11 rfl (c.fact 0 11 rfl rfl)
    obtain ⟨oc_d_law_number, od_d_law_number, sl_d_law_number, kV_d_law_number, dc_d_law_number, pm_d_law_number, an_d_law_number, cd_d_law_number, ct_d_law_number, l_d_law_number, c_d_law_number⟩ := c.fnAt 12 rfl (c.fact 0 12 rfl rfl)
    obtain ⟨oc_d_law_due, od_d_law_due, sl_d_law_due, kV_d_law_due, dc_d_law_due, pm_d_law_due, an_d_law_due, cd_d_law_due, ct_d_law_due, l_d_law_due, c_d_law_due⟩ := c.fnAt 13 rfl (c.fact 0 13 rfl rfl)
    obtain ⟨oc_d_law_read, od_d_law_read, sl_d_law_read, kV_d_law_read, dc_d_law_read, pm_d_law_read, an_d_law_read, cd_d_law_read, ct_d_law_read, l_d_law_read, c_d_law_read⟩ := c.fnAt 14 rfl (c.fact 0 14 rfl rfl)
    obtain ⟨oc_d_law_right, od_d_law_right, sl_d_law_right, kV_d_law_right, dc_d_law_right, pm_d_law_right, an_d_law_right, cd_d_law_right, ct_d_law_right, l_d_law_right, c_d_law_right⟩ := c.fnAt 15 rfl (c.fact 0 15 rfl rfl)
    obtain ⟨oc_d_law, od_d_law, sl_d_law, kV_d_law, dc_d_law, pm_d_law, an_d_law, cd_d_law, ct_d_law, l_d_law, c_d_law⟩ := c.fnAt 16 rfl (c.fact 1 0 rfl rfl)
    obtain ⟨oc_i_T, od_i_T, sl_i_T, kV_i_T, dc_i_T, pm_i_T, an_i_T, cd_i_T, ct_i_T, l_i_T, c_i_T⟩ := c.fnAt 17 rfl (c.fact 1 1 rfl rfl)
    obtain ⟨nm_T, q_T, N_T, bs_T, sn_T, su_T, ab_T, co_T, dd_T, m0_T, m1_T, m2_T, m3_T, m5_T, xC_T⟩ := Hk.clsT (c.fact 1 2 rfl rfl)
    obtain ⟨fd, hb, hF⟩ := K03.all_mk (l := PySem.Challenge.rw_besttelling_k03_fractions_written) (w := w) KX G hmg
      (of_decide_eq_true (c.fact 1 3 rfl rfl))
      l_d_is_whole
      c_d_is_whole
      (of_decide_eq_true (c.fact 1 4 rfl rfl))
      (of_decide_eq_true (c.fact 1 5 rfl rfl))
      l_d_is_ratio
      c_d_is_ratio
      (of_decide_eq_true (c.fact 1 6 rfl rfl))
      (of_decide_eq_true (c.fact 1 7 rfl rfl))
      l_d_divisor
      c_d_divisor
      (of_decide_eq_true (c.fact 1 8 rfl rfl))
      (of_decide_eq_true (c.fact 1 9 rfl rfl))
      l_d_law_left
      c_d_law_left
      (of_decide_eq_true (c.fact 1 10 rfl rfl))
      (of_decide_eq_true (c.fact 1 11 rfl rfl))
      l_d_law_digit
      c_d_law_digit
      (of_decide_eq_true (c.fact 1 12 rfl rfl))
      (of_decide_eq_true (c.fact 1 13 rfl rfl))
      l_d_law_low
      c_d_law_low
      (of_decide_eq_true (c.fact 1 14 rfl rfl))
      (of_decide_eq_true (c.fact 1 15 rfl rfl))
      l_d_shown_ratio
      c_d_shown_ratio
      (of_decide_eq_true (c.fact 2 0 rfl rfl))
      (of_decide_eq_true (c.fact 2 1 rfl rfl))
      l_d_ratio_of
      c_d_ratio_of
      (of_decide_eq_true (c.fact 2 2 rfl rfl))
      (of_decide_eq_true (c.fact 2 3 rfl rfl))
      l_d_is_figures
      c_d_is_figures
      (of_decide_eq_true (c.fact 2 4 rfl rfl))
      (of_decide_eq_true (c.fact 2 5 rfl rfl))
      l_d_read_ratio
      c_d_read_ratio
      (of_decide_eq_true (c.fact 2 6 rfl rfl))
      (of_decide_eq_true (c.fact 2 7 rfl rfl))
      l_d_law_ratio
      c_d_law_ratio
      (of_decide_eq_true (c.fact 2 8 rfl rfl))
      (of_decide_eq_true (c.fact 2 9 rfl rfl))
      l_d_law_text
      c_d_law_text
      (of_decide_eq_true (c.fact 2 10 rfl rfl))
      (of_decide_eq_true (c.fact 2 11 rfl rfl))
      l_d_law_number
      c_d_law_number
      (of_decide_eq_true (c.fact 2 12 rfl rfl))
      (of_decide_eq_true (c.fact 2 13 rfl rfl))
      l_d_law_due
      c_d_law_due
      (of_decide_eq_true (c.fact 2 14 rfl rfl))
      (of_decide_eq_true (c.fact 2 15 rfl rfl))
      l_d_law_read
      c_d_law_read
      (of_decide_eq_true (c.fact 3 0 rfl rfl))
      (of_decide_eq_true (c.fact 3 1 rfl rfl))
      l_d_law_right
      c_d_law_right
      (of_decide_eq_true (c.fact 3 2 rfl rfl))
      (of_decide_eq_true (c.fact 3 3 rfl rfl))
      l_d_law
      c_d_law
      (of_decide_eq_true (c.fact 3 4 rfl rfl))
      (of_decide_eq_true (c.fact 3 5 rfl rfl))
      xC_T
      (of_decide_eq_true (c.fact 3 6 rfl rfl))
      (of_decide_eq_true (c.fact 3 7 rfl rfl))
      (of_decide_eq_true (c.fact 3 8 rfl rfl))
      (of_decide_eq_true (c.fact 3 9 rfl rfl))
      (of_decide_eq_true (c.fact 3 10 rfl rfl))
      (of_decide_eq_true (c.fact 3 11 rfl rfl))
      (of_decide_eq_true (c.fact 3 12 rfl rfl))
      (of_decide_eq_true (c.fact 3 13 rfl rfl))
      (of_decide_eq_true (c.fact 3 14 rfl rfl))
      (by first | rfl | decide +kernel)
      (by first | rfl | decide +kernel)
      (by first | rfl | decide +kernel)
      (of_decide_eq_true (c.fact 3 15 rfl rfl))
      (of_decide_eq_true (c.fact 4 0 rfl rfl))
      l_i_T
      c_i_T
      (of_decide_eq_true (c.fact 4 1 rfl rfl))
      (of_decide_eq_true (c.fact 4 2 rfl rfl))
      (of_decide_eq_true (c.fact 4 3 rfl rfl))
      (of_decide_eq_true (c.fact 4 4 rfl rfl))
      (of_decide_eq_true (c.fact 4 5 rfl rfl))
      (of_decide_eq_true (c.fact 4 6 rfl rfl))
      (of_decide_eq_true (c.fact 4 7 rfl rfl))
      (of_decide_eq_true (c.fact 4 8 rfl rfl))
      (of_decide_eq_true (c.fact 4 9 rfl rfl))
      (of_decide_eq_true (c.fact 4 10 rfl rfl))
      (of_decide_eq_true (c.fact 4 11 rfl rfl))
      (of_decide_eq_true (c.fact 4 12 rfl rfl))
      (of_decide_eq_true (c.fact 4 13 rfl rfl))
      (of_decide_eq_true (c.fact 4 14 rfl rfl))
      (of_decide_eq_true (c.fact 4 15 rfl rfl))
      (of_decide_eq_true (c.fact 5 0 rfl rfl))
      (of_decide_eq_true (c.fact 5 1 rfl rfl))
      (of_decide_eq_true (c.fact 5 2 rfl rfl))
      (of_decide_eq_true (c.fact 5 3 rfl rfl))
      (of_decide_eq_true (c.fact 5 4 rfl rfl))
      (of_decide_eq_true (c.fact 5 5 rfl rfl))
      (of_decide_eq_true (c.fact 5 6 rfl rfl))
      (of_decide_eq_true (c.fact 5 7 rfl rfl))
      (of_decide_eq_true (c.fact 5 8 rfl rfl))
      (of_decide_eq_true (c.fact 5 9 rfl rfl))
      (of_decide_eq_true (c.fact 5 10 rfl rfl))
      (of_decide_eq_true (c.fact 5 11 rfl rfl))
      (of_decide_eq_true (c.fact 5 12 rfl rfl))
      (of_decide_eq_true (c.fact 5 13 rfl rfl))
      (of_decide_eq_true (c.fact 5 14 rfl rfl))
      (of_decide_eq_true (c.fact 5 15 rfl rfl))
      (of_decide_eq_true (c.fact 6 0 rfl rfl))
    exact ⟨K, fd, K03.spLaw K, KX, hb, fun H a ns hl _ hS => ⟨a, ns, rfl, hS, hl, fun _ => rfl⟩, hF⟩
