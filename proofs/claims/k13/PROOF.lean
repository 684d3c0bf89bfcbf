import PyProof.Rows.All
import Wide.All
import OpenK.AllK
import Wide.FinOn
import HandS.Base
import HandS.Call
import HandS.List
import HandS.Ends
import HandS.Words
import HandS.Exc
import HandS.ExcOwn
import HandS.ExcInit
import HandS.ExcField
import HandS.ExcIs
import HandS.WordsExc
import HandS.TryOnly
import HandS.TryMany
import KE.KExcIs
import PyProof.ReprRoads
import HandS.Wide
import HandS.IsInst
import HandS.Defaults
import HandS.Style
import HandS.Comp
import PyProof.InstStore
import HandS.Flow
import HandS.Iter
import HandS.Zip
import HandS.CallLocal
import HandS.Dict
import HandS.Walk
import PySem.Challenge.RW_besttelling_k13_putting_refused
namespace Fr
theorem fmod_abs (a : Int) {b : Int} (h : b ≠ 0) : (a.fmod b).natAbs < b.natAbs := by
  by_cases hb : 0 < b
  · have h1 := Int.fmod_lt_of_pos a hb
    have h2 := Int.fmod_nonneg_of_pos a hb
    omega
  · have hb' : 0 < -b := by omega
    have e := Int.neg_fmod_neg (-a) (-b)
    rw [Int.neg_neg, Int.neg_neg] at e
    have h1 := Int.fmod_lt_of_pos (-a) hb'
    have h2 := Int.fmod_nonneg_of_pos (-a) hb'
    omega
theorem gcd_step (a b : Int) : Int.gcd b (a.fmod b) = Int.gcd a b := by
  rw [Int.fmod_def, Int.mul_comm, Int.gcd_sub_mul_right_right, Int.gcd_comm]
theorem gcd_pos {t b : Int} (h : b ≠ 0) : (0 : Int) < (Int.gcd t b : Int) := by
  have : 0 < Int.gcd t b := Int.gcd_pos_of_ne_zero_right t h
  omega
theorem low_num {t b : Int} (hb : 0 < b) : t.fdiv (Int.gcd t b) = (Rat.divInt t b).num := by
  rw [Rat.num_divInt, Int.sign_eq_one_of_pos hb, Int.one_mul, Int.gcd_comm b t, Int.fdiv_eq_ediv_of_nonneg _ (by omega)]
theorem low_den {t b : Int} (hb : 0 < b) : b.fdiv (Int.gcd t b) = ((Rat.divInt t b).den : Int) := by
  rw [Rat.den_divInt, if_neg (by omega), Int.gcd_comm b t, Int.fdiv_eq_ediv_of_nonneg _ (by omega), Int.natCast_ediv]
  congr 1
  omega
theorem lowN_num {t b : Int} (hb : b < 0) : t.fdiv (-(Int.gcd t b : Int)) = (Rat.divInt t b).num := by
  have e := Int.neg_fdiv_neg (-t) (Int.gcd t b : Int)
  rw [Int.neg_neg] at e
  rw [e, Rat.num_divInt, Int.sign_eq_neg_one_of_neg hb, Int.gcd_comm b t, Int.fdiv_eq_ediv_of_nonneg _ (by omega), Int.neg_mul, Int.one_mul]
theorem lowN_den {t b : Int} (hb : b < 0) : b.fdiv (-(Int.gcd t b : Int)) = ((Rat.divInt t b).den : Int) := by
  have e := Int.neg_fdiv_neg (-b) (Int.gcd t b : Int)
  rw [Int.neg_neg] at e
  rw [e, Rat.den_divInt, if_neg (by omega), Int.gcd_comm b t, Int.fdiv_eq_ediv_of_nonneg _ (by omega), Int.natCast_ediv]
  congr 1
  omega
/-- top and bottom below 2 ^ n -/
def Bd (n : Nat) (q : Rat) : Prop := q.num.natAbs < 2 ^ n ∧ q.den < 2 ^ n
theorem Bd.mono {n m : Nat} {q : Rat} (h : Bd n q) (l : n ≤ m) : Bd m q :=
  ⟨Nat.lt_of_lt_of_le h.1 (Nat.pow_le_pow_right (by decide) l), Nat.lt_of_lt_of_le h.2 (Nat.pow_le_pow_right (by decide) l)⟩
theorem bd_low {t b : Int} {n : Nat} (ht : t.natAbs < 2 ^ n) (hb : b.natAbs < 2 ^ n) (h : b ≠ 0) : Bd n (Rat.divInt t b) := by
  constructor
  · rw [Rat.num_divInt]
    have h1 : (b.sign * t).natAbs = t.natAbs := by
      rw [Int.natAbs_mul, Int.natAbs_sign_of_ne_zero h, Nat.one_mul]
    have h2 : (b.sign * t / (b.gcd t : Int)).natAbs ≤ (b.sign * t).natAbs := Int.natAbs_ediv_le_natAbs _ _
    omega
  · rw [Rat.den_divInt, if_neg h]
    exact Nat.lt_of_le_of_lt (Nat.div_le_self _ _) hb
theorem den_pos (q : Rat) : (0 : Int) < (q.den : Int) := by
  have := q.den_pos
  omega
theorem den_ne (q : Rat) : (q.den : Int) ≠ 0 := Int.ne_of_gt (den_pos q)
theorem add_eq (a b : Rat) : Rat.divInt (a.num * b.den + b.num * a.den) (a.den * b.den) = a + b := by
  rw [← Rat.divInt_add_divInt _ _ (den_ne a) (den_ne b), Rat.num_divInt_den, Rat.num_divInt_den]
theorem sub_eq (a b : Rat) : Rat.divInt (a.num * b.den - b.num * a.den) (a.den * b.den) = a - b := by
  rw [Rat.sub_def, Rat.normalize_eq_mkRat, ← Int.natCast_mul]
  rfl
theorem mul_eq (a b : Rat) : Rat.divInt (a.num * b.num) (a.den * b.den) = a * b := by
  rw [← Rat.divInt_mul_divInt, Rat.num_divInt_den, Rat.num_divInt_den]
theorem div_eq (a b : Rat) : Rat.divInt (a.num * b.den) (a.den * b.num) = a / b := by
  rw [Rat.div_def, Rat.inv_def, ← Rat.divInt_mul_divInt, Rat.num_divInt_den]
theorem mul_bd {i j : Int} {n m : Nat} (hi : i.natAbs < 2 ^ n) (hj : j.natAbs < 2 ^ m) : (i * j).natAbs < 2 ^ (n + m) := by
  rw [Int.natAbs_mul, Nat.pow_add]
  exact Nat.mul_lt_mul'' hi hj
theorem add_bd {i j : Int} {n : Nat} (hi : i.natAbs < 2 ^ n) (hj : j.natAbs < 2 ^ n) : (i + j).natAbs < 2 ^ (n + 1) := by
  rw [Nat.pow_succ]
  omega
theorem sub_bd {i j : Int} {n : Nat} (hi : i.natAbs < 2 ^ n) (hj : j.natAbs < 2 ^ n) : (i - j).natAbs < 2 ^ (n + 1) := by
  rw [Nat.pow_succ]
  omega
theorem Bd.dn {n : Nat} {q : Rat} (h : Bd n q) : (q.den : Int).natAbs < 2 ^ n := by
  rw [Int.natAbs_natCast]
  exact h.2
theorem up {i : Int} {n m : Nat} (h : i.natAbs < 2 ^ n) (l : n ≤ m) : i.natAbs < 2 ^ m := Nat.lt_of_lt_of_le h (Nat.pow_le_pow_right (by decide) l)
theorem dd_ne (a b : Rat) : (a.den : Int) * (b.den : Int) ≠ 0 := Int.mul_ne_zero (den_ne a) (den_ne b)
theorem bd_add {a b : Rat} {n m : Nat} (ha : Bd n a) (hb : Bd m b) : Bd (n + m + 1) (a + b) := by
  rw [← add_eq]
  refine bd_low ?_ (up (mul_bd ha.dn hb.dn) (Nat.le_succ _)) (dd_ne a b)
  have h2 := mul_bd hb.1 ha.dn
  rw [Nat.add_comm m n] at h2
  exact add_bd (mul_bd ha.1 hb.dn) h2
theorem bd_sub {a b : Rat} {n m : Nat} (ha : Bd n a) (hb : Bd m b) : Bd (n + m + 1) (a - b) := by
  rw [← sub_eq]
  refine bd_low ?_ (up (mul_bd ha.dn hb.dn) (Nat.le_succ _)) (dd_ne a b)
  have h2 := mul_bd hb.1 ha.dn
  rw [Nat.add_comm m n] at h2
  exact sub_bd (mul_bd ha.1 hb.dn) h2
theorem bd_mul {a b : Rat} {n m : Nat} (ha : Bd n a) (hb : Bd m b) : Bd (n + m) (a * b) := by
  rw [← mul_eq]
  exact bd_low (mul_bd ha.1 hb.1) (mul_bd ha.dn hb.dn) (dd_ne a b)
theorem ratio_gcd (q : Rat) : Int.gcd q.num q.den = 1 := by
  have := q.reduced
  rw [Int.gcd, Int.natAbs_natCast]
  exact this
theorem foldl_add (l : List Rat) : ∀ a : Rat, l.foldl (· + ·) a = a + l.sum := by
  induction l with
  | nil => intro a; rw [List.foldl_nil, List.sum_nil, Rat.add_zero]
  | cons x r ih => intro a; rw [List.foldl_cons, ih, List.sum_cons, Rat.add_assoc]
theorem sum_rev (l : List Rat) : l.reverse.sum = l.sum := by
  induction l with
  | nil => rfl
  | cons x r ih => rw [List.reverse_cons, List.sum_append, ih, List.sum_cons, List.sum_cons, List.sum_nil, Rat.add_zero, Rat.add_comm]
theorem div_self' {a : Rat} (h : a ≠ 0) : a / a = 1 := by
  rw [Rat.div_def]
  exact Rat.mul_inv_cancel a h
end Fr

set_option Elab.async false
set_option linter.all false
set_option maxRecDepth 100000
set_option maxHeartbeats 4000000
namespace BX
open PySem PySem.Spec PyProof.Rows L2
/-! ### several clauses «except x as n» -/
structure Clause where
  cls : Value
  slot : Nat
  ts : Addr → Value → Option Addr → TS
def wClauses (K : PySem.W.Frag) (Wout : WX) (D : Ends) : List Clause → WX
  | [] => Wout
  | c :: r => wAs K c.cls c.slot c.ts (wClauses K Wout D r) D
inductive ClausesOk (X : Cx) : List ExceptHandler → List Clause → Prop
  | nil : ClausesOk X [] []
  | cons {x n : Str} {c : Value} {i : Nat} {ts : Addr → Value → Option Addr → TS} {b₀ : Stmt} {suite : List Stmt} {np pos' : Pos} {hds : List ExceptHandler} {l : List Clause} (hi : X.N[i]? = some n) (hln : X.env.kindOf n = some .local) (hc : Names X x c)
      (hsu : ∀ (a : Addr) (oe : Obj) (cls : Value) (d : Option Addr) (pn : List (Addr × Obj)), Zc cls d oe → (∃ vs, oe.data = .fields vs) → PSs (X.suite a ((a, oe) :: pn)) (b₀ :: suite) (ts a cls d)) (r : ClausesOk X hds l) :
      ClausesOk X (.ExceptHandler (some (.Name x np)) (some n) (b₀ :: suite) pos' :: hds) (⟨c, i, ts⟩ :: l)
section
variable {X : Cx} {body : List Stmt} {h₀ : ExceptHandler} {hds : List ExceptHandler} {l : List Clause} {pos : Pos} {tb : WX → TS} {Wout : WX}
theorem ps_try_clauses (hs : X.stack = X.env :: X.outer) (hf : X.env.frame = some X.env.locals) (hN : X.N.Nodup) (tk : Takes X Wout)
    (hb : ∀ (W : WX) (pn : List (Addr × Obj)) (xe : Value → Shared → Prop), Takes (X.tr pn xe) W → PassesOwn (model X.prog X.w) X.A X.env xe → PSs (X.tr pn xe) body (tb W))
    (hh : ClausesOk X (h₀ :: hds) l) : PS X (.Try body (h₀ :: hds) [] [] pos) (fun D σ H => tb (wClauses X.K Wout D l) D σ H) := by
  refine ⟨fun pins s σ H D I h => ?_⟩
  have ok := I.ok
  have hfr : X.A.frames = some (X.env :: X.outer) := by rw [ok.frames, hs]
  refine wpAny_Try_except ?_
  refine wpAny_mono ((hb (wClauses X.K Wout D l) (X.pn ++ pins) (fun e s₁ => wpAny (model X.prog X.w) X.A (noteFrame e X.env) (fun _ s₂ => wpAny (model X.prog X.w) X.A (setFlight e none) (fun _ s₃ =>
    wpAny (model X.prog X.w) X.A (handleBy e X.env (h₀ :: hds)) (SP X pins D) X.xe s₃) X.xe s₂) X.xe s₁) (fun u s' xx => ?_) PassesOwn.looking).run [] s σ H D (I.toTry _) h) (fun f s1 hsp => ?_) (fun e s1 he => he)
  · obtain ⟨a, B, sI, pins', σ', H', cls, d, rfl, J', nb, up, sky, na, os, ag, ww⟩ := xx
    have J : Inv X pins σ' H' sI := J'.ofTry ok
    have sky' : Sky B (X.env :: X.outer) a (Zc cls d) X.env.locals s'.heap := by rw [← hs]; exact sky
    show wpAny (model X.prog X.w) X.A (noteFrame (.ref a) X.env) _ _ _
    refine Sky.land Zc.steady hfr hf sky' fun h3 fl3 up3 => ?_
    have J3 : Inv X pins σ' H' { s' with heap := h3 } := J.landed nb fl3.1 (up.trans up3) os ag
    obtain ⟨oe3, vs3, he3, hz3, hd3⟩ := fl3.there
    have nfr : a ∉ frs (X.env :: X.outer) := fun hm => by
      obtain ⟨_, o', e', hnf⟩ := fl3.2.2.1.mem hm
      rw [he3] at e'; cases e'
      exact hnf _ hd3
    have nL : a ≠ X.env.locals := fun z => nfr (List.mem_filterMap.mpr ⟨X.env, List.mem_cons_self, by rw [hf, z]⟩)
    have nF : a ∉ X.fs := fun hm => by
      obtain ⟨e, he, q⟩ := List.mem_filterMap.mp hm
      exact nfr (List.mem_filterMap.mpr ⟨e, List.mem_cons_of_mem _ he, q⟩)
    have S3 := J3.suite he3 hd3 na nL nF
    have go : ∀ {hds' : List ExceptHandler} {l' : List Clause}, ClausesOk X hds' l' → wClauses X.K Wout D l' cls d σ' H' →
        wpAny (model X.prog X.w) X.A (handleBy (.ref a) X.env hds') (SP X pins D) X.xe { s' with heap := h3 } := by
      intro hds' l' hk
      induction hk with
      | nil =>
        intro ww
        refine wpAny_handleBy_nil ?_
        obtain ⟨k1, k2, k3, oe, vs, T, oT, ts', he, hz, hd, h1, hr⟩ := id fl3
        unfold PySem.passOn
        refine wpAny_bind (wpAny_field he hd h1 ?_)
        rw [if_neg (show ¬ ((Value.ref T == Value.none) = true) from by simp)]
        have fin : wpAny (model X.prog X.w) X.A (setFlight (.ref a) X.env.frame) (fun _ s4 => wpAny (model X.prog X.w) X.A (throw (.ref a) : Sem Flow) (SP X pins D) X.xe s4) X.xe { s' with heap := h3 } := by
          rw [hf]
          refine HandSPX.setFlight_upZ fl3 fun h4 hh4 up4 => wpAny_throw (tk _ _ ?_)
          exact ⟨a, B, sI, pins, σ', H', cls, d, rfl, J, nb, (up.trans up3).trans up4, .inr (.inr (by rw [hs]; exact hh4)), na, os, ag, ww⟩
        first
          | exact wpAny_bind (wpAny_pure (wpAny_bind fin))
          | exact wpAny_bind fin
      | @cons x n c i ts b₀ suite np pos' hds2 l2 hi hln hc hsu r ih =>
        intro ww
        have hloc : Loc X.env.scope n := .inl hln
        obtain ⟨b, hb1, hyes, hno⟩ := ww
        refine wpAny_handleBy_cons (codeAny_handlers_test ?_) (by intro q; cases q)
        have LT : PySem.W.Looks (model X.prog X.w) h3 (typeOf (.ref a)) cls := fun A Q E s k q => wpAny_typeOf_ref (k _ _ he3) (by rw [hz3.1]; exact q)
        have LM := PySem.W.exm_one (M := model X.prog X.w) (J3.kIn) LT hb1
        have test : ∀ {Q : Value → Shared → Prop} {E : Value → Shared → Prop}, Q c { s' with heap := h3 } → wpAny (model X.prog X.w) (X.A.mark (some (.ref a))) (eval (.Name x np) X.env) Q E { s' with heap := h3 } := fun {Q E} q => by
          obtain ⟨hg, hdbg, hm | ⟨hm, hv, hnn⟩⟩ := hc
          · exact ld_glob (X := X.suite a ((a, oe3) :: (X.pn ++ pins))) S3 hg hm q hdbg
          · exact ld_blt (X := X.suite a ((a, oe3) :: (X.pn ++ pins))) S3 hg hm hv q hnn hdbg
        refine test (LM.here ?_)
        cases b with
        | true =>
          refine codeAny_handlers_suite_as ?_
          refine HandSPX.lands_againZ fl3 fun h4 fl4 up4 => ?_
          have J4 : Inv X pins σ' H' { s' with heap := h4 } := J.landed nb fl4.1 ((up.trans up3).trans up4) os ag
          obtain ⟨oe4, vs4, he4, hz4, hd4⟩ := fl4.there
          have S4 := J4.suite he4 hd4 na nL nF
          refine store_ok (X := X.suite a ((a, oe4) :: (X.pn ++ pins))) (v := .ref a) S4 hN hi hloc rfl (fun s5 S5 => ?_) (.inr hln)
          refine wpAny_mono ((hsu a oe4 cls d (X.pn ++ pins) hz4 ⟨_, hd4⟩).run [] s5 _ H' _ S5 (hyes rfl a na)) (fun f s6 hsp => ?_) (fun _ _ z => False.elim z)
          have end_ : ∀ {σ6 : L2.St} {H6 : Hp} {Q : Shared → Prop}, Inv (X.suite a ((a, oe4) :: (X.pn ++ pins))) [] σ6 H6 s6 → (∀ s7, Inv X pins (σ6.set i none) H6 s7 → Q s7) →
              wpAny (model X.prog X.w) X.A (do bindName X.env n .none; unbindBehindTheSuite X.env n pos') (fun _ s7 => Q s7) X.xe s6 := fun {σ6 H6 Q} S6 hq => gone_ok (S6.unsuite ok) hN hi hln hq
          cases f with
          | next =>
            obtain ⟨σ6, H6, S6, q6⟩ := hsp
            exact end_ S6 fun s7 J7 => ⟨_, _, J7, q6⟩
          | brk =>
            obtain ⟨σ6, H6, S6, q6⟩ := hsp
            exact end_ S6 fun s7 J7 => ⟨_, _, J7, q6⟩
          | cont =>
            obtain ⟨σ6, H6, S6, q6⟩ := hsp
            exact end_ S6 fun s7 J7 => ⟨_, _, J7, q6⟩
          | ret u =>
            obtain ⟨v6, σ6, H6, S6, r6, q6⟩ := hsp
            exact end_ S6 fun s7 J7 => ⟨_, _, _, J7, r6, q6⟩
        | false =>
          show wpAny _ X.A (handleBy (.ref a) X.env hds2) _ _ _
          exact ih (hno rfl)
    exact go hh ww
  · cases f with
    | next =>
      obtain ⟨σ', H', J', q⟩ := hsp
      exact wpAny_execs_nil ⟨σ', H', J'.ofTry ok, q⟩
    | brk =>
      obtain ⟨σ', H', J', q⟩ := hsp
      exact ⟨σ', H', J'.ofTry ok, q⟩
    | cont =>
      obtain ⟨σ', H', J', q⟩ := hsp
      exact ⟨σ', H', J'.ofTry ok, q⟩
    | ret u =>
      obtain ⟨v, σ', H', J', r, q⟩ := hsp
      exact ⟨v, σ', H', J'.ofTry ok, r, q⟩
end
/-! ### isinstance of a caught error, with or without fields -/
def rIsX (K : PySem.W.Frag) (D a : Addr) (cls : Value) (d : Option Addr) : List V → Hp → VK → Prop := fun xs H Q => ∃ (c : V) (u : Value) (b : Bool), xs = [.ref a, c] ∧ cls = .ref D ∧ ClsE c u ∧ (d = none ∨ ∃ dd fs, d = some dd ∧ H dd = some (.xd fs)) ∧ PySem.W.kitOne K (.ref D) u = some b ∧ Q (.bl b) H
where ClsE (c : V) (u : Value) : Prop := ∀ w, RelV c w → w = u
theorem call_isX {X : Cx} {a D : Addr} {oe : Obj} {cls : Value} {d : Option Addr} {pn : List (Addr × Obj)} (C : ExcC X.K D) (hz : Zc cls d oe) (hf : ∃ vs, oe.data = .fields vs) : CallR (X.suite a ((a, oe) :: pn)) (.builtin "isinstance") (rIsX X.K D a cls d) := by
  intro pins s σ H xs us Q I r h
  obtain ⟨c, u, b, rfl, rfl, hcv, hdd, e, q⟩ := h
  cases r with
  | cons rx rr =>
    cases rr with
    | cons rt rr =>
      cases rr
      cases rx
      have ec := hcv _ rt
      subst ec
      obtain ⟨hget, _⟩ := I.pin (a, oe) (List.mem_append.mpr (.inl List.mem_cons_self))
      obtain ⟨vs, hv⟩ := hf
      have hcl : (PySem.W.clsIn X.K D).isSome = true := by
        obtain ⟨cd, hc, _⟩ := PySem.W.any_some C.hd
        rw [hc]
        rfl
      have J : ∃ od, PySem.W.InstAt s.heap a oe D od := by
        obtain ⟨oc, od, oda, osl⟩ := oe
        obtain ⟨h1, h2⟩ := hz
        dsimp only at h1 h2 hv
        subst h1 h2 hv
        rcases hdd with rfl | ⟨dd, fs, rfl, hx⟩
        · exact ⟨none, hget, rfl, rfl, trivial⟩
        · obtain ⟨o, ho⟩ := objOk_get (I.hok dd _ hx)
          exact ⟨some o, hget, rfl, rfl, ho⟩
      obtain ⟨od, J⟩ := J
      exact PySem.W.kia_one (PySem.W.kitx_exc hcl C.hg C.hk C.hs C.ha C.hn C.ht C.hm) I.kIn J e (fun z => nomatch z) fun tk => ⟨.bl b, H, I.kept (t' := tk) fun _ _ z => z, rfl, q⟩
end BX

set_option Elab.async false
set_option linter.all false
set_option maxRecDepth 100000
set_option maxHeartbeats 4000000
namespace BX
open PySem PySem.Spec PyProof.Rows L2
/-! ### promises of defs that are called where nothing is being shown -/
structure FnOkG (P : Program) (w : World) (K : PySem.W.Frag) (mg : Str → Option Value) (base : Heap) (CX : CXT) (k : Nat) (f : Addr) (fd : FuncData) (ps : List Str) (sp : Sp) : Prop where
  len : ∀ vs H Q E, sp vs H Q E → vs.length = ps.length
  run : ∀ (A : Around) (outer : List Env) (s : Shared) (H : Hp) (args : Args) (us : List Value) (vs : List V) (Q : VK) (E : XK), Room k A → A.guards = some [] → Env0 P w K mg base A outer s H → BindsTo s fd args (ps.zip us) → Vals vs us → sp vs H Q E →
    codeAny (model P w) A (.call (.ref f) args) (CR CX outer P w H s Q E) s
section
variable {P : Program} {w : World} {K : PySem.W.Frag} {mg : Str → Option Value} {base : Heap} {CX : CXT} {k : Nat} {f : Addr} {fd : FuncData} {ps : List Str} {sp : Sp}
theorem FnOkG.of (F : FnOk P w K mg base CX k f fd ps sp) : FnOkG P w K mg base CX k f fd ps sp := ⟨F.len, fun A outer s H args us vs Q E hr _ e b r h => F.run A outer s H args us vs Q E hr e b r h⟩
theorem FnOkG.mono {j : Nat} (F : FnOkG P w K mg base CX j f fd ps sp) (h : j ≤ k) : FnOkG P w K mg base CX k f fd ps sp := ⟨F.len, fun A outer s H args us vs Q E hr => F.run A outer s H args us vs Q E (hr.mono h)⟩
/-- the body of such a def -/
theorem fn_ofG {name qual : Str} {params : Arguments} {body : List Stmt} {scope : Scope} {dV kV doc pm cdv ct oc : Value} {an od : Option Addr} {osl : Array (Option Value)} {N : List Str}
    (lk : K.lookup f = some ⟨oc, od, .func (PySem.W.fnOf name qual params body scope dV kV doc pm an cdv ct), osl⟩) (hcd : PySem.W.codeIn K cdv qual = true) (S : FnScope N ps scope) (len : ∀ vs H Q E, sp vs H Q E → vs.length = ps.length)
    (hbody : ∀ (A : Around) (outer : List Env) (s : Shared) (H : Hp) (vs : List V) (Q : VK) (E : XK), Room k (A.deeper (envOfC qual scope s.heap.objs.size f cdv)) → (A.deeper (envOfC qual scope s.heap.objs.size f cdv)).guards = some [] → sp vs H Q E →
      ∃ t, PSs (cxOf CX P w K mg base N qual scope f cdv A outer s H E) body t ∧ t { nx := fun _ H' => Q .non H', rt := Q } (start N vs) H) :
    FnOkG P w K mg base CX (k + 1) f (PySem.W.fnOf name qual params body scope dV kV doc pm an cdv ct) ps sp := by
  refine ⟨len, fun A outer s H args us vs Q E hr hgd e0 hb r hsp => ?_⟩
  have KX : K.In s.heap := e0.mod.kin.keeps fun b o e => (e0.bs b o e).1
  have lim : s.heap.NoLimit := e0.mod.nolimit.keeps fun b o e => (e0.bs b o e).1
  have hkind : ∀ y ∈ ps.zip us, scope.names.lookup y.1 = some .local ∨ (scope.names.lookup y.1 = some .cell ∧ ((cellsFrom (s.heap.objs.size + 1) scope.names []).lookup y.1).isSome = true) := fun ⟨n, v⟩ hy => by
    rcases S.par n (List.of_mem_zip hy).1 with q | q
    · exact .inl q
    · exact .inr ⟨q, PySem.W.cellsFrom_some _ _ _ (.inl q)⟩
  refine codeAny_call_function hr.depth (KX _ _ lk) rfl S.co S.gen rfl (PySem.W.codeRec_of KX hcd) (hb _ _ _ _ ?_)
  refine wpAny_newFunctionEnv_cells S.kind hkind fun env he s1 x => ?_
  subst he
  refine ⟨lim.keeps x.toInCall.keep, codeAny_func ?_⟩
  obtain ⟨t, ht, hq⟩ := hbody A outer s H vs Q E (hr.deeper _) hgd hsp
  have I : Inv (cxOf CX P w K mg base N qual scope f cdv A outer s H E) [] (start N vs) H s1 := inv_start S hr.hd e0 (len _ _ _ _ hsp) r x
  refine wpAny_mono (ht.run [] s1 (start N vs) H _ I hq) (fun fl s' hs => ?_) fun e s' hs => hs
  have fin : ∀ {σ' : L2.St} {H' : Hp} {v : V} {u : Value}, Inv (cxOf CX P w K mg base N qual scope f cdv A outer s H E) [] σ' H' s' → RelV v u → Q v H' → CE outer P w H s Q u s' :=
    fun {σ' H' v u} J rv q => ⟨v, H', J.os, J.bare, J.base, J.hok, rv, q⟩
  cases fl with
  | ret u =>
    obtain ⟨v, σ', H', J, rv, q⟩ := hs
    exact fin J rv q
  | next =>
    obtain ⟨σ', H', J, q⟩ := hs
    exact fin (v := V.non) (u := Value.none) J rfl q
  | brk =>
    obtain ⟨_, _, _, q⟩ := hs
    exact False.elim q
  | cont =>
    obtain ⟨_, _, _, q⟩ := hs
    exact False.elim q
theorem okG {x qual : Str} {st : Stmt} {N : List Str} (F : Fun K x qual st f fd) (S : FnScope N ps (defScope st)) (len : ∀ vs H Q E, sp vs H Q E → vs.length = ps.length)
    (hbody : ∀ (cdv : Value) (A : Around) (outer : List Env) (s : Shared) (H : Hp) (vs : List V) (Q : VK) (E : XK), Room k (A.deeper (envOfC qual (defScope st) s.heap.objs.size f cdv)) → (A.deeper (envOfC qual (defScope st) s.heap.objs.size f cdv)).guards = some [] → sp vs H Q E →
      ∃ t, PSs (cxOf CX0 P w K mg base N qual (defScope st) f cdv A outer s H E).nox (defBody st) t ∧ t { nx := fun _ H' => Q .non H', rt := Q } (start N vs) H) : FnOkG P w K mg base CX0 (k + 1) f fd ps sp := by
  obtain ⟨oc, od, kV, doc, pm, an, cdv, ct, osl, rfl, lk, hcd⟩ := F.ex
  refine fn_ofG lk hcd S len fun A outer s H vs Q E hr hgd hsp => ?_
  obtain ⟨t, h, q⟩ := hbody cdv A outer s H vs Q E hr hgd hsp
  exact ⟨t, h.nox, q⟩
end
section
variable {X : Cx} {CX : CXT} {k : Nat} {f : Addr} {fd : FuncData} {ps : List Str} {sp : Sp} {E : XK} {x : Str} {p pos : Pos} {e : Expr} {es : List Expr} {t : TA} {ds : List Value} {dvs : List V}
theorem run_fnG {pins : List (Addr × Obj)} {σ : L2.St} {H : Hp} {s : Shared} {Q : VK} {us : List Value} {vs : List V} (F : FnOkG X.prog X.w X.K X.mg X.base CX k f fd ps sp) (hr : Room k X.A) (hgd : X.A.guards = some []) (hb : Binds X.K fd ps ds) (hd : Vals dvs ds) (hx : Passes CX X E)
    (I : Inv X pins σ H s) (r : Vals vs us) (h : sp (vs ++ dvs) H Q E) : wpAny (model X.prog X.w) X.A (call (.ref f) us) (EP X pins σ Q) X.xe s := by
  have r2 : Vals (vs ++ dvs) (us ++ ds) := r.append hd
  have hl : (us ++ ds).length = ps.length := by rw [← r2.length]; exact F.len _ _ _ _ h
  refine wpAny_call (codeAny_mono (F.run X.A X.stack s H ⟨us, []⟩ (us ++ ds) (vs ++ dvs) Q E hr hgd I.env0 (hb s us I.kIn hl) r2 h) fun r s' hq => ?_)
  cases r with
  | error e => exact hx pins σ H s e s' I hq
  | ok fl =>
    cases fl with
    | ret u => exact I.after hq
    | next => exact False.elim hq
    | brk => exact False.elim hq
    | cont => exact False.elim hq
theorem pe_callG (F : FnOkG X.prog X.w X.K X.mg X.base CX k f fd ps sp) (hr : Room k X.A) (hgd : X.A.guards = some []) (hg : Gl X x) (hm : X.mg x = some (.ref f)) (hk : PySem.W.keepIn X.K (.ref f) = true) (hb : Binds X.K fd ps ds) (hd : Vals dvs ds) (hx : Passes CX X E)
    (ha : PA X (e :: es) t) (hdb : (x == ("__debug__" : Str)) = false := by decide) (he : starEach (e :: es) X.env = (false, eval e X.env) :: starEach es X.env := by rfl) (hpl : (backTo pos (starEach es X.env)).any (·.1) = false := by rfl) :
    PE X (.Call (.Name x p) (e :: es) [] pos) (tCall sp dvs E t) := by
  refine ⟨fun pins s σ H Q I h => ?_⟩
  refine wpAny_Call_Name_kw (ld_glob I hg hm ?_ hdb)
  refine PySem.W.callWith_K (h₀ := X.base) I.ok.mod.kin hk (thn (ha.run pos pins s σ H _ I h) fun us s1 ⟨vs, H1, I1, r, q⟩ => ⟨I1.kIn, ?_⟩) he hpl
  exact run_fnG F hr hgd hb hd hx I1 r q
end
/-! ### repr -/
/-- data, or the empty dict -/
def Dq (K : PySem.W.Frag) (H : Hp) (v : V) (d : PyData) : Prop := Dp K H v d ∨ ∃ a, v = .ref a ∧ H a = some (.dK []) ∧ d = .dict []
mutual
theorem noDict {K : PySem.W.Frag} {H : Hp} : ∀ (d : PyData) (v : V), Dp K H v d → d.hasDict = false
  | .none, _, _ => rfl
  | .bool _, _, _ => rfl
  | .int _, _, _ => rfl
  | .str _, _, _ => rfl
  | .list ds, _, h => by
    cases h with
    | lst _ ha => exact noDicts ds _ ha
  | .tuple ds, _, h => by
    cases h with
    | tup _ ha => exact noDicts ds _ ha
  | .dict _, _, h => by cases h
theorem noDicts {K : PySem.W.Frag} {H : Hp} : ∀ (ds : List PyData) (vs : List V), DpAll K H vs ds → PyData.hasDictAll ds = false
  | [], _, _ => rfl
  | d :: ds, _, h => by
    cases h with
    | cons h1 h2 =>
      show (PyData.hasDict d || PyData.hasDictAll ds) = false
      rw [noDict d _ h1, noDicts ds _ h2]
      rfl
end
def rRepr (K : PySem.W.Frag) : List V → Hp → VK → Prop := fun xs H Q => ∃ x d, xs = [x] ∧ Dq K H x d ∧ d.showable = true ∧ d.depth ≤ 64 ∧ d.shown.length ≤ sizeLine ∧ Q (.str d.shown) H
theorem call_reprD {X : Cx} (hgd : X.A.guards = some []) (hu : X.A.units + 80 < cLine) : CallR X (.builtin "repr") (rRepr X.K) := by
  intro pins s σ H xs us Q I r h
  obtain ⟨x, d, rfl, hd, hs, hdp, hsz, q⟩ := h
  cases r with
  | @cons _ u _ _ ru rn =>
    cases rn
    have up : ∀ {a : Addr} {as : List Addr}, Reads s.heap (.ref a) d as → (d.hasDict = true → sysModules ∉ as) → wpAny (model X.prog X.w) X.A (call (.builtin "repr") [.ref a]) (EP X pins σ Q) X.xe s := fun {a as} rd hsm =>
      repr_of_reads' rd hs hsm hgd (by omega) (fun _ _ z => z) (fun h' u tk hk => ⟨.str d.shown, H, I.kept (t' := tk) hk, ⟨_, rfl⟩, q⟩) hsz
    rcases hd with hd | ⟨a, rfl, ha, rfl⟩
    · have nd := noDict d x hd
      cases hd with
      | non => cases (show u = Value.none from ru); exact P.repr_of_none ⟨.str (PyData.shown .none), H, I.tok _, ⟨_, rfl⟩, q⟩
      | bl b => cases (show u = Value.bool b from ru); exact P.repr_of_bool ⟨.str (PyData.shown (.bool b)), H, I.tok _, ⟨_, rfl⟩, q⟩
      | int i => obtain ⟨t, e⟩ := (show ∃ t, u = Value.int i t from ru); cases e; exact P.repr_of_int (of_decide_eq_true hs) ⟨.str (PyData.shown (.int i)), H, I.tok _, ⟨_, rfl⟩, q⟩
      | str y => obtain ⟨t, e⟩ := (show ∃ t, u = Value.str y t from ru); cases e; exact P.repr_of_str ⟨.str (PyData.shown (.str y)), H, I.tok _, ⟨_, rfl⟩, q⟩ hsz
      | @lst a xs ds h1 h2 =>
        cases (show u = Value.ref a from ru)
        obtain ⟨as, rd⟩ := Dp.reads I _ _ _ (Dp.lst h1 h2) (show RelV (.ref a) (.ref a) from rfl)
        exact up rd (fun z => by rw [nd] at z; cases z)
      | @tup a xs ds h1 h2 =>
        cases (show u = Value.ref a from ru)
        obtain ⟨as, rd⟩ := Dp.reads I _ _ _ (Dp.tup h1 h2) (show RelV (.ref a) (.ref a) from rfl)
        exact up rd (fun z => by rw [nd] at z; cases z)
    · cases (show u = Value.ref a from ru)
      obtain ⟨_, hns, vs, hkv, o, es, ep, h1, h2, h3, h4, h5, _⟩ := (show ObjOk X.prog X.w H s.heap a (.dK []) from I.hok a _ ha)
      cases hkv
      have he : es.toList = [] := List.eq_nil_of_length_eq_zero h5.length
      refine up (as := a :: [] ++ []) (Reads.dict h1 h2.1 h3 (by rw [he]; exact .nil) (by rw [he]; exact .nil)) (fun _ hm => ?_)
      have ea : sysModules = a := by simpa using hm
      rw [← ea] at hns
      exact absurd hns (by decide +kernel)
end BX

set_option Elab.async false
set_option linter.all false
set_option maxRecDepth 100000
set_option maxHeartbeats 2000000
namespace Co
open PySem PySem.Spec PyProof.Rows L2
open Fr (Bd)
/-! ### // by any number but nought -/
def CDivZ (_ j : Int) : Prop := j ≠ 0 ∧ j.natAbs.log2 < 9000
theorem op_fdivZ {X : Cx} : OpR X (binaryOp .FloorDiv) (rI CDivZ fun i j => .int (i.fdiv j)) := opI fun i j _ _ _ _ _ hc q => floordiv_int hc.1 q (.inl (PyProof.noPylong_of_log2 hc.2))
theorem divZ {i j : Int} {n : Nat} (h : j ≠ 0) (hb : j.natAbs < 2 ^ n) (h0 : 0 < n) (h9 : n ≤ 9000) : CDivZ i j := ⟨h, Nat.lt_of_lt_of_le (PySem.Flt.log2_lt_of h0 hb) h9⟩
theorem same_new {H : Hp} {p : Addr} (h : H p = none) (o : HO) : Same H (upd H p o) := fun b u q => by rw [upd_ne (ne_of_none q h)]; exact q
theorem seqT {K : PySem.W.Frag} {H H' : Hp} {a : Addr} {xs : List V} (e : Same H H') (h : SqT K H a xs) : SqT K H' a xs := by
  rcases h with (h | ⟨o, h⟩) | h
  · exact .inl (.inl (e _ _ h))
  · exact .inl (.inr ⟨o, e _ _ h⟩)
  · exact .inr h
/-- what stands in a fraction's tuple -/
def rp (q : Rat) : List V := [.int q.num, .int (q.den : Int)]
def spDiv : Sp := fun vs H Q _ => ∃ a b : Int, vs = [.int a, .int b] ∧ Q (.int (Int.gcd a b : Int)) H
def spLow : Sp := fun vs H Q _ => ∃ (t b : Int) (n : Nat), vs = [.int t, .int b] ∧ t.natAbs < 2 ^ n ∧ b.natAbs < 2 ^ n ∧ b ≠ 0 ∧ n ≤ 8950 ∧ ∀ p, H p = none → Q (.ref p) (upd H p (.tup (rp (Rat.divInt t b))))
theorem gcd_bd {t b : Int} {n : Nat} (h : b ≠ 0) (hb : b.natAbs < 2 ^ n) : (Int.gcd t b : Int).natAbs < 2 ^ n := by
  rw [Int.natAbs_natCast]
  exact Nat.lt_of_le_of_lt (Nat.le_of_dvd (by omega) (Int.gcd_dvd_natAbs_right t b)) hb
theorem wmul {i j : Int} {n m : Nat} (hi : i.natAbs < 2 ^ n) (hj : j.natAbs < 2 ^ m) (h : n + m ≤ 9000) : CMulW i j :=
  wide_mul (a := n + 1) (b := m + 1) (Fr.up hi (Nat.le_succ _)) (Fr.up hj (Nat.le_succ _)) (Nat.succ_pos _) (Nat.succ_pos _) (by omega)
theorem at0 (q : Rat) : atI (rp q) 0 = some (.int q.num) := atI_nat (j := 0) rfl
theorem at1 (q : Rat) : atI (rp q) 1 = some (.int (q.den : Int)) := atI_nat (j := 1) rfl
/-- a fraction made of two -/
def spBin (K : PySem.W.Frag) (g : Rat → Rat → Rat) : Sp := fun vs H Q _ => ∃ (a b : Addr) (x y : Rat) (n m : Nat), vs = [.ref a, .ref b] ∧ SqT K H a (rp x) ∧ SqT K H b (rp y) ∧ Bd n x ∧ Bd m y ∧ n + m ≤ 8900 ∧ ∀ p, H p = none → Q (.ref p) (upd H p (.tup (rp (g x y))))
def spUnder (K : PySem.W.Frag) : Sp := fun vs H Q _ => ∃ (a b : Addr) (x y : Rat) (n m : Nat), vs = [.ref a, .ref b] ∧ SqT K H a (rp x) ∧ SqT K H b (rp y) ∧ Bd n x ∧ Bd m y ∧ n + m ≤ 8900 ∧ Q (.bl (decide (x.num * y.den < y.num * x.den))) H
theorem abs_eq (x : Int) : (if x < 0 then -x else x) = (x.natAbs : Int) := by split <;> omega
theorem tyT {K : PySem.W.Frag} {H : Hp} {a : Addr} {xs : List V} (h : SqT K H a xs) : TyX K H (.ref a) (.type "tuple") := by
  rcases h with (h | ⟨o, h⟩) | ⟨o, its, n, e, c, _⟩
  · exact .base (.tup h)
  · exact .fTuple h
  · exact .kTuple e c
/-- what the module leaves of the built-in names -/
structure Blt (mg : Str → Option Value) : Prop where
  abs_ : mg "abs" = none
  isinstance_ : mg "isinstance" = none
  int_ : mg "int" = none
  bool_ : mg "bool" = none
  tuple_ : mg "tuple" = none
  list_ : mg "list" = none
  len_ : mg "len" = none
  range_ : mg "range" = none
  str_ : mg "str" = none
  repr_ : mg "repr" = none
  sum_ : mg "sum" = none
  all_ : mg "all" = none
  any_ : mg "any" = none
  enumerate_ : mg "enumerate" = none
  zip_ : mg "zip" = none
  min_ : mg "min" = none
  max_ : mg "max" = none
  sorted_ : mg "sorted" = none
  ValueError_ : mg "ValueError" = none
  ZeroDivisionError_ : mg "ZeroDivisionError" = none
  OverflowError_ : mg "OverflowError" = none
  IndexError_ : mg "IndexError" = none
  LookupError_ : mg "LookupError" = none
  ArithmeticError_ : mg "ArithmeticError" = none
  KeyError_ : mg "KeyError" = none
  RuntimeError_ : mg "RuntimeError" = none
/-- a list of fractions: its items, and what they are worth -/
structure FrL (K : PySem.W.Frag) (H : Hp) (refs : List V) (qs : List Rat) : Prop where
  len : refs.length = qs.length
  at_ : ∀ (i : Nat) (v : V), refs[i]? = some v → ∃ (a : Addr) (q : Rat), qs[i]? = some q ∧ v = .ref a ∧ SqT K H a (rp q) ∧ Bd 100 q
theorem FrL.keep {K : PySem.W.Frag} {H H' : Hp} {refs : List V} {qs : List Rat} (h : FrL K H refs qs) (k : ∀ a xs, SqT K H a xs → SqT K H' a xs) : FrL K H' refs qs :=
  ⟨h.len, fun i v e => let ⟨a, q, e1, e2, e3, e4⟩ := h.at_ i v e; ⟨a, q, e1, e2, k _ _ e3, e4⟩⟩
theorem FrL.same {K : PySem.W.Frag} {H H' : Hp} {refs : List V} {qs : List Rat} (h : FrL K H refs qs) (e : Same H H') : FrL K H' refs qs := h.keep fun _ _ => seqT e
theorem FrL.nil {K : PySem.W.Frag} {H : Hp} : FrL K H [] [] := ⟨rfl, fun i v e => by simp at e⟩
theorem FrL.snoc {K : PySem.W.Frag} {H : Hp} {refs : List V} {qs : List Rat} {a : Addr} {q : Rat} (h : FrL K H refs qs) (ha : SqT K H a (rp q)) (hb : Bd 100 q) : FrL K H (refs ++ [.ref a]) (qs ++ [q]) := by
  refine ⟨by rw [List.length_append, List.length_append, h.len]; rfl, fun i v e => ?_⟩
  by_cases hi : i < refs.length
  · rw [List.getElem?_append_left hi] at e
    obtain ⟨a', q', e1, e2, e3, e4⟩ := h.at_ i v e
    exact ⟨a', q', by rw [List.getElem?_append_left (by rw [← h.len]; exact hi)]; exact e1, e2, e3, e4⟩
  · rw [List.getElem?_append_right (by omega)] at e
    have e0 : i - refs.length = 0 := by
      cases z : i - refs.length with
      | zero => rfl
      | succ j => rw [z] at e; simp at e
    rw [e0] at e
    have ev : (V.ref a) = v := Option.some.inj e
    refine ⟨a, q, ?_, ev.symm, ha, hb⟩
    rw [List.getElem?_append_right (by rw [← h.len]; omega), ← h.len, e0]
    rfl
theorem keep_lst {K : PySem.W.Frag} {H : Hp} {l : Addr} {ys zs : List V} (hl : H l = some (.lst ys)) : ∀ a xs, SqT K H a xs → SqT K (upd H l (.lst zs)) a xs := fun a xs h => by
  rcases h with (h | ⟨o, h⟩) | h
  · exact .inl (.inl (by rw [upd_ne (ne_of h hl (by intro z; cases z))]; exact h))
  · exact .inl (.inr ⟨o, by rw [upd_ne (ne_of h hl (by intro z; cases z))]; exact h⟩)
  · exact .inr h
theorem sum_snoc {qs : List Rat} {i : Nat} {q : Rat} (h : qs[i]? = some q) : (qs.take (i + 1)).sum = (qs.take i).sum + q := by
  rw [List.take_add_one, h, List.sum_append]
  show _ + ([q] : List Rat).sum = _
  rw [List.sum_cons, List.sum_nil, Rat.add_zero]
def spLeft : Sp := fun vs H Q _ => ∃ c : Int, vs = [.int c] ∧ ∀ p n, H p = none → Q (.ref p) (upd H p (.lst [.int n]))
def spDigit : Sp := fun vs H Q _ => ∃ (l : Addr) (n m : Int), vs = [.ref l, .int m] ∧ H l = some (.lst [.int n]) ∧ 0 < m ∧ m.natAbs < 2 ^ 200 ∧ ∀ d n' : Int, 0 ≤ d → d < m → Q (.int d) (upd H l (.lst [.int n']))
theorem lt100 {i : Int} (h : i.natAbs ≤ 10 ^ 20) : i.natAbs < 2 ^ 100 := Nat.lt_of_le_of_lt h (by decide)
/-- a fraction as data -/
def dR (q : Rat) : PyData := .tuple [.int q.num, .int (q.den : Int)]
theorem dp_r {K : PySem.W.Frag} {H : Hp} {a : Addr} {q : Rat} (h : SqT K H a (rp q)) : Dp K H (.ref a) (dR q) := .tup h (.cons (.int _) (.cons (.int _) .nil))
theorem dR_lay (q : Rat) : (dR q).canLay0 = true := rfl
theorem dR_depth (q : Rat) : (dR q).depth = 1 := rfl
theorem dR_shaped (q : Rat) : SeqAt.shaped (dR q) = true := rfl
theorem FrL.dp {K : PySem.W.Frag} {H : Hp} : ∀ {refs : List V} {qs : List Rat}, FrL K H refs qs → DpAll K H refs (qs.map dR)
  | [], [], _ => .nil
  | [], _ :: _, h => by have := h.len; simp at this
  | _ :: _, [], h => by have := h.len; simp at this
  | v :: refs, q :: qs, h => by
    obtain ⟨a, q', e1, rfl, e3, _⟩ := h.at_ 0 v rfl
    have e : q = q' := Option.some.inj e1
    subst e
    refine .cons (dp_r e3) (FrL.dp ⟨by have := h.len; simpa using this, fun i v e => ?_⟩)
    exact h.at_ (i + 1) v e
theorem lays : ∀ qs : List Rat, PyData.canLayAll0 (qs.map dR) = true
  | [] => rfl
  | q :: qs => by
    show (PyData.canLay0 (dR q) && PyData.canLayAll0 (qs.map dR)) = true
    rw [lays qs]
    rfl
theorem deps : ∀ qs : List Rat, PyData.depthAll (qs.map dR) ≤ 1
  | [] => by decide
  | q :: qs => by
    have := deps qs
    show max (PyData.depth (dR q)) (PyData.depthAll (qs.map dR)) ≤ 1
    rw [dR_depth]
    omega
theorem list_lay (qs : List Rat) : (PyData.list (qs.map dR)).canLay0 = true := lays qs
theorem list_shaped (qs : List Rat) : SeqAt.shaped (.list (qs.map dR)) = true := by
  unfold SeqAt.shaped
  rw [list_lay, Bool.true_and]
  refine decide_eq_true ?_
  have := deps qs
  show PyData.depthAll (qs.map dR) + 1 ≤ 64
  omega
theorem FrL.rev {K : PySem.W.Frag} {H : Hp} {refs : List V} {qs : List Rat} (h : FrL K H refs qs) : FrL K H refs.reverse qs.reverse := by
  refine ⟨by rw [List.length_reverse, List.length_reverse, h.len], fun i v e => ?_⟩
  have hi : i < refs.length := by
    have := (List.getElem?_eq_some_iff.mp e).1
    rw [List.length_reverse] at this
    exact this
  rw [List.getElem?_reverse hi] at e
  obtain ⟨a, q, e1, e2, e3, e4⟩ := h.at_ _ v e
  refine ⟨a, q, ?_, e2, e3, e4⟩
  rw [List.getElem?_reverse (by rw [← h.len]; exact hi), ← h.len]
  exact e1
theorem cut_mem {xs : List V} {lo hi : Option Int} {x : V} (h : x ∈ cutV xs lo hi) : x ∈ xs := List.mem_of_mem_drop (List.mem_of_mem_take h)
theorem FrL.mem {K : PySem.W.Frag} {H : Hp} {refs : List V} {qs : List Rat} {v : V} (h : FrL K H refs qs) (hv : v ∈ refs) : ∃ (a : Addr) (q : Rat), v = .ref a ∧ SqT K H a (rp q) ∧ Bd 100 q := by
  obtain ⟨i, hi, e⟩ := List.getElem_of_mem hv
  obtain ⟨a, q, _, e2, e3, e4⟩ := h.at_ i v (by rw [List.getElem?_eq_getElem hi, e])
  exact ⟨a, q, e2, e3, e4⟩
theorem int_of {ns : List Int} {x : V} {lo hi : Option Int} {z : Int} {i : Nat} (h : (cutV (ns.map V.int) lo hi ++ [V.int z])[i]? = some x) : ∃ c : Int, x = .int c := by
  have hm := List.mem_of_getElem? h
  rcases List.mem_append.mp hm with hm | hm
  · obtain ⟨c, _, e⟩ := List.mem_map.mp (cut_mem hm)
    exact ⟨c, e.symm⟩
  · exact ⟨z, by simpa using hm⟩
/-- an error of the class at S is what «except S» names -/
theorem exm_self {K : PySem.W.Frag} {S : Addr} (h1 : PySem.W.subIn K (.ref S) (.type "BaseException") = some true) (h2 : PySem.W.isClsIn K S = true) (h3 : PySem.W.typeIn K (.ref S) = some (.type "type")) (h4 : PySem.W.subIn K (.ref S) (.ref S) = some true) :
    PySem.W.exmOne K (.ref S) (.ref S) = some true := by
  have e1 : (PySem.W.subIn K (.ref S) (.type "BaseException") == some true) = true := by rw [h1] <;> rfl
  have e2 : ((PySem.W.clsIn K S).isSome && PySem.W.typeIn K (.ref S) == some (.type "type")) = true := by
    have h2' : (PySem.W.clsIn K S).isSome = true := h2
    rw [h2', h3] <;> rfl
  show (if (PySem.W.subIn K (.ref S) (.type "BaseException") == some true) = true then (if ((PySem.W.clsIn K S).isSome && PySem.W.typeIn K (.ref S) == some (.type "type")) = true then PySem.W.subIn K (.ref S) (.ref S) else none) else none) = some true
  rw [if_pos e1, if_pos e2]
  exact h4
end Co

set_option Elab.async false
set_option linter.all false
set_option maxRecDepth 100000
set_option maxHeartbeats 4000000
namespace EXB
open PySem PySem.Spec PyProof.Rows L2
/-- what the written part says of an own error class over B -/
structure ExC (K : PySem.W.Frag) (C : Addr) (newId : String) (bmB : List Value) : Prop where
  cls : ∃ nm q N bs sn sub ab col dd k0 k1 k2 k3 k5, K.lookup C = some (excClassObj nm q C N bs bmB true sn sub ab col dd k0 k1 k2 k3 k5 newId)
  exC : PySem.W.subIn K (.ref C) (.type "BaseException") = some true
  tyC : PySem.W.typeIn K (.ref C) = some (.type "type")
  kC : PySem.W.keepIn K (.ref C) = true
section
variable {X : Cx} {pins : List (Addr × Obj)} {σ : L2.St} {H : Hp} {s : Shared} {a C : Addr} {A : Around} {E : Value → Shared → Prop} {B newId initId : String} {bmB : List Value}
/-- B.__init__(self, ..): nothing of it is told -/
theorem einit_ok {us : List Value} {Q : Value → Shared → Prop} (Fb : ExcBaseFacts B newId initId bmB) (T : ExC X.K C newId bmB) (I : Inv X pins σ H s) (e : H a = some (exo a C none)) (hl : us.length ≤ sizeLine) (h : ∀ s', Inv X pins σ H s' → Q .none s') :
    wpAny (model X.prog X.w) A (call (.builtin initId) (.ref a :: us)) Q E s := by
  obtain ⟨nm, q, N, bs, sn, sub, ab, col, dd, k0, k1, k2, k3, k5, hC⟩ := T.cls
  obtain ⟨t1, ho⟩ := exo_at I.hok e
  obtain ⟨hp, g, d, t, os⟩ := s
  refine wpAny_call (PySem.HandSPX.init_base Fb (fun Y => rfl) (I.kIn _ _ hC) ho hl fun h' t2 k hx => ?_)
  have J := I.write (t' := t) (x := a) (e := a) (o := exo a C none) (by rw [e]; exact True.intro) (.inl rfl) k ⟨_, hx⟩ (exo_ok hx)
  have eu : upd H a (exo a C none) = H := by
    funext b
    by_cases hb : b = a
    · rw [hb, upd_same, e]
    · rw [upd_ne hb]
  rw [eu] at J
  exact h _ J
end
def tExI (K : PySem.W.Frag) (newId : String) (bmB : List Value) (ta : TA) : TE := fun σ H Q => ta σ H fun vs H1 => ∃ (a C : Addr) (ws : List V), vs = .ref a :: ws ∧ ws.length ≤ 1000 ∧ ExC K C newId bmB ∧ H1 a = some (exo a C none) ∧ Q .non H1
section
variable {X : Cx} {e : Expr} {es : List Expr} {ta : TA} {p p1 p2 pos : Pos} {B newId initId : String} {bmB : List Value}
theorem typ_ZD : typeOf (.type "ZeroDivisionError") = pure (.type "type") := by kernel_rfl
theorem pe_zdinit {pl : Sem Bool} (hg : Gl X "ZeroDivisionError") (hm : X.mg "ZeroDivisionError" = none) (vV : PySem.W.findCls X.K (.type "ZeroDivisionError") (.type "type") "__init__" = some (.val (.builtin "ZeroDivisionError.__init__"))) (ha : PA X (e :: es) ta)
    (hc : eval (.Call (.Attribute (.Name "ZeroDivisionError" p1) "__init__" p2) (e :: es) [] pos) X.env = (do
      let ov ← eval (.Name "ZeroDivisionError" p1) X.env
      standAt p2.atName
      let (f, first) ← holding [ov] (getMethod ov "__init__" pl)
      callWith pos f first (backTo pos (starEach (e :: es) X.env)) (backToKw pos (keywordEach [] X.env))) := by rfl)
    (he : starEach (e :: es) X.env = (false, eval e X.env) :: starEach es X.env := by rfl) (hpl : (backTo pos (starEach es X.env)).any (·.1) = false := by rfl) :
    PE X (.Call (.Attribute (.Name "ZeroDivisionError" p1) "__init__" p2) (e :: es) [] pos) (tExI X.K "ZeroDivisionError.__new__" [.type "ZeroDivisionError", .type "ArithmeticError", .type "Exception", .type "BaseException", .type "object"] ta) := by
  refine ⟨fun pins s σ H Q I h => ?_⟩
  refine PySem.W.methodCall_KW (ld_blt I hg hm PyProof.Rows.Boot.«ZeroDivisionError» ?_ (by decide) (by decide)) hc
  obtain ⟨m, fr⟩ := I.fr
  refine PySem.W.method_type fr I.ok.mod.kin typ_ZD (by decide +kernel) vV (by decide +kernel) ?_
  show wpAny _ _ (callWith pos (Value.builtin "ZeroDivisionError.__init__") [] (backTo pos (starEach (e :: es) X.env)) []) _ _ _
  refine PyProof.Rows.callWith_method1 (thn (ha.run pos pins _ σ H _ (I.tok _) h) fun us s1 ⟨vs, H1, I1, r1, a, C, ws, ev, hl, T, ea, q⟩ => ?_) he hpl
  subst ev
  cases r1 with
  | @cons _ u0 _ ur ra rw' =>
    obtain rfl : u0 = Value.ref a := ra
    have hlen : ur.length ≤ sizeLine := by
      rw [← Paired.length rw', sizeLine_eq]
      omega
    exact einit_ok PySem.F.excBase_ZeroDivisionError T I1 ea hlen fun s' J => ⟨.non, H1, J, rfl, q⟩
/-- the end of C(..), no field: the exception is let go -/
theorem mk_endN {pins : List (Addr × Obj)} {σ : L2.St} {H1 H2 : Hp} {Q : XK} {hp hp2 h2 : Heap} {g1 g2 : Array GenState} {d1 d2 : Drawn} {t1 t2 : Nat} {os1 os2 : OsState} {a C : Addr} (T : Raises X (.ref C)) (I1 : Inv X pins σ H1 ⟨hp, g1, d1, t1, os1⟩)
    (ha : hp.objs.size ≤ a) (k : ∀ b o, hp.get? b = some o → hp2.get? b = some o) (un : Un (frs X.stack) [] (upd H1 a (exo a C none)) H2 hp2 h2) (hok : HOk X.prog X.w H2 h2) (ho : os2 = os1) (hb : AllBare g2)
    (ea : H2 a = some (exo a C none)) (q : Q (.ref C) none (del H2 a)) : MkP X pins σ Q (.ref a) ⟨h2, g2, d2, t2, os2⟩ := by
  obtain ⟨t0, hoe⟩ := exo_at hok ea
  have hn : H1 a = none := I1.hok.fresh ha
  obtain ⟨G, g1', g2'⟩ := restrict h2 fun b => decide (b ≠ a)
  have gk : ∀ b, b ≠ a → G.get? b = h2.get? b := fun b hb => g1' b (decide_eq_true hb)
  have ge : G.get? a = none := g2' a (by simp)
  have nha : ∀ {b : Addr} {o : Obj}, hp.get? b = some o → b ≠ a := fun {b o} z => Nat.ne_of_lt (Nat.lt_of_lt_of_le (Heap.lt_size z) ha)
  have up : ∀ {b : Addr}, b ≠ a → H1 b = none → upd H1 a (exo a C none) b = none := fun {b} hb n => by rw [upd_ne hb]; exact n
  have U : Un (frs X.stack) [] H1 (del H2 a) hp G := {
    keep := fun b o z n hf hx => by
      rw [gk b (nha z)]
      exact un.keep b o (k b o z) (up (nha z) n) hf hx
    slot := fun b o z n hf hx => by
      rw [gk b (nha z)]
      exact un.slot b o (k b o z) (up (nha z) n) hf hx
    free := fun b o z n hx => by
      rw [del_ne (nha z)]
      exact un.free b o (k b o z) (up (nha z) n) hx
    there := fun b o z hx => by
      rw [gk b (nha z)]
      exact un.there b o (k b o z) hx
    tups := fun b xs z => by
      rw [del_ne (ne_of_none z hn)]
      exact un.tups b xs (by rw [upd_ne (ne_of_none z hn)]; exact z)
    frzs := fun b o v z => by
      rw [del_ne (ne_of_none z hn)]
      exact un.frzs b o v (by rw [upd_ne (ne_of_none z hn)]; exact z)
    tbls := fun b ps z => by
      rw [del_ne (ne_of_none z hn)]
      exact un.tbls b ps (by rw [upd_ne (ne_of_none z hn)]; exact z) }
  have hok3 : HOk X.prog X.w (del H2 a) G := fun b o z => by
    have hba : b ≠ a := fun e => by
      rw [e, del_same] at z
      cases z
    rw [del_ne hba] at z
    have noa : ∀ {c : Addr}, H2 c = some (.own b) → c ≠ a := fun {c} hc => at_ne ea hc exo_own
    exact (hok b o z).stay (fun c v hc y => by
        have hca : c ≠ a := by
          rcases hc with hc | hc
          · rw [hc]
            exact hba
          · exact noa hc
        rw [gk c hca]
        exact y)
      (fun c hc => by rw [del_ne (noa hc)]; exact hc) (fun c xs hc => by rw [del_ne (at_ne ea hc exo_tup)]; exact hc)
  have J : Inv X pins σ (del H2 a) ⟨G, g2, d2, t2, os2⟩ := I1.call' (ch := []) ho U hok3 hb (fun b z => absurd z (by simp))
  refine ⟨a, _, _, ⟨G, g2, d2, t2, os2⟩, _, .ref C, none, rfl, J, fun b o z => ?_, ge, hoe, ⟨rfl, rfl⟩, rfl, rfl, del_same, rfl, hb, T, q⟩
  by_cases hba : b = a
  · have z' : G.get? b = some o := z
    rw [hba, ge] at z'
    cases z'
  · exact (gk b hba).symm.trans z
/-- the promise of an __init__ that makes no field -/
def spEi (C : Addr) : Sp := fun vs H Q _ => ∃ a, vs = [.ref a] ∧ H a = some (exo a C none) ∧ Q .non H
/-- C(), C's __init__ making no field -/
theorem pmk_exN {x : Str} {C fI : Addr} {k : Nat} {fd : FuncData} {ps : List Str} (Fb : ExcBaseFacts B newId initId bmB) (T : ExC X.K C newId bmB) (iC : PySem.W.findIn X.K (.ref C) "__init__" = some (some (.ref fI))) (tI : PySem.W.typeIn X.K (.ref fI) = some (.type "function"))
    (F1 : FnOk X.prog X.w X.K X.mg X.base CX0 k fI fd ps (spEi C)) (hr : Room (k + 1) X.A) (hb : Binds X.K fd ps []) (hg : Gl X x) (hm : X.mg x = some (.ref C))
    (hdb : (x == ("__debug__" : Str)) = false := by decide) :
    PMk X (.Call (.Name x p) [] [] pos) (fun _ H Q => Q (.ref C) none H) := by
  intro pins s σ H Q I h
  obtain ⟨nm, q, N, bs, sn, sub, ab, col, dd, k0, k1, k2, k3, k5, hC⟩ := T.cls
  refine wpAny_Call_Name_kw (ld_glob I hg hm ?_ hdb)
  refine PySem.W.callWith_K0 I.kIn T.kC ?_
  show wpAny _ _ (call (.ref C) []) _ _ _
  obtain ⟨hp, g, dr, tk, os⟩ := s
  have hsz : hp.objs.size ≤ hp.objs.size + 1 := Nat.le_succ _
  have hn : H (hp.objs.size + 1) = none := I.hok.fresh hsz
  have kk : ∀ b o, hp.get? b = some o → ((hp.push (PySem.W.kdv_tup [])).push (PySem.HandSPX.excO C hp.objs.size)).get? b = some o := fun b o e => Heap.get?_push_of_some _ (Heap.get?_push_of_some _ e)
  have hget : ((hp.push (PySem.W.kdv_tup [])).push (PySem.HandSPX.excO C hp.objs.size)).get? (hp.objs.size + 1) = some (PySem.HandSPX.excO C hp.objs.size) := by heap_get
  have I2 : Inv X pins σ (upd H (hp.objs.size + 1) (exo (hp.objs.size + 1) C none)) ⟨(hp.push (PySem.W.kdv_tup [])).push (PySem.HandSPX.excO C hp.objs.size), g, dr, tk, os⟩ :=
    I.laid (t' := tk) (a := hp.objs.size + 1) (o := exo (hp.objs.size + 1) C none) (h' := (hp.push (PySem.W.kdv_tup [])).push (PySem.HandSPX.excO C hp.objs.size)) kk hsz (exo_ok hget)
  have r2 : Vals [V.ref (hp.objs.size + 1)] [Value.ref (hp.objs.size + 1)] := .cons rfl .nil
  have hq : spEi C [V.ref (hp.objs.size + 1)] (upd H (hp.objs.size + 1) (exo (hp.objs.size + 1) C none)) (fun v H2 => v = .non ∧ H2 = upd H (hp.objs.size + 1) (exo (hp.objs.size + 1) C none)) (fun _ _ _ => False) :=
    ⟨_, rfl, upd_same, rfl, rfl⟩
  have hl : ([Value.ref (hp.objs.size + 1)] ++ []).length = ps.length := by
    have e := r2.length
    rw [F1.len _ _ _ _ hq] at e
    exact e.symm
  refine wpAny_call (PySem.HandSPX.call_own Fb (fun Y => rfl) (I.kIn _ _ hC) (PySem.W.looks_findIn I.kIn iC) (fun self => PySem.W.bind_fn I.kIn self tI) (Nat.zero_le _)
    (codeAny_mono (F1.run _ X.stack _ _ ⟨[Value.ref (hp.objs.size + 1)], []⟩ [Value.ref (hp.objs.size + 1)] _ _ (fun _ _ _ => False) (hr.make C [] []) (I2.env0.make C [] []) (hb _ [Value.ref (hp.objs.size + 1)] I2.kIn hl) r2 hq) fun r s' hq' => ?_))
  cases r with
  | error er => exact False.elim hq'
  | ok fl =>
    cases fl with
    | ret u =>
      obtain ⟨v, H2, os2, bare2, un2, hok2, rv, ev, eH⟩ := hq'
      subst ev
      subst eH
      obtain ⟨h2, g2, d2, t2, os'⟩ := s'
      refine ⟨rv, mk_endN (raises_own T.exC T.tyC) I hsz kk un2 hok2 os2 bare2 upd_same ?_⟩
      have eD : del (upd H (hp.objs.size + 1) (exo (hp.objs.size + 1) C none)) (hp.objs.size + 1) = H := by
        funext b
        by_cases hb : b = hp.objs.size + 1
        · rw [hb, del_same]
          exact hn.symm
        · rw [del_ne hb, upd_ne hb]
      rw [eD]
      exact h
    | next => exact False.elim hq'
    | brk => exact False.elim hq'
    | cont => exact False.elim hq'
end
/-! ### an own error over ValueError with one field -/
/-- the promise of an __init__ that makes the field f -/
def spE1 (C : Addr) (f : Str) : Sp := fun vs H Q _ => ∃ a v, vs = [.ref a, v] ∧ H a = some (exo a C none) ∧ ∀ dx, H dx = none → dx ≠ a → Q .non (upd (upd H dx (exd dx [(f, v)])) a (exo a C (some dx)))
/-- the same of two fields -/
def spE2 (C : Addr) (f g : Str) : Sp := fun vs H Q _ => ∃ a v u, vs = [.ref a, v, u] ∧ H a = some (exo a C none) ∧ ∀ dx, H dx = none → dx ≠ a → Q .non (upd (upd H dx (exd dx [(g, u), (f, v)])) a (exo a C (some dx)))
theorem heap_out {H : Hp} {a dx C : Addr} {fs : List (Str × V)} (ha : H a = none) (hd : dx ≠ a) : upd (del (upd (upd (upd H a (exo a C none)) dx (exd dx fs)) a (exo a C (some dx))) a) dx (.xd fs) = upd H dx (.xd fs) := by
  funext b
  by_cases h1 : b = dx
  · rw [h1, upd_same, upd_same]
  · rw [upd_ne h1, upd_ne h1]
    by_cases h2 : b = a
    · rw [h2, del_same, ha]
    · rw [del_ne h2, upd_ne h2, upd_ne h1, upd_ne h2]
theorem mk1 {C : Addr} {f : Str} {H : Hp} {v : V} {Q : XK} (h : ∀ dx, H dx = none → Q (.ref C) (some dx) (upd H dx (.xd [(f, v)]))) :
    [v].length ≤ 1000 ∧ ∀ a, H a = none → spE1 C f (.ref a :: ([v] ++ [])) (upd H a (exo a C none)) (fun v H2 => v = .non ∧ ∃ (d : Addr) (fs : List (Str × V)), H2 a = some (exo a C (some d)) ∧ H2 d = some (exd d fs) ∧ H d = none ∧ Q (.ref C) (some d) (upd (del H2 a) d (.xd fs))) (fun _ _ _ => False) := by
  refine ⟨by show 1 ≤ 1000; decide, fun a ha => ⟨a, v, rfl, upd_same, fun dx hdx hne => ?_⟩⟩
  have h0 : H dx = none := by rw [upd_ne hne] at hdx; exact hdx
  refine ⟨rfl, dx, [(f, v)], upd_same, by rw [upd_ne hne, upd_same], h0, ?_⟩
  rw [heap_out ha hne]
  exact h dx h0
theorem mk2 {C : Addr} {f g : Str} {H : Hp} {v u : V} {Q : XK} (h : ∀ dx, H dx = none → Q (.ref C) (some dx) (upd H dx (.xd [(g, u), (f, v)]))) :
    [v, u].length ≤ 1000 ∧ ∀ a, H a = none → spE2 C f g (.ref a :: ([v, u] ++ [])) (upd H a (exo a C none)) (fun v H2 => v = .non ∧ ∃ (d : Addr) (fs : List (Str × V)), H2 a = some (exo a C (some d)) ∧ H2 d = some (exd d fs) ∧ H d = none ∧ Q (.ref C) (some d) (upd (del H2 a) d (.xd fs))) (fun _ _ _ => False) := by
  refine ⟨by show 2 ≤ 1000; decide, fun a ha => ⟨a, v, u, rfl, upd_same, fun dx hdx hne => ?_⟩⟩
  have h0 : H dx = none := by rw [upd_ne hne] at hdx; exact hdx
  refine ⟨rfl, dx, [(g, u), (f, v)], upd_same, by rw [upd_ne hne, upd_same], h0, ?_⟩
  rw [heap_out ha hne]
  exact h dx h0
end EXB

set_option Elab.async false
set_option linter.all false
set_option maxRecDepth 100000
set_option maxHeartbeats 4000000
namespace BX
open PySem PySem.Spec PyProof.Rows L2
section
variable {X : Cx} {CX : CXT} {k : Nat} {f : Addr} {fd : FuncData} {ps ks : List Str} {sp : Sp} {E : L2.St → XK} {x : Str} {p pos : Pos} {e : Expr} {es : List Expr} {kws : List Keyword} {t tk : TA} {ds : List Value} {dvs : List V}
/-- a call with any arguments, what it raises being wished for at the caller's slots -/
theorem run_any {pins : List (Addr × Obj)} {σ : L2.St} {H : Hp} {s : Shared} {Q : VK} {us bs : List Value} {kw : List (Str × Value)} {vs : List V} (F : FnOkG X.prog X.w X.K X.mg X.base CX k f fd ps sp) (hr : Room k X.A) (hgd : X.A.guards = some []) (hx : PassesAt CX X σ (E σ))
    (I : Inv X pins σ H s) (hb : BindsTo s fd ⟨us, kw⟩ (ps.zip bs)) (r : Vals vs bs) (h : sp vs H Q (E σ)) : wpAny (model X.prog X.w) X.A (call (.ref f) us kw) (EP X pins σ Q) X.xe s := by
  refine wpAny_call (codeAny_mono (F.run X.A X.stack s H ⟨us, kw⟩ bs vs Q (E σ) hr hgd I.env0 hb r h) fun r s' hq => ?_)
  cases r with
  | error e => exact hx pins H s e s' I hq
  | ok fl =>
    cases fl with
    | ret u => exact I.after hq
    | next => exact False.elim hq
    | brk => exact False.elim hq
    | cont => exact False.elim hq
def tCallD (sp : Sp) (dvs : List V) (E : L2.St → XK) (t : TA) : TE := fun σ H Q => t σ H fun vs H1 => sp (vs ++ dvs) H1 Q (E σ)
/-- f(e, ..), the defaults behind them -/
theorem pe_callD (F : FnOkG X.prog X.w X.K X.mg X.base CX k f fd ps sp) (hr : Room k X.A) (hgd : X.A.guards = some []) (hg : Gl X x) (hm : X.mg x = some (.ref f)) (hk : PySem.W.keepIn X.K (.ref f) = true) (hb : Binds X.K fd ps ds) (hd : Vals dvs ds) (hx : ∀ σ, PassesAt CX X σ (E σ))
    (ha : PA X (e :: es) t) (hdb : (x == ("__debug__" : Str)) = false := by decide) (he : starEach (e :: es) X.env = (false, eval e X.env) :: starEach es X.env := by rfl) (hpl : (backTo pos (starEach es X.env)).any (·.1) = false := by rfl) :
    PE X (.Call (.Name x p) (e :: es) [] pos) (tCallD sp dvs E t) := by
  refine ⟨fun pins s σ H Q I h => ?_⟩
  refine wpAny_Call_Name_kw (ld_glob I hg hm ?_ hdb)
  refine PySem.W.callWith_K (h₀ := X.base) I.ok.mod.kin hk (thn (ha.run pos pins s σ H _ I h) fun us s1 ⟨vs, H1, I1, r, q⟩ => ⟨I1.kIn, ?_⟩) he hpl
  have r2 : Vals (vs ++ dvs) (us ++ ds) := r.append hd
  exact run_any F hr hgd (hx σ) I1 (hb s1 us I1.kIn (by rw [← r2.length]; exact F.len _ _ _ _ q)) r2 q
def tCallW (sp : Sp) (E : L2.St → XK) (tk : TA) : TE := fun σ H Q => tk σ H fun zs H1 => sp zs H1 Q (E σ)
/-- f(k = v, ..), all parameters by their names, in their order -/
theorem pe_callW (F : FnOkG X.prog X.w X.K X.mg X.base CX k f fd ps sp) (hr : Room k X.A) (hgd : X.A.guards = some []) (hg : Gl X x) (hm : X.mg x = some (.ref f)) (hk : PySem.W.keepIn X.K (.ref f) = true)
    (hb : ∀ (s : Shared) (ws : List Value), X.K.In s.heap → ws.length = ps.length → BindsTo s fd ⟨[], ps.zip ws⟩ (ps.zip ws)) (hx : ∀ σ, PassesAt CX X σ (E σ))
    (hkw : PK X kws tk) (hall : (backToKw pos (keywordEach kws X.env)).all (·.1.isSome) = true := by rfl) (hks : (backToKw pos (keywordEach kws X.env)).filterMap (·.1) = ps := by rfl)
    (hdb : (x == ("__debug__" : Str)) = false := by decide) (hpl : ((backTo pos (starEach [] X.env)).any (·.1) || (backToKw pos (keywordEach kws X.env)).any (·.1.isNone)) = false := by rfl) :
    PE X (.Call (.Name x p) [] kws pos) (tCallW sp E tk) := by
  refine ⟨fun pins s σ H Q I h => ?_⟩
  refine wpAny_Call_Name_kw (ld_glob I hg hm ?_ hdb)
  refine PySem.W.callWith_KW0 (h₀ := X.base) I.ok.mod.kin hk hall (thn (hkw.run pos pins s σ H _ I h) fun ws s2 ⟨zs, H2, I2, rz, q2⟩ => ⟨I2.kIn, ?_⟩) hpl
  rw [hks]
  exact run_any F hr hgd (hx σ) I2 (hb s2 ws I2.kIn (by rw [← rz.length]; exact F.len _ _ _ _ q2)) rz q2
end
end BX

set_option Elab.async false
set_option linter.all false
set_option maxRecDepth 100000
set_option maxHeartbeats 4000000
namespace BX
open PySem PySem.Spec PyProof.Rows L2
/-- the law's call, of a promise that holds where nothing is being shown -/
theorem law_callG {P : Program} {w : World} {K : PySem.W.Frag} {mg mb : Str → Option Value} {CX : CXT} {k : Nat} {fa a : Addr} {fd : FuncData} {x : Str} {sp : Sp} {s₁ : Shared} {vs : List Value} {ns : List Int}
    (KX : K.In s₁.heap) (hns : s₁.heap.Ns mainGlobals mg) (hb : s₁.heap.Ns builtinsNs mb) (hbb : ∀ x : Str, x ≠ "__name__" → mb x = bootBuiltins x) (hlim : s₁.heap.NoLimit) (hg : s₁.gens = #[])
    (ha : s₁.heap.get? a = some { cls := .type "list", data := .seq vs.toArray }) (hi : IntsAre vs ns) (hl : ns.length ≤ sizeLine) (hr : Room k callerA)
    (F : ∀ base : Heap, K.In base → base.Ns mainGlobals mg → FnOkG P w K mg base CX k fa fd [x] sp) (hbind : ∀ (s : Shared) (u : Value), BindsTo s fd ⟨[u], []⟩ [(x, u)])
    (hsp : ∀ H : Hp, Only H → SqL K H a (ns.map V.int) → sp [.ref a] H (fun v _ => v = .bl true) fun _ _ _ => False)
    (hCX : ∀ H e s', CX [] H s₁ (fun _ _ _ => False) e s' → False) :
    codeAny (model P w) callerA (.call (.ref fa) ⟨[.ref a], []⟩) (fun r s' => r = .ok (.ret (.bool true)) ∧ OldK s₁.heap s'.heap ∧ s'.os = s₁.os ∧ AllBare s'.gens) s₁ := by
  have rv := vals_ints hi
  have lenV := hi.length
  have core : ∀ H : Hp, Only H → SqL K H a (ns.map V.int) → HOk P w H s₁.heap → (∀ b, H b ≠ none → b = a) → (H a ≠ none → K.lookup a = none) →
      codeAny (model P w) callerA (.call (.ref fa) ⟨[.ref a], []⟩) (fun r s' => r = .ok (.ret (.bool true)) ∧ OldK s₁.heap s'.heap ∧ s'.os = s₁.os ∧ AllBare s'.gens) s₁ := by
    intro H hO hS hok hA hK
    have noA : ∀ {b : Addr} {o : Obj} {es : Array DictEntry} {ep : Nat}, s₁.heap.get? b = some o → o.data = .dict es ep → H b = none := fun {b o es ep} e dd => by
      cases q : H b with
      | none => rfl
      | some u =>
        have e' : b = a := hA b (by rw [q]; simp)
        rw [e', ha] at e
        cases e
        cases dd
    have nsK : ∀ {b : Addr} {m : Str → Option Value}, s₁.heap.Ns b m → (hidT s₁.heap H).Ns b m := fun {b m} ⟨o, es, ep, e, dd, r⟩ => ⟨o, es, ep, hidT_get e (noA e dd), dd, r⟩
    have hKb : K.In (hidT s₁.heap H) := fun b o e => hidT_get (KX b o e) (by
      cases q : H b with
      | none => rfl
      | some u =>
        have e' : b = a := hA b (by rw [q]; simp)
        rw [e'] at e q
        rw [hK (by rw [q]; simp)] at e
        cases e)
    have hM : Mod K mg (hidT s₁.heap H) := ⟨hKb, nsK hns, ⟨mb, nsK hb, hbb⟩, let ⟨mc, h1, h2⟩ := hlim; ⟨mc, nsK h1, h2⟩⟩
    have e0 : Env0 P w K mg (hidT s₁.heap H) callerA [] s₁ H := ⟨rfl, hM, fun b o e => of_hidT e, Nat.le_of_eq (hidT_size _ _), trivial, fun b hb => absurd (show b ∈ ([] : List Addr) from hb) (by simp), hok, .of_eq hg⟩
    refine codeAny_mono ((F _ hKb (nsK hns)).run callerA [] s₁ H ⟨[.ref a], []⟩ [.ref a] [.ref a] _ _ hr rfl e0 (hbind s₁ (.ref a)) (.cons rfl .nil) (hsp H hO hS)) fun r s' h => ?_
    cases r with
    | error e => exact (hCX H e s' h).elim
    | ok fl =>
      cases fl with
      | next => exact False.elim h
      | brk => exact False.elim h
      | cont => exact False.elim h
      | ret u =>
        obtain ⟨v, H', os, bare, un, hok', r', q⟩ := h
        have q' : v = .bl true := q
        subst q'
        obtain rfl : u = Value.bool true := r'
        refine ⟨rfl, OldK.of_keep fun b o e => ?_, os, bare⟩
        cases q : H b with
        | none => exact un.keep b o e q (by intro z; exact absurd (show b ∈ ([] : List Addr) from z) (by simp)) (by simp)
        | some u =>
          rcases hO b with z | ⟨ob, xs, z⟩
          · rw [q] at z; cases z
          · obtain ⟨e1, _⟩ := hok b _ z
            obtain ⟨e2, _⟩ := hok' b _ (un.frzs b ob _ z)
            rw [e] at e1; cases e1
            exact e2
  cases hk : K.lookup a with
  | some o =>
    have e := KX a o hk
    rw [ha] at e
    cases e
    refine core (fun _ => none) (fun _ => .inl rfl) (.inr ⟨_, vs.toArray, _, hk, rfl, rfl, rfl, by rw [List.size_toArray, lenV]; exact hl, by simpa using rv⟩) (fun b u z => by have z' : (none : Option HO) = some u := z; cases z') (fun b z => absurd rfl z) fun z => absurd rfl z
  | none =>
    refine core (fun b => if b = a then some (.frz { cls := .type "list", data := .seq vs.toArray } (.lst (ns.map V.int))) else none) (fun b => ?_) (.inl (.inr ⟨{ cls := .type "list", data := .seq vs.toArray }, if_pos rfl⟩)) (fun b u z => ?_) (fun b z => ?_) fun _ => hk
    · by_cases hb : b = a
      · exact .inr ⟨_, _, if_pos hb⟩
      · exact .inl (if_neg hb)
    · by_cases hb : b = a
      · have z' := (if_pos hb).symm.trans z
        cases z'
        subst hb
        exact ⟨ha, by rw [List.length_map]; exact hl, vs, _, rv, ha⟩
      · have z' := (if_neg hb).symm.trans z
        cases z'
    · by_cases hb : b = a
      · exact hb
      · exact absurd (if_neg hb) z
theorem walk_ofG {l : PySem.W.OpenLaw} {n k : Nat} {q : Program} {loose : List Str} {XP : (Str → Option Value) → Heap → Prop} {YP : World → Heap → Prop} {d : DefRec} {K : Params → PySem.W.Frag} {CX : World → CXT} {sp : World → Sp} {x : Str}
    (hn : l.most = some n) (hn2 : n ≤ sizeLine) (hdf : d.params.defaults = []) (hr : Room k callerA) (hY : ∀ (w : World) (h : Heap), YP w h → (K w.params).In h)
    (F : ∀ (w : World) (mg : Str → Option Value) (fa : Addr) (h : Heap), (K w.params).In h → h.Ns mainGlobals mg → mg d.name = some (.ref fa) →
      ∃ fd : FuncData, (∀ (s : Shared) (u : Value), BindsTo s fd ⟨[u], []⟩ [(x, u)]) ∧
        ∀ base : Heap, (K w.params).In base → base.Ns mainGlobals mg → FnOkG l.prog w (K w.params) mg base (CX w) k fa fd [x] (sp w))
    (hsp : ∀ (w : World) (H : Hp) (a : Addr) (ns : List Int), ns.length ≤ n → Only H → SqL (K w.params) H a (ns.map V.int) → sp w [.ref a] H (fun v _ => v = .bl true) fun _ _ _ => False)
    (hCX : ∀ (w : World) (H : Hp) (s : Shared) (e : Value) (s' : Shared), CX w [] H s (fun _ _ _ => False) e s' → False) :
    PySem.W.WalkO q loose XP YP l.row.toRowW d [] (fun f vs => PySem.call f vs) := by
  refine Att.attach_call hn hdf fun w s₀ s₁ mg mb fa o pm cd doc a vs ns G Y ho hd hcd hmg hobj hints hlen hg => ?_
  have KX := hY w _ Y
  obtain ⟨fd, hb, hF⟩ := F w mg fa _ KX G.T.g hmg
  exact law_callG KX G.T.g G.T.b G.T.builtins G.T.nolimit hg hobj hints (Nat.le_trans hlen hn2) hr hF hb (fun H hO hS => hsp w H a ns hlen hO hS) fun H e s' => hCX w H s₁ e s'
end BX

set_option Elab.async false
set_option linter.all false
set_option maxRecDepth 100000
set_option maxHeartbeats 4000000
namespace EXB
open PySem PySem.Spec PyProof.Rows L2
/-- an own error class over B whose fields are stored as an object's -/
structure ExS (K : PySem.W.Frag) (C : Addr) (newId : String) (bmB : List Value) : Prop where
  c : ExC K C newId bmB
  sa : PySem.W.findIn K (.ref C) "__setattr__" = some (some (.builtin "object.__setattr__"))
section
open Builtin Builtin.ObjectAttr
variable {prog : Program} {w : World} {A : Around} {hp : Heap} {g : Array GenState} {d : Drawn} {t : Nat} {os : OsState} {R : Result → Shared → Prop}
/-- the first field of an own error over any base whose types let it by -/
theorem osaG {K : W.Frag} {nmf : Str} {tk : Tok} {v : Value} {x C : Addr} {fv : Array Value} {cd : ClassData} {bmB : List Value} {B : String} (SB : StoreFacts B bmB "object.__setattr__" "object") (hobj : bmB.contains (.type "object") = true)
    (X : K.In hp) (hx : hp.get? x = some { cls := .ref C, data := .fields fv }) (hcd : W.clsIn K C = some cd) (hm : cd.mro = .ref C :: bmB) (hh : cd.hasDict = true) (ha : W.findIn K (.ref C) nmf = some none)
    (hq : ∀ h2 tk2 dx, (∀ b o, b ≠ x → hp.get? b = some o → h2.get? b = some o) → hp.objs.size ≤ dx → dx ≠ x → h2.get? x = some { cls := .ref C, dict := some dx, data := .fields fv } → h2.Ns1 dx (fun y => if y = nmf then some v else none) → R (.ok (.ret .none)) ⟨h2, g, d, tk2, os⟩) :
    codeAny (model prog w) A (.call (.builtin "object.__setattr__") ⟨[.ref x, .str nmf tk, v], []⟩) R ⟨hp, g, d, t, os⟩ := by
  have J : W.InstAt hp x { cls := .ref C, data := .fields fv } C none := ⟨hx, rfl, rfl, trivial⟩
  have SF := PySem.F.store_object
  have hne : cd.mro.isEmpty = false := by rw [hm]; rfl
  have hob : cd.mro.contains (.type "object") = true := by
    rw [hm, List.contains_cons, hobj, Bool.or_true]
  have hxs : x ≠ hp.objs.size := Nat.ne_of_lt (Heap.lt_size hx)
  have isO : W.Looks (model prog w) hp (isInstance (.ref x) (.type "object")) true := J.type.andThen (W.looks_mroIn X (by unfold W.mroIn; rw [hcd, Option.bind_some, if_neg (by rw [hne]; decide), hob]))
  refine codeAny_call_builtin SF.slot.plain SF.entry (@W.check_slot (model prog w) _ _ ⟨hp, g, d, t, os⟩ "object.__setattr__" "object" "__setattr__" (.ref x) [.str nmf tk, v] [] _ SF.kind SF.split isO (SF.args (.ref x) (.str nmf tk) v) ?_)
  have lm : W.Looks (model prog w) hp (mroOf (.ref C)) cd.mro := (W.looks_clsIn X hcd).andThen .now
  have l3 : W.Looks (model prog w) hp (storeTaker? none) none := .now
  have lc : W.Looks (model prog w) hp (classData C) cd := W.looks_clsIn X hcd
  rw [W.osa_eq, refuse_eq]
  refine wpAny_bind (wpAny_bind (J.type.at (wpAny_bind (lm.at ?_))))
  rw [hm, refuseLoop_ref, SB.passes (.ref x)]
  refine wpAny_pure (wpAny_bind (J.type.at (wpAny_bind ((W.looks_findIn X ha).at (wpAny_bind (l3.at ?_))))))
  show wpAny _ _ (storeInOwnDict (.ref x) (.ref C) (.str nmf tk) nmf v false) _ _ _
  clear hm hob hne lm
  obtain ⟨nm, bs, mro, ns, qn, hd, sn, sb, ab, col, del⟩ := cd
  dsimp only at hh
  subst hh
  unfold storeInOwnDict ownDictForStores
  repeat (first | with_reducible refine PySem.HandSPX.store_in_new ?_ ?_ | with_reducible refine wpAny_loadPart_at hx ?_ | with_reducible refine lc.at ?_ | wp_step)
  · exact ⟨_, #[], _, (Heap.get?_update_ne _ _ _ _ hxs.symm).trans (Heap.get?_push_at rfl rfl), rfl, fun en hen => absurd hen (by simp), fun _ => rfl⟩
  · intro h2 tk2 hn2 hs
    have hx1 : (hp.push { cls := .type "dict", data := .dict #[] }).get? x = some { cls := .ref C, data := .fields fv } := Heap.get?_push_of_some _ hx
    refine hq h2 tk2 hp.objs.size (fun b o hb hbo => ?_) (Nat.le_refl _) hxs.symm ?_ hn2
    · exact (hs.2 b (Nat.ne_of_lt (Heap.lt_size hbo))).trans ((Heap.get?_update_ne _ _ _ _ hb).trans (Heap.get?_push_of_some _ hbo))
    · exact (hs.2 x hxs).trans (Heap.get?_update_self _ hx1 rfl)
end
section
variable {X : Cx} {pins : List (Addr × Obj)} {σ : L2.St} {H : Hp} {s : Shared} {a C dx : Addr} {f : Str} {y : V} {u : Value} {Q : Unit → Shared → Prop} {E : Value → Shared → Prop} {A : Around} {B newId initId : String} {bmB : List Value}
theorem ostG (SB : StoreFacts B bmB "object.__setattr__" "object") (hobj : bmB.contains (.type "object") = true) (T : ExS X.K C newId bmB) (I : Inv X pins σ H s) (e : H a = some (exo a C none)) (hno : PySem.W.findIn X.K (.ref C) f = some none) (ry : RelV y u)
    (h : ∀ dx s', H dx = none → dx ≠ a → Inv X pins σ (upd (upd H dx (exd dx [(f, y)])) a (exo a C (some dx))) s' → Q () s') : wpAny (model X.prog X.w) A (setAttr (.ref a) f u) Q E s := by
  obtain ⟨nm, q, N, bs, sn, sub, ab, col, dd, k0, k1, k2, k3, k5, hC⟩ := T.c.cls
  have hcl : PySem.W.clsIn X.K C = some { name := nm, bases := bs, mro := .ref C :: bmB, ns := N, qualname := q, hasDict := true, slotNames := sn, subclasses := sub, abstract := ab, collection := col, hasDel := false } := by
    unfold PySem.W.clsIn
    rw [hC] <;> rfl
  obtain ⟨t1, ho⟩ := exo_at I.hok e
  obtain ⟨hp, g, dr, t, os⟩ := s
  refine PySem.W.set_plain I.kIn (ox := { cls := .ref C, dict := none, data := .fields #[.ref t1, .none, .none, .none, .bool false, .none] }) (od := none) ⟨ho, rfl, rfl, trivial⟩ T.sa ?_
  refine osaG SB hobj I.kIn ho hcl rfl rfl hno (fun h2 tk2 dx kp dn dne hx hn => ?_)
  have hd0 : H dx = none := I.hok.fresh dn
  have ndx : ∀ {b : Addr} {o : Obj}, hp.get? b = some o → b ≠ dx := fun {b o} z => Nat.ne_of_lt (Nat.lt_of_lt_of_le (Heap.lt_size z) dn)
  have nea : ∀ {b : Addr}, H b = none → b ≠ a := fun {b} n z => by
    rw [z, e] at n
    cases n
  have U : Un X.fs [] H (upd (upd H dx (exd dx [(f, y)])) a (exo a C (some dx))) hp h2 := {
    keep := fun b o z n _ _ => kp b o (nea n) z
    slot := fun b o z n _ _ => ⟨o.slots, kp b o (nea n) z⟩
    free := fun b o z n _ => by rw [upd_ne (nea n), upd_ne (ndx z)]; exact n
    there := fun b o z _ => by
      by_cases hb : b = a
      · exact ⟨_, by rw [hb]; exact hx⟩
      · exact ⟨o, kp b o hb z⟩
    tups := fun b xs z => by rw [upd_ne (at_ne e z exo_tup), upd_ne (ne_of_none z hd0)]; exact z
    frzs := fun b o v z => by rw [upd_ne (at_ne e z exo_frz), upd_ne (ne_of_none z hd0)]; exact z
    tbls := fun b ps z => ⟨#[], by rw [upd_ne (at_ne e z exo_tbl), upd_ne (ne_of_none z hd0), z]; simp⟩ }
  refine h dx _ hd0 dne (I.un (t' := tk2) U fun b o z => ?_)
  by_cases hb : b = a
  · subst hb
    rw [upd_same] at z
    cases z
    exact exo_ok hx
  · rw [upd_ne hb] at z
    by_cases hd : b = dx
    · subst hd
      rw [upd_same] at z
      cases z
      exact exd_ok hn (relO_put (fs := []) ry fun _ => True.intro)
    · rw [upd_ne hd] at z
      refine (I.hok b o z).stay (fun c v hc zz => kp c v ?_ zz) (fun c hc => ?_) (fun c xs hc => ?_)
      · rcases hc with hc | hc
        · rw [hc]
          exact hb
        · exact at_ne e hc exo_own
      · rw [upd_ne (at_ne e hc exo_own), upd_ne (ne_of_none hc hd0)]
        exact hc
      · rw [upd_ne (at_ne e hc exo_tup), upd_ne (ne_of_none hc hd0)]
        exact hc
end
def tOsG (K : PySem.W.Frag) (newId : String) (bmB : List Value) (f : Str) (to te : TE) : TS := fun D σ H => te σ H fun y H1 => to σ H1 fun x H2 => ∃ a C : Addr, x = .ref a ∧ ExS K C newId bmB ∧ PySem.W.findIn K (.ref C) f = some none ∧ H2 a = some (exo a C none) ∧
  ∀ dx, H2 dx = none → dx ≠ a → D.nx σ (upd (upd H2 dx (exd dx [(f, y)])) a (exo a C (some dx)))
section
variable {X : Cx} {o e : Expr} {es : List Expr} {to te : TE} {ta : TA} {f : Str} {p p' p1 p2 pos : Pos} {B newId initId : String} {bmB : List Value}
theorem ps_osG (SB : StoreFacts B bmB "object.__setattr__" "object") (hobj : bmB.contains (.type "object") = true) (ho : PE X o to) (he : PE X e te) (hs : swapsWith e (some (.Attribute o f p')) pos.line X.env = pure false := by rfl) : PS X (.Assign [.Attribute o f p'] e pos) (tOsG X.K newId bmB f to te) := by
  refine ⟨fun pins s σ H D I h => ?_⟩
  refine plainObj_wpAny_Assign_Attribute (thn (he.run pins s σ H _ I h) fun v s1 ⟨y, H1, I1, r1, q1⟩ => thn (ho.run pins s1 σ H1 _ I1 q1) fun u s2 ⟨x, H2, I2, r2, a, C, ex, T, hno, ea, q⟩ => ?_) hs
  subst ex
  obtain rfl : u = Value.ref a := r2
  exact ostG SB hobj T I2 ea hno r1 fun dx s' n ne J => ⟨σ, _, J, q dx n ne⟩
/-- C(e, ..), its own __init__ keeping sp -/
theorem pmk_exF {CX : CXT} {x : Str} {C fI : Addr} {k : Nat} {fd : FuncData} {ps : List Str} {sp : Sp} {ds : List Value} {dvs : List V} (Fb : ExcBaseFacts B newId initId bmB) (T : ExC X.K C newId bmB) (iC : PySem.W.findIn X.K (.ref C) "__init__" = some (some (.ref fI))) (tI : PySem.W.typeIn X.K (.ref fI) = some (.type "function"))
    (F1 : FnOk X.prog X.w X.K X.mg X.base CX k fI fd ps sp) (hr : Room (k + 1) X.A) (hb : Binds X.K fd ps ds) (hd : Vals dvs ds) (hx : Passes CX X (fun _ _ _ => False)) (hg : Gl X x) (hm : X.mg x = some (.ref C)) (ha : PA X (e :: es) ta)
    (hdb : (x == ("__debug__" : Str)) = false := by decide) (he : starEach (e :: es) X.env = (false, eval e X.env) :: starEach es X.env := by rfl) (hpl : (backTo pos (starEach es X.env)).any (·.1) = false := by rfl) :
    PMk X (.Call (.Name x p) (e :: es) [] pos) (tMkO C sp dvs ta) := by
  intro pins s σ H Q I h
  obtain ⟨nm, q, N, bs, sn, sub, ab, col, dd, k0, k1, k2, k3, k5, hC⟩ := T.cls
  refine wpAny_Call_Name_kw (ld_glob I hg hm ?_ hdb)
  refine PySem.W.callWith_K (h₀ := X.base) I.ok.mod.kin T.kC (thn (ha.run pos pins s σ H _ I h) fun us s1 ⟨vs, H1, I1, r1, hz, q1⟩ => ⟨I1.kIn, ?_⟩) he hpl
  show wpAny _ _ (call (.ref C) us) _ _ _
  obtain ⟨hp, g, dr, tk, os⟩ := s1
  have hsz : hp.objs.size ≤ hp.objs.size + 1 := Nat.le_succ _
  have hq := q1 (hp.objs.size + 1) (I1.hok.fresh hsz)
  have kk : ∀ b o, hp.get? b = some o → ((hp.push (PySem.W.kdv_tup us)).push (PySem.HandSPX.excO C hp.objs.size)).get? b = some o := fun b o z => Heap.get?_push_of_some _ (Heap.get?_push_of_some _ z)
  have hget : ((hp.push (PySem.W.kdv_tup us)).push (PySem.HandSPX.excO C hp.objs.size)).get? (hp.objs.size + 1) = some (PySem.HandSPX.excO C hp.objs.size) := by heap_get
  have I2 : Inv X pins σ (upd H1 (hp.objs.size + 1) (exo (hp.objs.size + 1) C none)) ⟨(hp.push (PySem.W.kdv_tup us)).push (PySem.HandSPX.excO C hp.objs.size), g, dr, tk, os⟩ :=
    I1.laid (t' := tk) (a := hp.objs.size + 1) (o := exo (hp.objs.size + 1) C none) (h' := (hp.push (PySem.W.kdv_tup us)).push (PySem.HandSPX.excO C hp.objs.size)) kk hsz (exo_ok hget)
  have r2 : Vals (V.ref (hp.objs.size + 1) :: (vs ++ dvs)) (Value.ref (hp.objs.size + 1) :: (us ++ ds)) := .cons rfl (r1.append hd)
  have hl : (Value.ref (hp.objs.size + 1) :: us ++ ds).length = ps.length := by
    have z := r2.length
    rw [F1.len _ _ _ _ hq] at z
    exact z.symm
  have hus : us.length ≤ sizeLine := by
    rw [← Paired.length r1, sizeLine_eq]
    omega
  refine wpAny_call (PySem.HandSPX.call_own Fb (fun Y => rfl) (I1.kIn _ _ hC) (PySem.W.looks_findIn I1.kIn iC) (fun self => PySem.W.bind_fn I1.kIn self tI) hus
    (codeAny_mono (F1.run _ X.stack _ _ ⟨Value.ref (hp.objs.size + 1) :: us, []⟩ (Value.ref (hp.objs.size + 1) :: (us ++ ds)) _ _ (fun _ _ _ => False) (hr.make C us []) (I2.env0.make C us []) (hb _ (Value.ref (hp.objs.size + 1) :: us) I2.kIn hl) r2 hq) fun r s' hq' => ?_))
  cases r with
  | error er => exact hx pins σ _ _ er s' I2 hq'
  | ok fl =>
    cases fl with
    | ret u =>
      obtain ⟨v, H2, os2, bare2, un2, hok2, rv, ev, d, fs, ea, ed, hd1, q2⟩ := hq'
      subst ev
      obtain ⟨h2, g2, d2, t2, os'⟩ := s'
      exact ⟨rv, mk_end (raises_own T.exC T.tyC) I1 hsz kk un2 hok2 os2 bare2 ea ed hd1 q2⟩
    | next => exact False.elim hq'
    | brk => exact False.elim hq'
    | cont => exact False.elim hq'
theorem typ_OverflowError : typeOf (.type "OverflowError") = pure (.type "type") := by kernel_rfl
theorem pe_initOverflowError {pl : Sem Bool} (hg : Gl X "OverflowError") (hm : X.mg "OverflowError" = none) (vV : PySem.W.findCls X.K (.type "OverflowError") (.type "type") "__init__" = some (.val (.builtin "OverflowError.__init__"))) (ha : PA X (e :: es) ta)
    (hc : eval (.Call (.Attribute (.Name "OverflowError" p1) "__init__" p2) (e :: es) [] pos) X.env = (do
      let ov ← eval (.Name "OverflowError" p1) X.env
      standAt p2.atName
      let (f, first) ← holding [ov] (getMethod ov "__init__" pl)
      callWith pos f first (backTo pos (starEach (e :: es) X.env)) (backToKw pos (keywordEach [] X.env))) := by rfl)
    (he : starEach (e :: es) X.env = (false, eval e X.env) :: starEach es X.env := by rfl) (hpl : (backTo pos (starEach es X.env)).any (·.1) = false := by rfl) :
    PE X (.Call (.Attribute (.Name "OverflowError" p1) "__init__" p2) (e :: es) [] pos) (tExI X.K "OverflowError.__new__" [.type "OverflowError", .type "ArithmeticError", .type "Exception", .type "BaseException", .type "object"] ta) := by
  refine ⟨fun pins s σ H Q I h => ?_⟩
  refine PySem.W.methodCall_KW (ld_blt I hg hm PyProof.Rows.Boot.«OverflowError» ?_ (by decide) (by decide)) hc
  obtain ⟨m, fr⟩ := I.fr
  refine PySem.W.method_type fr I.ok.mod.kin typ_OverflowError (by decide +kernel) vV (by decide +kernel) ?_
  show wpAny _ _ (callWith pos (Value.builtin "OverflowError.__init__") [] (backTo pos (starEach (e :: es) X.env)) []) _ _ _
  refine PyProof.Rows.callWith_method1 (thn (ha.run pos pins _ σ H _ (I.tok _) h) fun us s1 ⟨vs, H1, I1, r1, a, C, ws, ev, hl, T, ea, q⟩ => ?_) he hpl
  subst ev
  cases r1 with
  | @cons _ u0 _ ur ra rw' =>
    obtain rfl : u0 = Value.ref a := ra
    have hlen : ur.length ≤ sizeLine := by
      rw [← Paired.length rw', sizeLine_eq]
      omega
    exact einit_ok PySem.F.excBase_OverflowError T I1 ea hlen fun s' J => ⟨.non, H1, J, rfl, q⟩
end
end EXB

set_option Elab.async false
set_option linter.all false
set_option maxRecDepth 100000
set_option maxHeartbeats 4000000
namespace Ru
open PySem PySem.Spec PyProof.Rows L2 BX EXB Co
open Fr (Bd)
/-! ### rows of fractions -/
/-- cells and what they are worth, below 2 ^ n -/
structure FrN (K : PySem.W.Frag) (H : Hp) (n : Nat) (cs : List V) (qs : List Rat) : Prop where
  len : cs.length = qs.length
  at_ : ∀ (i : Nat) (v : V), cs[i]? = some v → ∃ (a : Addr) (q : Rat), qs[i]? = some q ∧ v = .ref a ∧ SqT K H a (rp q) ∧ Bd n q
section
variable {K : PySem.W.Frag} {H H' : Hp} {n : Nat} {cs : List V} {qs : List Rat}
theorem FrN.keep (h : FrN K H n cs qs) (k : ∀ a xs, SqT K H a xs → SqT K H' a xs) : FrN K H' n cs qs :=
  ⟨h.len, fun i v e => let ⟨a, q, e1, e2, e3, e4⟩ := h.at_ i v e; ⟨a, q, e1, e2, k _ _ e3, e4⟩⟩
theorem FrN.same (h : FrN K H n cs qs) (e : Same H H') : FrN K H' n cs qs := h.keep fun _ _ => seqT e
theorem FrN.mono {m : Nat} (h : FrN K H n cs qs) (l : n ≤ m) : FrN K H m cs qs :=
  ⟨h.len, fun i v e => let ⟨a, q, e1, e2, e3, e4⟩ := h.at_ i v e; ⟨a, q, e1, e2, e3, e4.mono l⟩⟩
theorem FrN.nil : FrN K H n [] [] := ⟨rfl, fun i v e => by simp at e⟩
theorem FrN.snoc {a : Addr} {q : Rat} (h : FrN K H n cs qs) (ha : SqT K H a (rp q)) (hb : Bd n q) : FrN K H n (cs ++ [.ref a]) (qs ++ [q]) := by
  refine ⟨by rw [List.length_append, List.length_append, h.len]; rfl, fun i v e => ?_⟩
  by_cases hi : i < cs.length
  · rw [List.getElem?_append_left hi] at e
    obtain ⟨a', q', e1, e2, e3, e4⟩ := h.at_ i v e
    exact ⟨a', q', by rw [List.getElem?_append_left (by rw [← h.len]; exact hi)]; exact e1, e2, e3, e4⟩
  · rw [List.getElem?_append_right (by omega)] at e
    have e0 : i - cs.length = 0 := by
      cases z : i - cs.length with
      | zero => rfl
      | succ j => rw [z] at e; simp at e
    rw [e0] at e
    have ev : (V.ref a) = v := Option.some.inj e
    refine ⟨a, q, ?_, ev.symm, ha, hb⟩
    rw [List.getElem?_append_right (by rw [← h.len]; omega), ← h.len, e0]
    rfl
theorem FrN.set {a : Addr} {q : Rat} {j : Nat} (h : FrN K H n cs qs) (ha : SqT K H a (rp q)) (hb : Bd n q) : FrN K H n (cs.set j (.ref a)) (qs.set j q) := by
  refine ⟨by rw [List.length_set, List.length_set, h.len], fun i v e => ?_⟩
  by_cases hij : j = i
  · subst hij
    have hj : j < cs.length := by
      have := (List.getElem?_eq_some_iff.mp e).1
      rw [List.length_set] at this
      exact this
    rw [List.getElem?_set_self hj] at e
    exact ⟨a, q, List.getElem?_set_self (by rw [← h.len]; exact hj), (Option.some.inj e).symm, ha, hb⟩
  · rw [List.getElem?_set_ne hij] at e
    obtain ⟨a', q', e1, e2, e3, e4⟩ := h.at_ i v e
    exact ⟨a', q', by rw [List.getElem?_set_ne hij]; exact e1, e2, e3, e4⟩
theorem FrN.dp : ∀ {cs : List V} {qs : List Rat}, FrN K H n cs qs → DpAll K H cs (qs.map dR)
  | [], [], _ => .nil
  | [], _ :: _, h => by have := h.len; simp at this
  | _ :: _, [], h => by have := h.len; simp at this
  | v :: cs, q :: qs, h => by
    obtain ⟨a, q', e1, rfl, e3, _⟩ := h.at_ 0 v rfl
    have e : q = q' := Option.some.inj e1
    subst e
    exact .cons (dp_r e3) (FrN.dp ⟨by have := h.len; simpa using this, fun i v e => h.at_ (i + 1) v e⟩)
end
/-- all but ex stays -/
def SameB (ex : Addr) (H H' : Hp) : Prop := ∀ b o, b ≠ ex → H b = some o → H' b = some o
theorem SameB.of {ex : Addr} {H H' : Hp} (h : Same H H') : SameB ex H H' := fun b o _ e => h b o e
theorem SameB.trans {ex : Addr} {H H1 H2 : Hp} (a : SameB ex H H1) (b : SameB ex H1 H2) : SameB ex H H2 := fun c o hc h => b c o hc (a c o hc h)
theorem SameB.upd {ex : Addr} {H : Hp} {o : HO} : SameB ex H (upd H ex o) := fun b u hb e => by rw [upd_ne hb]; exact e
theorem SameB.tup {K : PySem.W.Frag} {ex : Addr} {H H' : Hp} {ys : List V} (h : SameB ex H H') (hx : H ex = some (.lst ys)) : ∀ a xs, SqT K H a xs → SqT K H' a xs := fun a xs z => by
  rcases z with (z | ⟨o, z⟩) | z
  · exact .inl (.inl (h _ _ (ne_of z hx (by intro w; cases w)) z))
  · exact .inl (.inr ⟨o, h _ _ (ne_of z hx (by intro w; cases w)) z⟩)
  · exact .inr z
/-- what stands in the rows rs is worth rss -/
def RowsAt (K : PySem.W.Frag) (H : Hp) (n : Nat) (rs : List Addr) (rss : List (List Rat)) : Prop := rs.length = rss.length ∧ ∀ (j : Nat) (r : Addr), rs[j]? = some r → ∃ cs qs, rss[j]? = some qs ∧ H r = some (.lst cs) ∧ FrN K H n cs qs
theorem RowsAt.keep {K : PySem.W.Frag} {H H' : Hp} {n : Nat} {rs : List Addr} {rss : List (List Rat)} {ex : Addr} {ys : List V} (h : RowsAt K H n rs rss) (s : SameB ex H H') (hx : H ex = some (.lst ys)) (hn : ex ∉ rs) : RowsAt K H' n rs rss := by
  refine ⟨h.1, fun j r e => ?_⟩
  obtain ⟨cs, qs, e1, e2, e3⟩ := h.2 j r e
  exact ⟨cs, qs, e1, s r _ (fun z => hn (by rw [← z]; exact List.mem_of_getElem? e)) e2, e3.keep (s.tup hx)⟩
theorem RowsAt.same {K : PySem.W.Frag} {H H' : Hp} {n : Nat} {rs : List Addr} {rss : List (List Rat)} (h : RowsAt K H n rs rss) (s : Same H H') : RowsAt K H' n rs rss := by
  refine ⟨h.1, fun j r e => ?_⟩
  obtain ⟨cs, qs, e1, e2, e3⟩ := h.2 j r e
  exact ⟨cs, qs, e1, s r _ e2, e3.same s⟩
theorem RowsAt.nil {K : PySem.W.Frag} {H : Hp} {n : Nat} : RowsAt K H n [] [] := ⟨rfl, fun j r e => by simp at e⟩
theorem RowsAt.snoc {K : PySem.W.Frag} {H : Hp} {n : Nat} {rs : List Addr} {rss : List (List Rat)} {r : Addr} {cs : List V} {qs : List Rat} (h : RowsAt K H n rs rss) (hr : H r = some (.lst cs)) (hf : FrN K H n cs qs) : RowsAt K H n (rs ++ [r]) (rss ++ [qs]) := by
  refine ⟨by rw [List.length_append, List.length_append, h.1]; rfl, fun j x e => ?_⟩
  by_cases hj : j < rs.length
  · rw [List.getElem?_append_left hj] at e
    obtain ⟨cs', qs', e1, e2, e3⟩ := h.2 j x e
    exact ⟨cs', qs', by rw [List.getElem?_append_left (by rw [← h.1]; exact hj)]; exact e1, e2, e3⟩
  · rw [List.getElem?_append_right (by omega)] at e
    have e0 : j - rs.length = 0 := by
      cases z : j - rs.length with
      | zero => rfl
      | succ i => rw [z] at e; simp at e
    rw [e0] at e
    have ev : r = x := Option.some.inj e
    subst ev
    refine ⟨cs, qs, ?_, hr, hf⟩
    rw [List.getElem?_append_right (by rw [← h.1]; omega), ← h.1, e0]
    rfl
theorem RowsAt.dp {K : PySem.W.Frag} {H : Hp} {n : Nat} : ∀ {rs : List Addr} {rss : List (List Rat)}, RowsAt K H n rs rss → DpAll K H (rs.map V.ref) (rss.map fun qs => PyData.list (qs.map dR))
  | [], [], _ => .nil
  | [], _ :: _, h => by have := h.1; simp at this
  | _ :: _, [], h => by have := h.1; simp at this
  | r :: rs, q :: rss, h => by
    obtain ⟨cs, qs, e1, e2, e3⟩ := h.2 0 r rfl
    have e : q = qs := Option.some.inj e1
    subst e
    exact .cons (.lst (SqL.of e2) e3.dp) (RowsAt.dp ⟨by have := h.1; simpa using this, fun j x e => h.2 (j + 1) x e⟩)
/-- rows as data -/
def dRows (rss : List (List Rat)) : PyData := .list (rss.map fun qs => PyData.list (qs.map dR))
theorem rows_lays : ∀ rss : List (List Rat), PyData.canLayAll0 (rss.map fun qs => PyData.list (qs.map dR)) = true
  | [] => rfl
  | q :: rss => by
    show (PyData.canLayAll0 (q.map dR) && PyData.canLayAll0 (rss.map fun qs => PyData.list (qs.map dR))) = true
    rw [rows_lays rss, lays q]
    rfl
theorem rows_deps : ∀ rss : List (List Rat), PyData.depthAll (rss.map fun qs => PyData.list (qs.map dR)) ≤ 2
  | [] => by decide
  | q :: rss => by
    have h1 := rows_deps rss
    have h2 := deps q
    show max (PyData.depthAll (q.map dR) + 1) (PyData.depthAll (rss.map fun qs => PyData.list (qs.map dR))) ≤ 2
    omega
theorem dRows_lay (rss : List (List Rat)) : (dRows rss).canLay0 = true := rows_lays rss
theorem dRows_shaped (rss : List (List Rat)) : SeqAt.shaped (dRows rss) = true := by
  unfold SeqAt.shaped
  rw [dRows_lay, Bool.true_and]
  refine decide_eq_true ?_
  have := rows_deps rss
  show PyData.depthAll (rss.map fun qs => PyData.list (qs.map dR)) + 1 ≤ 64
  omega
/-- a new list of new rows, beside what stood in H0 (but ex) -/
structure New (K : PySem.W.Frag) (H0 H : Hp) (ex D : Addr) (rs : List Addr) (rss : List (List Rat)) (n : Nat) : Prop where
  at_ : H D = some (.lst (rs.map V.ref))
  nd : rs.Nodup
  ne : D ∉ rs
  fresh : ∀ x ∈ rs, H0 x = none
  fD : H0 D = none
  nx : ex ∉ rs
  keep : SameB ex H0 H
  rows : RowsAt K H n rs rss
theorem New.start {K : PySem.W.Frag} {H : Hp} {ex D : Addr} {n : Nat} (hD : H D = none) : New K H (upd H D (.lst [])) ex D [] [] n :=
  ⟨upd_same, List.nodup_nil, by simp, fun x hx => by simp at hx, hD, by simp, SameB.of (same_new hD _), RowsAt.nil⟩
/-- a step beside the list: what is new is laid, ex may change -/
theorem New.step {K : PySem.W.Frag} {H0 H H1 : Hp} {ex D : Addr} {rs : List Addr} {rss : List (List Rat)} {n : Nat} {ys : List V} (h : New K H0 H ex D rs rss n) (s : SameB ex H H1) (hx : H ex = some (.lst ys)) (hDx : D ≠ ex) : New K H0 H1 ex D rs rss n :=
  ⟨s D _ hDx h.at_, h.nd, h.ne, h.fresh, h.fD, h.nx, h.keep.trans s, h.rows.keep s hx h.nx⟩
theorem New.stepS {K : PySem.W.Frag} {H0 H H1 : Hp} {ex D : Addr} {rs : List Addr} {rss : List (List Rat)} {n : Nat} (h : New K H0 H ex D rs rss n) (s : Same H H1) : New K H0 H1 ex D rs rss n :=
  ⟨s D _ h.at_, h.nd, h.ne, h.fresh, h.fD, h.nx, h.keep.trans (SameB.of s), h.rows.same s⟩
/-- one row more -/
theorem New.push {K : PySem.W.Frag} {H0 H H1 : Hp} {ex D l : Addr} {rs : List Addr} {rss : List (List Rat)} {n : Nat} {cs : List V} {qs : List Rat} (h0 : New K H0 H ex D rs rss n) (h : New K H0 H1 ex D rs rss n) (hl0 : H l = none) (hl : H1 l = some (.lst cs)) (hf : FrN K H1 n cs qs) (hle : l ≠ ex) :
    New K H0 (upd H1 D (.lst (rs.map V.ref ++ [V.ref l]))) ex D (rs ++ [l]) (rss ++ [qs]) n := by
  have hlD : l ≠ D := fun e => by
    rw [e, h0.at_] at hl0
    cases hl0
  have hlr : l ∉ rs := fun hm => by
    obtain ⟨j, hj, e⟩ := List.getElem_of_mem hm
    obtain ⟨cs', qs', _, e2, _⟩ := h0.rows.2 j l (by rw [List.getElem?_eq_getElem hj, e])
    rw [hl0] at e2
    cases e2
  have hl00 : H0 l = none := by
    cases e : H0 l with
    | none => rfl
    | some o =>
      rw [h0.keep l o hle e] at hl0
      cases hl0
  have sD : SameB D H1 (upd H1 D (.lst (rs.map V.ref ++ [V.ref l]))) := SameB.upd
  refine ⟨by rw [upd_same, List.map_append]; rfl, ?_, ?_, ?_, h.fD, ?_, ?_, ?_⟩
  · rw [List.nodup_append]
    refine ⟨h.nd, by simp, fun a ha b hb => ?_⟩
    have : b = l := by simpa using hb
    rw [this]
    exact fun e => hlr (by rw [← e]; exact ha)
  · intro hm
    rcases List.mem_append.mp hm with hm | hm
    · exact h.ne hm
    · have : D = l := by simpa using hm
      exact hlD this.symm
  · intro x hx
    rcases List.mem_append.mp hx with hx | hx
    · exact h.fresh x hx
    · have : x = l := by simpa using hx
      rw [this]
      exact hl00
  · intro hm
    rcases List.mem_append.mp hm with hm | hm
    · exact h.nx hm
    · have : ex = l := by simpa using hm
      exact hle this.symm
  · intro b o hb e
    rw [upd_ne (ne_of_none e h.fD)]
    exact h.keep b o hb e
  · exact (h.rows.keep sD h.at_ h.ne).snoc (by rw [upd_ne hlD]; exact hl) (hf.keep (sD.tup h.at_))
/-- list(x), by values -/
def rListOf (K : PySem.W.Frag) : List V → Hp → VK → Prop := fun xs H Q => ∃ p ys, xs = [V.ref p] ∧ (SqL K H p ys ∨ SqT K H p ys) ∧ ∀ l : Addr, H l = none → Q (V.ref l) (upd H l (.lst ys))
/-! ### rules -/
def RowOk (m : Nat) (qs : List Rat) : Prop := qs.length = m ∧ (∀ q ∈ qs, 0 ≤ q) ∧ qs.sum = 1
structure Good (rss : List (List Rat)) (m : Nat) : Prop where
  w1 : 1 ≤ rss.length
  w5 : rss.length ≤ 5
  m1 : 1 ≤ m
  m30 : m ≤ 30
  row : ∀ qs ∈ rss, RowOk m qs
/-- a list of rows that stands -/
def RwL (K : PySem.W.Frag) (H : Hp) (a : Addr) (rs : List Addr) (rss : List (List Rat)) (n : Nat) : Prop := H a = some (.lst (rs.map V.ref)) ∧ RowsAt K H n rs rss
theorem RwL.same {K : PySem.W.Frag} {H H' : Hp} {a : Addr} {rs : List Addr} {rss : List (List Rat)} {n : Nat} (h : RwL K H a rs rss n) (s : Same H H') : RwL K H' a rs rss n := ⟨s _ _ h.1, h.2.same s⟩
theorem RwL.dp {K : PySem.W.Frag} {H : Hp} {a : Addr} {rs : List Addr} {rss : List (List Rat)} {n : Nat} (h : RwL K H a rs rss n) : Dp K H (.ref a) (dRows rss) := .lst (SqL.of h.1) h.2.dp
theorem New.rwl {K : PySem.W.Frag} {H0 H : Hp} {ex D : Addr} {rs : List Addr} {rss : List (List Rat)} {n : Nat} (h : New K H0 H ex D rs rss n) : RwL K H D rs rss n := ⟨h.at_, h.rows⟩
/-- a new list of new rows -/
def Fresh (K : PySem.W.Frag) (H H' : Hp) (D : Addr) (rs : List Addr) (rss : List (List Rat)) (n : Nat) : Prop := RwL K H' D rs rss n ∧ rs.Nodup ∧ D ∉ rs ∧ H D = none ∧ (∀ x ∈ rs, H x = none) ∧ Same H H'
/-- an instance of the class at C, of these rows -/
def IsRule (K : PySem.W.Frag) (H : Hp) (C x : Addr) (rss : List (List Rat)) (n : Nat) : Prop := ∃ dx ra rs, H x = some (.ins C dx [("own_rows", .ref ra)]) ∧ RwL K H ra rs rss n
theorem IsRule.same {K : PySem.W.Frag} {H H' : Hp} {C x : Addr} {rss : List (List Rat)} {n : Nat} (h : IsRule K H C x rss n) (s : Same H H') : IsRule K H' C x rss n :=
  let ⟨dx, ra, rs, e1, e2⟩ := h; ⟨dx, ra, rs, s _ _ e1, e2.same s⟩
theorem New.toFresh {K : PySem.W.Frag} {H0 H : Hp} {D : Addr} {rs : List Addr} {rss : List (List Rat)} {n : Nat} (h : New K H0 H D D rs rss n) : Fresh K H0 H D rs rss n :=
  ⟨h.rwl, h.nd, h.ne, h.fD, h.fresh, fun b o e => h.keep b o (ne_of_none e h.fD) e⟩
/-! ### the mathematics of rules -/
theorem sum_nonneg' : ∀ {qs : List Rat}, (∀ q ∈ qs, 0 ≤ q) → 0 ≤ qs.sum
  | [], _ => by rw [List.sum_nil]; exact Rat.le_refl
  | q :: qs, h => by
    rw [List.sum_cons]
    exact Rat.add_nonneg (h q (List.mem_cons_self ..)) (sum_nonneg' fun x hx => h x (List.mem_cons_of_mem _ hx))
/-- shares of two rows side by side -/
def rowB (row second : List Rat) : List Rat := row.flatMap fun s => second.map fun o => s * o
theorem sum_map_mul (s : Rat) : ∀ l : List Rat, (l.map fun o => s * o).sum = s * l.sum
  | [] => by rw [List.map_nil, List.sum_nil, Rat.mul_zero]
  | x :: l => by rw [List.map_cons, List.sum_cons, List.sum_cons, sum_map_mul s l, Rat.mul_add]
theorem rowB_sum : ∀ (row second : List Rat), (rowB row second).sum = row.sum * second.sum
  | [], second => by show ([] : List Rat).sum = _; rw [List.sum_nil, Rat.zero_mul]
  | s :: row, second => by
    show ((second.map fun o => s * o) ++ rowB row second).sum = _
    rw [List.sum_append, sum_map_mul, rowB_sum row second, List.sum_cons, Rat.add_mul]
theorem rowB_len : ∀ (row second : List Rat), (rowB row second).length = row.length * second.length
  | [], second => by show 0 = _; rw [List.length_nil, Nat.zero_mul]
  | s :: row, second => by
    show ((second.map fun o => s * o) ++ rowB row second).length = _
    rw [List.length_append, List.length_map, rowB_len row second, List.length_cons, Nat.succ_mul, Nat.add_comm]
theorem rowB_ok {m k : Nat} {row second : List Rat} (h1 : RowOk m row) (h2 : RowOk k second) : RowOk (m * k) (rowB row second) := by
  refine ⟨by rw [rowB_len, h1.1, h2.1], fun q hq => ?_, by rw [rowB_sum, h1.2.2, h2.2.2, Rat.mul_one]⟩
  obtain ⟨s, hs, hq⟩ := List.mem_flatMap.mp hq
  obtain ⟨o, ho, rfl⟩ := List.mem_map.mp hq
  exact Rat.mul_nonneg (h1.2.1 s hs) (h2.2.1 o ho)
/-- words of one group are one -/
def grp : List Rat → List Nat → List Rat → List Rat
  | s :: row, g :: gs, told => grp row gs (told.set g (told.getD g 0 + s))
  | _, _, told => told
theorem grp_len : ∀ (row : List Rat) (gs : List Nat) (told : List Rat), (grp row gs told).length = told.length
  | [], _, _ => by rw [grp] <;> simp
  | _ :: _, [], _ => by rw [grp] <;> simp
  | s :: row, g :: gs, told => by rw [grp, grp_len row gs, List.length_set]
theorem set_sum : ∀ (l : List Rat) (g : Nat) (s : Rat), g < l.length → (l.set g (l.getD g 0 + s)).sum = l.sum + s
  | [], g, s, h => by simp at h
  | x :: l, 0, s, h => by
    show ((x + s) :: l).sum = _
    rw [List.sum_cons, List.sum_cons, Rat.add_assoc, Rat.add_assoc, Rat.add_comm s]
  | x :: l, g + 1, s, h => by
    show (x :: l.set g (l.getD g 0 + s)).sum = _
    rw [List.sum_cons, List.sum_cons, set_sum l g s (by simpa using h), Rat.add_assoc]
theorem grp_sum : ∀ (row : List Rat) (gs : List Nat) (told : List Rat), row.length = gs.length → (∀ g ∈ gs, g < told.length) → (grp row gs told).sum = told.sum + row.sum
  | [], [], told, _, _ => by show told.sum = _; rw [List.sum_nil, Rat.add_zero]
  | [], _ :: _, _, h, _ => by simp at h
  | _ :: _, [], _, h, _ => by simp at h
  | s :: row, g :: gs, told, h, hg => by
    rw [grp, grp_sum row gs _ (by simpa using h) (fun x hx => by rw [List.length_set]; exact hg x (List.mem_cons_of_mem _ hx)), set_sum told g s (hg g (List.mem_cons_self ..)), List.sum_cons, Rat.add_assoc]
theorem grp_nonneg : ∀ (row : List Rat) (gs : List Nat) (told : List Rat), (∀ q ∈ row, 0 ≤ q) → (∀ q ∈ told, 0 ≤ q) → ∀ q ∈ grp row gs told, 0 ≤ q
  | [], _, _, _, ht => by rw [grp]; exact ht; simp
  | _ :: _, [], _, _, ht => by rw [grp]; exact ht; simp
  | s :: row, g :: gs, told, hr, ht => by
    rw [grp]
    refine grp_nonneg row gs _ (fun q hq => hr q (List.mem_cons_of_mem _ hq)) fun q hq => ?_
    have hx : 0 ≤ told.getD g 0 := by
      by_cases h : g < told.length
      · rw [List.getD_eq_getElem?_getD, List.getElem?_eq_getElem h]
        exact ht _ (List.getElem_mem h)
      · rw [List.getD_eq_getElem?_getD, List.getElem?_eq_none (by omega)]
        exact Rat.le_refl
    rcases List.mem_or_eq_of_mem_set hq with hq | rfl
    · exact ht q hq
    · exact Rat.add_nonneg hx (hr s (List.mem_cons_self ..))
theorem grp_ok {m many : Nat} {row : List Rat} {gs : List Nat} (h : RowOk m row) (hl : gs.length = m) (hg : ∀ g ∈ gs, g < many) : RowOk many (grp row gs (List.replicate many 0)) := by
  have z : ∀ k : Nat, (List.replicate k (0 : Rat)).sum = 0 := fun k => by
    induction k with
    | zero => rfl
    | succ k ih => rw [List.replicate_succ, List.sum_cons, ih, Rat.add_zero]
  refine ⟨by rw [grp_len, List.length_replicate], grp_nonneg row gs _ h.2.1 fun q hq => ?_, ?_⟩
  · rw [List.eq_of_mem_replicate hq]
    exact Rat.le_refl
  · rw [grp_sum row gs _ (by rw [h.1, hl]) (fun g hgm => by rw [List.length_replicate]; exact hg g hgm), z, Rat.zero_add]
    exact h.2.2
/-- the row of the world i among w -/
def unit (w i : Nat) : List Rat := (List.range w).map fun j => if j = i then 1 else 0
theorem unit_sum : ∀ (w i : Nat), (unit w i).sum = if i < w then 1 else 0
  | 0, i => rfl
  | w + 1, i => by
    unfold unit
    rw [List.range_succ, List.map_append, List.sum_append]
    have ih := unit_sum w i
    unfold unit at ih
    rw [ih]
    show _ + ([if w = i then (1 : Rat) else 0]).sum = _
    rw [List.sum_cons, List.sum_nil, Rat.add_zero]
    by_cases h1 : i < w
    · rw [if_pos h1, if_neg (by omega), if_pos (by omega), Rat.add_zero]
    · by_cases h2 : w = i
      · rw [if_neg h1, if_pos h2, if_pos (by omega), Rat.zero_add]
      · rw [if_neg h1, if_neg h2, if_neg (by omega), Rat.zero_add]
theorem unit_ok {w i : Nat} (h : i < w) : RowOk w (unit w i) := by
  refine ⟨by unfold unit; rw [List.length_map, List.length_range], fun q hq => ?_, by rw [unit_sum, if_pos h]⟩
  obtain ⟨j, _, rfl⟩ := List.mem_map.mp hq
  split
  · decide
  · exact Rat.le_refl
end Ru

set_option Elab.async false
set_option linter.all false
set_option maxRecDepth 100000
set_option maxHeartbeats 4000000
namespace K13
open PySem PySem.Spec PyProof.Rows L2 BX EXB Co Ru
open Fr (Bd)
def topS (i : Nat) : Stmt := PySem.Challenge.pw_besttelling_k13_putting_refused.main.body.getD i (.Pass ⟨0, 0, 0, 0⟩)
abbrev sWhole : Stmt := topS 7
abbrev sWithin : Stmt := topS 8
abbrev sIsR : Stmt := topS 9
abbrev sPlus : Stmt := topS 10
abbrev sTimes : Stmt := topS 11
abbrev sTotal : Stmt := topS 12
abbrev sLowest : Stmt := topS 13
abbrev sDiv : Stmt := topS 14
abbrev sListOf : Stmt := topS 18
abbrev sShare : Stmt := topS 19
abbrev sShRow : Stmt := topS 20
abbrev sWrong : Stmt := topS 21
abbrev sCopied : Stmt := topS 22
abbrev sSilence : Stmt := topS 29
abbrev sAllTold : Stmt := topS 30
abbrev sBeside : Stmt := topS 31
abbrev sGrouped : Stmt := topS 32
abbrev sChkW : Stmt := topS 33
abbrev sChkG : Stmt := topS 34
abbrev sToldRow : Stmt := topS 35
abbrev sRowB : Stmt := topS 36
abbrev sGrpRow : Stmt := topS 37
abbrev sLeft : Stmt := topS 39
abbrev sDigit : Stmt := topS 40
abbrev sLow : Stmt := topS 41
abbrev sLPlus : Stmt := topS 42
abbrev sLTimes : Stmt := topS 44
abbrev sShares : Stmt := topS 46
abbrev sRows : Stmt := topS 50
abbrev sTold : Stmt := topS 51
abbrev sNumDue : Stmt := topS 52
abbrev sGrpDue : Stmt := topS 53
abbrev sOdd : Stmt := topS 54
abbrev sLaw : Stmt := topS 55
abbrev sNnInit : Stmt := inClass (topS 1) 0
abbrev sNgInit : Stmt := inClass (topS 3) 0
abbrev sUnInit : Stmt := inClass (topS 4) 0
abbrev sTmInit : Stmt := inClass (topS 5) 0
abbrev sRInit : Stmt := inClass (topS 27) 0
abbrev sRRows : Stmt := inClass (topS 27) 1
abbrev sRWorlds : Stmt := inClass (topS 27) 2
abbrev sRLen : Stmt := inClass (topS 27) 3
abbrev sREq : Stmt := inClass (topS 27) 4
def spWholeI : Sp := fun vs H Q _ => ∃ i : Int, vs = [.int i] ∧ Q (.bl true) H
def spWithin : Sp := fun vs H Q _ => ∃ i lo hi : Int, vs = [.int i, .int lo, .int hi] ∧ Q (.bl (decide (lo ≤ i) && decide (i ≤ hi))) H
def spIsR (K : PySem.W.Frag) : Sp := fun vs H Q _ => ∃ (a : Addr) (q : Rat), vs = [.ref a] ∧ SqT K H a (rp q) ∧ Q (.bl true) H
def spShare (K : PySem.W.Frag) : Sp := fun vs H Q _ => ∃ (a : Addr) (q : Rat), vs = [.ref a] ∧ SqT K H a (rp q) ∧ 0 ≤ q ∧ Q (.bl true) H
def spListOf (K : PySem.W.Frag) : Sp := fun vs H Q _ => ∃ (a : Addr) (xs : List V) (lo hi : Int), vs = [.ref a, .int lo, .int hi] ∧ H a = some (.lst xs) ∧ Q (.bl (decide (lo ≤ (xs.length : Int)) && decide ((xs.length : Int) ≤ hi))) H
def spTotal (K : PySem.W.Frag) : Sp := fun vs H Q _ => ∃ (l : Addr) (cs : List V) (qs : List Rat) (n : Nat), vs = [.ref l, .non] ∧ SqL K H l cs ∧ FrN K H n cs qs ∧ (n + 1) * qs.length + 1 ≤ 8700 ∧ ∀ r H', Same H H' → SqT K H' r (rp qs.sum) → Q (.ref r) H'
def spShRow (K : PySem.W.Frag) : Sp := fun vs H Q _ => ∃ (r : Addr) (cs : List V) (qs : List Rat) (n m : Nat) (lo hi : Int), vs = [.ref r, .int lo, .int hi] ∧ H r = some (.lst cs) ∧ FrN K H n cs qs ∧ RowOk m qs ∧ m ≤ 30 ∧ n ≤ 280 ∧ lo ≤ (m : Int) ∧ (m : Int) ≤ hi ∧ ∀ H', Same H H' → Q (.bl true) H'
def spWrong (K : PySem.W.Frag) (fR : Addr) : Sp := fun vs H Q _ => ∃ (a : Addr) (rs : List Addr) (rss : List (List Rat)) (n m : Nat), vs = [.ref a, .ref fR, .int 1, .int 30] ∧ RwL K H a rs rss n ∧ Good rss m ∧ n ≤ 280 ∧ ∀ H', Same H H' → Q .non H'
def spCopied (K : PySem.W.Frag) : Sp := fun vs H Q _ => ∃ (a : Addr) (rs : List Addr) (rss : List (List Rat)) (n : Nat), vs = [.ref a] ∧ RwL K H a rs rss n ∧ rss.length ≤ 100 ∧ ∀ D rs' H', Fresh K H H' D rs' rss n → Q (.ref D) H'
theorem sum_snoc' {qs : List Rat} {i : Nat} {q : Rat} (h : qs[i]? = some q) : (qs.take (i + 1)).sum = (qs.take i).sum + q := Co.sum_snoc h
section
variable {P : Program} {w : World} {K : PySem.W.Frag} {mg : Str → Option Value} {base : Heap}
theorem scDiv : FnScope ["one", "other"] ["one", "other"] (defScope sDiv) := ⟨rfl, rfl, rfl, by decide +kernel, rfl, by decide +kernel, by decide +kernel⟩
theorem ok_div {f : Addr} {fd : FuncData} {k : Nat} (F : Fun K "divisor" "divisor" sDiv f fd) (B : Blt mg) : FnOk P w K mg base CX0 (k + 1) f fd ["one", "other"] spDiv := by
  refine F.ok scDiv (fun vs H Q E h => ?_) (fun cdv A outer s H vs Q E hr h => ?_)
  · obtain ⟨a, b, rfl, _⟩ := h
    rfl
  · obtain ⟨a, b, rfl, q⟩ := h
    refine ⟨_, pss_cons (ps_while PassesOwn.never (pt_cmpR op_ne (pv 1) pe_int (nomark _))
        (pss_one (ps_par (i := 0) (j := 1) (by rfl) scDiv.nd rfl rfl (by decide) rfl rfl (pa_cons (pv 1) (pa_cons (pe_op op_modN (pv 0) (pv 1)) pa_nil)) (by rfl))))
      (pss_one (ps_ret (pe_callB call_abs (by rfl) B.abs_ (by decide +kernel) (pa_cons (pv 0) pa_nil)))), ?_⟩
    refine ⟨fun m σ H' => ∃ x y : Int, σ = [some (.int x), some (.int y)] ∧ m = y.natAbs ∧ Int.gcd x y = Int.gcd a b ∧ H' = H, ⟨_, a, b, rfl, rfl, rfl, rfl⟩, ?_⟩
    rintro m σ H' ⟨x, y, rfl, rfl, hg, rfl⟩
    refine ⟨.int y, rfl, rfl, _, rfl, ite2 (fun c => ?_) (fun c => ?_)⟩
    · have hy : y ≠ 0 := fun e => by
        subst e
        exact absurd c (by decide)
      refine ⟨fun σ' H'' => ∃ x' y' : Int, σ' = [some (.int x'), some (.int y')] ∧ y'.natAbs < y.natAbs ∧ Int.gcd x' y' = Int.gcd a b ∧ H'' = H', ?_, ?_⟩
      · rintro σ' H'' ⟨x', y', e1, e2, e3, e4⟩
        exact ⟨y'.natAbs, e2, x', y', e1, rfl, e3, e4⟩
      · refine ⟨.int y, rfl, .int x, rfl, .int y, rfl, x, y, rfl, rfl, hy, _, _, rfl, y, _, rfl, Fr.fmod_abs x hy, ?_, rfl⟩
        rw [Fr.gcd_step]
        exact hg
    · have hy : y = 0 := by
        by_cases e : y = 0
        · exact e
        · exact absurd (by simp [e]) c
      subst hy
      rw [Int.gcd_zero_right] at hg
      refine ⟨.int x, rfl, x, rfl, ?_⟩
      have e : (if x < 0 then -x else x) = (Int.gcd a b : Int) := by
        rw [← hg]
        split <;> omega
      rw [e]
      exact q
theorem scLowest : FnScope ["top", "bottom", "by"] ["top", "bottom"] (defScope sLowest) := ⟨rfl, rfl, rfl, by decide +kernel, rfl, by decide +kernel, by decide +kernel⟩
theorem ok_lowest {f fD : Addr} {fd fdD : FuncData} {k : Nat} (F : Fun K "lowest" "lowest" sLowest f fd) (GD : FnOk P w K mg base CX0 k fD fdD ["one", "other"] spDiv) (kD : PySem.W.keepIn K (.ref fD) = true) (bD : Binds K fdD ["one", "other"] []) (gD : mg "divisor" = some (.ref fD)) : FnOk P w K mg base CX0 (k + 1) f fd ["top", "bottom"] spLow := by
  refine F.ok scLowest (fun vs H Q E h => ?_) (fun cdv A outer s H vs Q E hr h => ?_)
  · obtain ⟨a, b, n, rfl, _⟩ := h
    rfl
  · obtain ⟨t, b, n, rfl, ht, hb, h0, hn, q⟩ := h
    refine ⟨_, pss_cons (ps_set (i := 2) scLowest.nd rfl (.inl rfl) (pe_call GD hr (by rfl) gD kD bD .nil pass0 (pa_cons (pv 0) (pa_cons (pv 1) pa_nil))))
      (pss_cons (ps_if (pt_cmpR op_lt (pv 1) pe_int (nomark _)) (pss_one (ps_set (i := 2) scLowest.nd rfl (.inl rfl) (pe_un un_neg (pv 2)))) pss_nil)
      (pss_one (ps_ret (pe_tup (pa_cons (pe_op op_fdivZ (pv 0) (pv 2)) (pa_cons (pe_op op_fdivZ (pv 1) (pv 2)) pa_nil)))))), ?_⟩
    have hg := Fr.gcd_pos (t := t) h0
    have hgb := gcd_bd (t := t) h0 hb
    have hn0 : 0 < n := by
      cases n with
      | zero => simp at hb; omega
      | succ n => omega
    refine ⟨_, rfl, _, rfl, t, b, rfl, ?_⟩
    refine ⟨_, rfl, b, 0, rfl, rfl, _, rfl, ite2 (fun c => ?_) (fun c => ?_)⟩
    · have hb0 : b < 0 := of_decide_eq_true c
      refine ⟨_, rfl, _, rfl, ?_⟩
      have d : ∀ i : Int, CDivZ i (-(Int.gcd t b : Int)) := fun i => divZ (n := n) (by omega) (by rw [Int.natAbs_neg]; exact hgb) hn0 (by omega)
      refine ⟨_, rfl, _, rfl, t, _, rfl, rfl, d _, _, rfl, _, rfl, b, _, rfl, rfl, d _, (by show 2 ≤ sizeLine; decide), fun p hp => ?_⟩
      have z := q p hp
      rw [rp, ← Fr.lowN_num hb0, ← Fr.lowN_den hb0] at z
      exact z
    · have hb0 : 0 < b := by
        have : ¬ b < 0 := of_decide_eq_false (Bool.eq_false_iff.mpr c)
        omega
      have d : ∀ i : Int, CDivZ i (Int.gcd t b : Int) := fun i => divZ (n := n) (by omega) hgb hn0 (by omega)
      refine ⟨_, rfl, _, rfl, t, _, rfl, rfl, d _, _, rfl, _, rfl, b, _, rfl, rfl, d _, (by show 2 ≤ sizeLine; decide), fun p hp => ?_⟩
      have z := q p hp
      rw [rp, ← Fr.low_num hb0, ← Fr.low_den hb0] at z
      exact z

theorem scPlus : FnScope ["one", "other"] ["one", "other"] (defScope sPlus) := ⟨rfl, rfl, rfl, by decide +kernel, rfl, by decide +kernel, by decide +kernel⟩
theorem ok_Plus {f fC : Addr} {fd fdC : FuncData} {k : Nat} (F : Fun K "plus" "plus" sPlus f fd) (GC : FnOk P w K mg base CX0 k fC fdC ["top", "bottom"] spLow) (kC : PySem.W.keepIn K (.ref fC) = true) (bC : Binds K fdC ["top", "bottom"] []) (gC : mg "lowest" = some (.ref fC)) :
    FnOk P w K mg base CX0 (k + 1) f fd ["one", "other"] (spBin K (· + ·)) := by
  refine F.ok scPlus (fun vs H Q E h => ?_) (fun cdv A outer s H vs Q E hr h => ?_)
  · obtain ⟨a, b, x, y, n, m, rfl, _⟩ := h
    rfl
  · obtain ⟨a, b, x, y, n, m, rfl, hx, hy, bx, by_, hn, q⟩ := h
    refine ⟨_, pss_one (ps_ret (pe_call GC hr (by rfl) gC kC bC .nil pass0 (pa_cons (pe_op op_add (pe_op op_mulW (pe_ix ix_tup (pv 0) pe_int (fun _ _ => rfl)) (pe_ix ix_tup (pv 1) pe_int (fun _ _ => rfl))) (pe_op op_mulW (pe_ix ix_tup (pv 1) pe_int (fun _ _ => rfl)) (pe_ix ix_tup (pv 0) pe_int (fun _ _ => rfl)))) (pa_cons (pe_op op_mulW (pe_ix ix_tup (pv 0) pe_int (fun _ _ => rfl)) (pe_ix ix_tup (pv 1) pe_int (fun _ _ => rfl))) pa_nil)))), ?_⟩
    refine ⟨.ref a, rfl, a, rp x, 0, .int x.num, rfl, rfl, hx, at0 x, .ref b, rfl, b, rp y, 1, .int (y.den : Int), rfl, rfl, hy, at1 y, _, _, rfl, rfl, wmul bx.1 by_.dn (by omega), .ref b, rfl, b, rp y, 0, .int y.num, rfl, rfl, hy, at0 y, .ref a, rfl, a, rp x, 1, .int (x.den : Int), rfl, rfl, hx, at1 x, _, _, rfl, rfl, wmul by_.1 bx.dn (by omega), _, _, rfl, rfl, .ref a, rfl, a, rp x, 1, .int (x.den : Int), rfl, rfl, hx, at1 x, .ref b, rfl, b, rp y, 1, .int (y.den : Int), rfl, rfl, hy, at1 y, _, _, rfl, rfl, wmul bx.dn by_.dn (by omega), _, _, n + m + 1, rfl, Fr.add_bd (Fr.mul_bd bx.1 by_.dn) (by rw [Nat.add_comm n m]; exact Fr.mul_bd by_.1 bx.dn), Fr.up (Fr.mul_bd bx.dn by_.dn) (Nat.le_succ _), Fr.dd_ne x y, by omega, fun p hp => ?_⟩
    have z := q p hp
    rw [Fr.add_eq]
    exact z

theorem scTimes : FnScope ["one", "other"] ["one", "other"] (defScope sTimes) := ⟨rfl, rfl, rfl, by decide +kernel, rfl, by decide +kernel, by decide +kernel⟩
theorem ok_Times {f fC : Addr} {fd fdC : FuncData} {k : Nat} (F : Fun K "times" "times" sTimes f fd) (GC : FnOk P w K mg base CX0 k fC fdC ["top", "bottom"] spLow) (kC : PySem.W.keepIn K (.ref fC) = true) (bC : Binds K fdC ["top", "bottom"] []) (gC : mg "lowest" = some (.ref fC)) :
    FnOk P w K mg base CX0 (k + 1) f fd ["one", "other"] (spBin K (· * ·)) := by
  refine F.ok scTimes (fun vs H Q E h => ?_) (fun cdv A outer s H vs Q E hr h => ?_)
  · obtain ⟨a, b, x, y, n, m, rfl, _⟩ := h
    rfl
  · obtain ⟨a, b, x, y, n, m, rfl, hx, hy, bx, by_, hn, q⟩ := h
    refine ⟨_, pss_one (ps_ret (pe_call GC hr (by rfl) gC kC bC .nil pass0 (pa_cons (pe_op op_mulW (pe_ix ix_tup (pv 0) pe_int (fun _ _ => rfl)) (pe_ix ix_tup (pv 1) pe_int (fun _ _ => rfl))) (pa_cons (pe_op op_mulW (pe_ix ix_tup (pv 0) pe_int (fun _ _ => rfl)) (pe_ix ix_tup (pv 1) pe_int (fun _ _ => rfl))) pa_nil)))), ?_⟩
    refine ⟨.ref a, rfl, a, rp x, 0, .int x.num, rfl, rfl, hx, at0 x, .ref b, rfl, b, rp y, 0, .int y.num, rfl, rfl, hy, at0 y, _, _, rfl, rfl, wmul bx.1 by_.1 (by omega), .ref a, rfl, a, rp x, 1, .int (x.den : Int), rfl, rfl, hx, at1 x, .ref b, rfl, b, rp y, 1, .int (y.den : Int), rfl, rfl, hy, at1 y, _, _, rfl, rfl, wmul bx.dn by_.dn (by omega), _, _, n + m, rfl, Fr.mul_bd bx.1 by_.1, Fr.mul_bd bx.dn by_.dn, Fr.dd_ne x y, by omega, fun p hp => ?_⟩
    have z := q p hp
    rw [Fr.mul_eq]
    exact z
theorem scWhole : FnScope ["thing"] ["thing"] (defScope sWhole) := ⟨rfl, rfl, rfl, by decide +kernel, rfl, by decide +kernel, by decide +kernel⟩
theorem ok_Whole {f : Addr} {fd : FuncData} {k : Nat} (F : Fun K "is_whole" "is_whole" sWhole f fd) (B : Blt mg) : FnOk P w K mg base CX0 (k + 1) f fd ["thing"] spWholeI := by
  refine F.ok scWhole (fun vs H Q E h => ?_) (fun cdv A outer s H vs Q E hr h => ?_)
  · obtain ⟨i, rfl, _⟩ := h
    rfl
  · obtain ⟨i, rfl, q⟩ := h
    refine ⟨_, pss_one (ps_ret (pe_and (pe_callB call_isi (by rfl) B.isinstance_ (by decide +kernel) (pa_cons (pv 0) (pa_cons (pe_bltn (v := .ty "int") (by rfl) B.int_ (by decide +kernel) rfl) pa_nil)))
      (pe_one (pe_not (pe_callB call_isi (by rfl) B.isinstance_ (by decide +kernel) (pa_cons (pv 0) (pa_cons (pe_bltn (v := .ty "bool") (by rfl) B.bool_ (by decide +kernel) rfl) pa_nil))))))), ?_⟩
    refine ⟨_, rfl, _, _, _, _, true, rfl, .ty "int", .base (.int i), kit_ty (by decide +kernel), _, rfl, iteT ?_⟩
    exact ⟨_, rfl, _, _, _, _, false, rfl, .ty "bool", .base (.int i), kit_ty (by decide +kernel), _, rfl, q⟩
theorem scWithin : FnScope ["thing", "least", "most"] ["thing", "least", "most"] (defScope sWithin) := ⟨rfl, rfl, rfl, by decide +kernel, rfl, by decide +kernel, by decide +kernel⟩
theorem ok_Within {f fW : Addr} {fd fdW : FuncData} {k : Nat} (F : Fun K "is_whole_within" "is_whole_within" sWithin f fd) (GW : FnOk P w K mg base CX0 k fW fdW ["thing"] spWholeI) (kW : PySem.W.keepIn K (.ref fW) = true) (bW : Binds K fdW ["thing"] []) (gW : mg "is_whole" = some (.ref fW)) : FnOk P w K mg base CX0 (k + 1) f fd ["thing", "least", "most"] spWithin := by
  refine F.ok scWithin (fun vs H Q E h => ?_) (fun cdv A outer s H vs Q E hr h => ?_)
  · obtain ⟨i, lo, hi, rfl, _⟩ := h
    rfl
  · obtain ⟨i, lo, hi, rfl, q⟩ := h
    refine ⟨_, pss_one (ps_ret (pe_and (pe_call GW hr (by rfl) gW kW bW .nil pass0 (pa_cons (pv 0) pa_nil)) (pe_one (pe_chain op_le op_le (pv 1) (pv 0) (pv 2))))), ?_⟩
    refine ⟨_, rfl, i, rfl, _, rfl, iteT ?_⟩
    refine ⟨_, rfl, _, rfl, lo, i, rfl, rfl, _, rfl, ?_⟩
    by_cases h1 : lo ≤ i
    · rw [decide_eq_true h1] at q ⊢
      refine iteT ⟨_, rfl, i, hi, rfl, rfl, ?_⟩
      rw [Bool.true_and] at q
      exact q
    · rw [decide_eq_false h1] at q ⊢
      exact iteF q
theorem scIsR : FnScope ["thing", "top", "bottom"] ["thing"] (defScope sIsR) := ⟨rfl, rfl, rfl, by decide +kernel, rfl, by decide +kernel, by decide +kernel⟩
theorem ok_IsR {f fW fD : Addr} {fd fdW fdD : FuncData} {k : Nat} (F : Fun K "is_ratio" "is_ratio" sIsR f fd) (GW : FnOk P w K mg base CX0 k fW fdW ["thing"] spWholeI) (kW : PySem.W.keepIn K (.ref fW) = true) (bW : Binds K fdW ["thing"] []) (gW : mg "is_whole" = some (.ref fW))
    (GD : FnOk P w K mg base CX0 k fD fdD ["one", "other"] spDiv) (kD : PySem.W.keepIn K (.ref fD) = true) (bD : Binds K fdD ["one", "other"] []) (gD : mg "divisor" = some (.ref fD)) (B : Blt mg) : FnOk P w K mg base CX0 (k + 1) f fd ["thing"] (spIsR K) := by
  refine F.ok scIsR (fun vs H Q E h => ?_) (fun cdv A outer s H vs Q E hr h => ?_)
  · obtain ⟨a, r, rfl, _⟩ := h
    rfl
  · obtain ⟨a, r, rfl, ha, q⟩ := h
    refine ⟨_, pss_cons (ps_if (PW.pt (pw_or (pt_not (pt_val (pe_callB call_isi (by rfl) B.isinstance_ (by decide +kernel) (pa_cons (pv 0) (pa_cons (pe_bltn (v := .ty "tuple") (by rfl) B.tuple_ (by decide +kernel) rfl) pa_nil)))))
          (pw_or1 (pt_cmpR op_ne (pe_callB call_len_seq (by rfl) B.len_ PySem.boot_len (pa_cons (pv 0) pa_nil)) pe_int (nomark _))))) (pss_one (ps_ret pe_bl)) pss_nil)
      (pss_cons (ps_asg (pv 0) (pg_tup (by rfl) (pgs_cons (pg_name (i := 1) scIsR.nd rfl (.inl rfl)) (pgs_cons (pg_name (i := 2) scIsR.nd rfl (.inl rfl)) pgs_nil))))
      (pss_cons (ps_if (PW.pt (pw_or (pt_not (pt_val (pe_call GW hr (by rfl) gW kW bW .nil pass0 (pa_cons (pv 1) pa_nil))))
          (pw_or1 (pt_not (pt_val (pe_call GW hr (by rfl) gW kW bW .nil pass0 (pa_cons (pv 2) pa_nil))))))) (pss_one (ps_ret pe_bl)) pss_nil)
      (pss_one (ps_ret (pe_and (pe_cmpR op_ge (pv 2) pe_int (nomark _)) (pe_one (pe_cmpR op_eq (pe_call GD hr (by rfl) gD kD bD .nil pass0 (pa_cons (pv 1) (pa_cons (pv 2) pa_nil))) pe_int (nomark _)))))))), ?_⟩
    refine ⟨_, rfl, _, _, _, _, true, rfl, .ty "tuple", tyT ha, kit_ty (by decide +kernel), _, rfl, iteF ?_⟩
    refine ⟨_, rfl, a, rp r, rfl, .inr ha, rfl, _, rfl, ?_⟩
    refine iteF ?_
    refine ⟨_, rfl, a, rp r, rfl, ha, rfl, _, _, rfl, _, _, rfl, rfl, ?_⟩
    refine ⟨_, rfl, _, rfl, true, rfl, iteF ?_⟩
    refine ⟨_, rfl, _, rfl, true, rfl, iteF ?_⟩
    have hd := Fr.den_pos r
    refine ⟨_, rfl, _, _, rfl, rfl, _, rfl, ?_⟩
    rw [if_pos (decide_eq_true (by omega))]
    refine ⟨_, rfl, _, rfl, _, _, rfl, rfl, ?_⟩
    rw [Fr.ratio_gcd]
    exact q
theorem scListOf : FnScope ["thing", "least", "most"] ["thing", "least", "most"] (defScope sListOf) := ⟨rfl, rfl, rfl, by decide +kernel, rfl, by decide +kernel, by decide +kernel⟩
theorem ok_ListOf {f : Addr} {fd : FuncData} {k : Nat} (F : Fun K "is_list_of" "is_list_of" sListOf f fd) (B : Blt mg) : FnOk P w K mg base CX0 (k + 1) f fd ["thing", "least", "most"] (spListOf K) := by
  refine F.ok scListOf (fun vs H Q E h => ?_) (fun cdv A outer s H vs Q E hr h => ?_)
  · obtain ⟨a, xs, lo, hi, rfl, _⟩ := h
    rfl
  · obtain ⟨a, xs, lo, hi, rfl, ha, q⟩ := h
    refine ⟨_, pss_one (ps_ret (pe_and (pe_callB call_isi (by rfl) B.isinstance_ (by decide +kernel) (pa_cons (pv 0) (pa_cons (pe_bltn (v := .ty "list") (by rfl) B.list_ (by decide +kernel) rfl) pa_nil)))
      (pe_one (pe_chain op_le op_le (pv 1) (pe_callB call_len_seq (by rfl) B.len_ PySem.boot_len (pa_cons (pv 0) pa_nil)) (pv 2))))), ?_⟩
    refine ⟨_, rfl, _, _, _, _, true, rfl, .ty "list", .base (.lst ha), kit_ty (by decide +kernel), _, rfl, iteT ?_⟩
    refine ⟨_, rfl, _, rfl, a, xs, rfl, .inl (SqL.of ha), lo, _, rfl, rfl, _, rfl, ?_⟩
    by_cases h1 : lo ≤ (xs.length : Int)
    · rw [decide_eq_true h1] at q ⊢
      refine iteT ⟨_, rfl, _, hi, rfl, rfl, ?_⟩
      rw [Bool.true_and] at q
      exact q
    · rw [decide_eq_false h1] at q ⊢
      exact iteF q
theorem scShare : FnScope ["thing"] ["thing"] (defScope sShare) := ⟨rfl, rfl, rfl, by decide +kernel, rfl, by decide +kernel, by decide +kernel⟩
theorem ok_Share {f fR : Addr} {fd fdR : FuncData} {k : Nat} (F : Fun K "is_share" "is_share" sShare f fd) (GR : FnOk P w K mg base CX0 k fR fdR ["thing"] (spIsR K)) (kR : PySem.W.keepIn K (.ref fR) = true) (bR : Binds K fdR ["thing"] []) (gR : mg "is_ratio" = some (.ref fR)) : FnOk P w K mg base CX0 (k + 1) f fd ["thing"] (spShare K) := by
  refine F.ok scShare (fun vs H Q E h => ?_) (fun cdv A outer s H vs Q E hr h => ?_)
  · obtain ⟨a, r, rfl, _⟩ := h
    rfl
  · obtain ⟨a, r, rfl, ha, h0, q⟩ := h
    refine ⟨_, pss_one (ps_ret (pe_and (pe_call GR hr (by rfl) gR kR bR .nil pass0 (pa_cons (pv 0) pa_nil)) (pe_one (pe_cmpR op_ge (pe_ix ix_tup (pv 0) pe_int (fun _ _ => rfl)) pe_int (nomark _))))), ?_⟩
    refine ⟨_, rfl, a, r, rfl, ha, _, rfl, iteT ?_⟩
    refine ⟨_, rfl, a, rp r, 0, .int r.num, rfl, rfl, ha, at0 r, _, _, rfl, rfl, ?_⟩
    have hn : 0 ≤ r.num := Rat.num_nonneg.mpr h0
    show Q (.bl (decide (0 ≤ r.num))) H
    rw [decide_eq_true hn]
    exact q
theorem scTotal : FnScope ["some", "start", "whole", "one"] ["some", "start"] (defScope sTotal) := ⟨rfl, rfl, rfl, by decide +kernel, rfl, by decide +kernel, by decide +kernel⟩
theorem ok_Total {f fP : Addr} {fd fdP : FuncData} {k : Nat} (F : FunD K "total" "total" (defArgs sTotal) (defBody sTotal) (defScope sTotal) [.non] [] f fd) (GP : FnOk P w K mg base CX0 k fP fdP ["one", "other"] (spBin K (· + ·))) (kP : PySem.W.keepIn K (.ref fP) = true) (bP : Binds K fdP ["one", "other"] []) (gP : mg "plus" = some (.ref fP)) :
    FnOk P w K mg base CX0 (k + 1) f fd ["some", "start"] (spTotal K) := by
  refine F.ok scTotal (fun vs H Q E h => ?_) (fun cdv A outer s H vs Q E hr h => ?_)
  · obtain ⟨l, cs, qs, n, rfl, _⟩ := h
    rfl
  · obtain ⟨l, cs, qs, n, rfl, hl, hf, hn, q⟩ := h
    refine ⟨_, PSs.nox (pss_cons (ps_set (i := 2) scTotal.nd rfl (.inl rfl) (pe_ifExp (pt_cmpR op_isN (pv 1) pe_non (nomark _)) (pe_tup (pa_cons pe_int (pa_cons pe_int pa_nil))) (pv 1)))
      (pss_cons (ps_for PassesOwn.never rfl (pi_list (pv 0)) (pg_name (i := 3) scTotal.nd rfl (.inl rfl)) (pss_one (ps_set (i := 2) scTotal.nd rfl (.inl rfl) (pe_call GP hr (by rfl) gP kP bP .nil pass0 (pa_cons (pv 2) (pa_cons (pv 3) pa_nil))))))
      (pss_one (ps_ret (pv 2))))), ?_⟩
    refine ⟨_, rfl, rfl, _, rfl, iteT ⟨(by show 2 ≤ sizeLine; decide), fun p hp => ?_⟩⟩
    have s1 := same_new hp (.tup (rp 0))
    refine ⟨_, rfl, l, rfl, ⟨_, s1.seq hl⟩, for_list (K := K) (a := l) (xs := cs) (fun i σ H' => ∃ (c : Addr) (y : Option V), σ = [some (.ref l), some .non, some (.ref c), y] ∧ Same H H' ∧ SqT K H' c (rp (qs.take i).sum) ∧ Bd ((n + 1) * i + 1) (qs.take i).sum)
      ⟨p, none, rfl, s1, SqT.of upd_same, ⟨by show (0 : Int).natAbs < 2 ^ 1; decide, by show 1 < 2 ^ 1; decide⟩⟩ (fun i σ H' _ ⟨_, _, _, s5, _⟩ => s5.seq hl) ?_ ?_⟩
    · rintro i v σ H' hi ⟨c, y, rfl, s5, hc5, hb5⟩
      obtain ⟨a, z, e1, rfl, e3, e4⟩ := hf.at_ i v hi
      have hil : i < qs.length := by
        rw [← hf.len]
        exact (List.getElem?_eq_some_iff.mp hi).1
      have hm : (n + 1) * i + (n + 1) ≤ (n + 1) * qs.length := by
        have := Nat.mul_le_mul_left (n + 1) (Nat.succ_le_of_lt hil)
        rw [Nat.mul_succ] at this
        exact this
      refine ⟨_, rfl, _, rfl, c, a, _, z, _, n, rfl, hc5, seqT s5 e3, hb5, e4, by omega, fun p hp => ?_⟩
      refine ⟨p, _, rfl, s5.trans (same_new hp _), ?_, ?_⟩
      · rw [sum_snoc' e1]
        exact SqT.of upd_same
      · rw [sum_snoc' e1]
        exact (Fr.bd_add hb5 e4).mono (by rw [Nat.mul_succ]; omega)
    · rintro σ H' ⟨c, y, rfl, s5, hc5, _⟩
      rw [hf.len, List.take_length] at hc5
      exact ⟨_, rfl, q c H' s5 hc5⟩
theorem scShRow : FnScope ["thing", "least", "most", "one"] ["thing", "least", "most"] (defScope sShRow) := ⟨rfl, rfl, rfl, by decide +kernel, rfl, by decide +kernel, by decide +kernel⟩
theorem all_true (n : Nat) : (List.replicate n true).all id = true := by
  induction n with
  | zero => rfl
  | succ n ih => rw [List.replicate_succ, List.all_cons, ih]; rfl
theorem ok_ShRow {f fL fS fT : Addr} {fd fdL fdS fdT : FuncData} {k : Nat} (F : Fun K "is_share_row" "is_share_row" sShRow f fd) (GL : FnOk P w K mg base CX0 k fL fdL ["thing", "least", "most"] (spListOf K)) (kL : PySem.W.keepIn K (.ref fL) = true) (bL : Binds K fdL ["thing", "least", "most"] []) (gL : mg "is_list_of" = some (.ref fL))
    (GS : FnOk P w K mg base CX0 k fS fdS ["thing"] (spShare K)) (kS : PySem.W.keepIn K (.ref fS) = true) (bS : Binds K fdS ["thing"] []) (gS : mg "is_share" = some (.ref fS))
    (GT : FnOk P w K mg base CX0 k fT fdT ["some", "start"] (spTotal K)) (kT : PySem.W.keepIn K (.ref fT) = true) (bT : ∃ ds, Vals [V.non] ds ∧ Binds K fdT ["some", "start"] ds) (gT : mg "total" = some (.ref fT)) (B : Blt mg) :
    FnOk P w K mg base CX0 (k + 1) f fd ["thing", "least", "most"] (spShRow K) := by
  obtain ⟨ds, vd, bTd⟩ := bT
  refine F.ok scShRow (fun vs H Q E h => ?_) (fun cdv A outer s H vs Q E hr h => ?_)
  · obtain ⟨r, cs, qs, n, m, lo, hi, rfl, _⟩ := h
    rfl
  · obtain ⟨r, cs, qs, n, m, lo, hi, rfl, hr0, hf, hok, hm, hn, h1, h2, q⟩ := h
    refine ⟨_, pss_cons (ps_if (PW.pt (pw_or (pt_not (pt_val (pe_call GL hr (by rfl) gL kL bL .nil pass0 (pa_cons (pv 0) (pa_cons (pv 1) (pa_cons (pv 2) pa_nil))))))
        (pw_or1 (pt_not (pt_val (pe_callB (cr_all rfl) (by rfl) B.all_ (by decide +kernel) (pa_cons
          (pe_lc (own := [("one", 3)]) (g := gName 3) (tt := tYes) rfl scShRow.nd (pi_list (pv 0)) (blkOk_by (N := ["thing", "least", "most", "one"]) (sc := defScope sShRow) (by decide +kernel)) (fun _ _ _ _ _ => pg_name (i := 3) scShRow.nd rfl (Or.inl rfl)) (fun _ _ _ _ _ => pts_nil)
            (fun _ _ _ _ _ => pe_call GS hr (by rfl) gS kS bS .nil pass0 (pa_cons (pv 3) pa_nil))) pa_nil))))))) (pss_one (ps_ret pe_bl)) pss_nil)
      (pss_one (ps_ret (pe_cmpR (op_eqD hr.units) (pe_call GT hr (by rfl) gT kT bTd vd pass0 (pa_cons (pv 0) pa_nil)) (pe_tup (pa_cons pe_int (pa_cons pe_int pa_nil))) (nomark _)))), ?_⟩
    have hl : cs.length = m := by rw [hf.len]; exact hok.1
    refine ⟨_, rfl, _, rfl, _, rfl, r, cs, lo, hi, rfl, hr0, _, rfl, ?_⟩
    rw [hl, decide_eq_true h1, decide_eq_true h2]
    refine iteF ?_
    refine ⟨_, rfl, r, rfl, ⟨_, SqL.of hr0⟩, fun D hD => lc_list (K := K) (a := r) (xs := cs) (fun i H' => H' = upd H D (.lst ((List.replicate i true).map V.bl))) rfl (fun i H' _ e => by rw [e]; exact SqL.of (same_new hD _ _ _ hr0)) ?_ ?_⟩
    · rintro i v H' hi rfl
      obtain ⟨a, z, e1, rfl, e3, e4⟩ := hf.at_ i v hi
      have hil : i < cs.length := (List.getElem?_eq_some_iff.mp hi).1
      refine ⟨rfl, ?_⟩
      unfold tYes
      dsimp only
      refine iteT ?_
      refine ⟨_, rfl, a, z, rfl, seqT (same_new hD _) e3, hok.2.1 z (List.mem_of_getElem? e1), _, upd_same, ?_, ?_⟩
      · rw [List.length_map, List.length_replicate]
        exact small1000 (by omega)
      · rw [upd_upd, List.replicate_succ', List.map_append]
        rfl
    · rintro H' rfl
      refine ⟨D, List.replicate cs.length true, rfl, SqL.of upd_same, ?_⟩
      rw [all_true]
      refine ⟨_, rfl, iteF ?_⟩
      have s1 := same_new hD (.lst ((List.replicate cs.length true).map V.bl))
      have hb : (n + 1) * qs.length + 1 ≤ 8700 := by
        rw [hok.1]
        have : (n + 1) * m ≤ 281 * 30 := Nat.mul_le_mul (by omega) hm
        omega
      refine ⟨_, rfl, r, cs, qs, n, rfl, SqL.of (s1 _ _ hr0), hf.same s1, hb, fun rt H2 s2 e2 => ?_⟩
      refine ⟨(by show 2 ≤ sizeLine; decide), fun p hp => ?_⟩
      have s3 := same_new hp (.tup [V.int 1, V.int 1])
      rw [hok.2.2] at e2
      refine ⟨dR 1, dR 1, dp_r (seqT s3 e2), dp_r (q := 1) (SqT.of upd_same), dR_shaped _, dR_shaped _, ?_⟩
      rw [SeqAt.eqv_refl _ (dR_lay 1)]
      exact q _ ((s1.trans s2).trans s3)
end
end K13

set_option Elab.async false
set_option linter.all false
set_option maxRecDepth 100000
set_option maxHeartbeats 4000000
namespace K13
open PySem PySem.Spec PyProof.Rows L2 BX EXB Co Ru
open Fr (Bd)
/-- what the top has written of the class Rule -/
structure RuT (K : PySem.W.Frag) (mg : Str → Option Value) (C fI fR fW fL fE : Addr) : Prop where
  cl : Cls K C
  gC : mg "Rule" = some (.ref C)
  nO : NoAttr K C "own_rows"
  mkC : Mk K C fI
  mR : Meth K C "rows" fR
  mW : Meth K C "worlds" fW
  lL : PySem.W.findIn K (.ref C) "__len__" = some (some (.ref fL))
  fnL : PySem.W.isFn K (.ref fL) = true
  g5 : ∃ t, mg "MOST_WORLDS" = some (.int 5 t)
  g30 : ∃ t, mg "MOST_WORDS" = some (.int 30 t)
def spInit (K : PySem.W.Frag) (C : Addr) : Sp := fun vs H Q _ => ∃ (x a dx : Addr) (rs : List Addr) (rss : List (List Rat)) (n m : Nat), vs = [.ref x, .ref a] ∧ H x = some (.ins C dx []) ∧ RwL K H a rs rss n ∧ Good rss m ∧ n ≤ 280 ∧
  ∀ ra rs' H', (∀ b o, b ≠ x → H b = some o → H' b = some o) → H' x = some (.ins C dx [("own_rows", .ref ra)]) → RwL K H' ra rs' rss n → Q .non H'
def spRRows (K : PySem.W.Frag) (C : Addr) : Sp := fun vs H Q _ => ∃ (x : Addr) (rss : List (List Rat)) (n : Nat), vs = [.ref x] ∧ IsRule K H C x rss n ∧ rss.length ≤ 100 ∧ ∀ D rs' H', Fresh K H H' D rs' rss n → Q (.ref D) H'
def spRWorlds (K : PySem.W.Frag) (C : Addr) : Sp := fun vs H Q _ => ∃ (x : Addr) (rss : List (List Rat)) (n : Nat), vs = [.ref x] ∧ IsRule K H C x rss n ∧ Q (.int (rss.length : Int)) H
def spRLen (K : PySem.W.Frag) (C : Addr) : Sp := fun vs H Q _ => ∃ (x : Addr) (rss : List (List Rat)) (n m : Nat), vs = [.ref x] ∧ IsRule K H C x rss n ∧ Good rss m ∧ Q (.int (m : Int)) H
section
variable {P : Program} {w : World} {K : PySem.W.Frag} {mg : Str → Option Value} {base : Heap} {C fI fRo fWo fLe fEq : Addr}
theorem scWrong : FnScope ["rows", "is_row", "least", "most", "number", "row"] ["rows", "is_row", "least", "most"] (defScope sWrong) := ⟨rfl, rfl, rfl, by decide +kernel, rfl, by decide +kernel, by decide +kernel⟩
theorem ok_Wrong {f fR : Addr} {fd fdR : FuncData} {k : Nat} (F : Fun K "wrong_row" "wrong_row" sWrong f fd) (GR : FnOk P w K mg base CX0 k fR fdR ["thing", "least", "most"] (spShRow K)) (kR : PySem.W.keepIn K (.ref fR) = true) (bR : Binds K fdR ["thing", "least", "most"] []) (B : Blt mg) : FnOk P w K mg base CX0 (k + 1) f fd ["rows", "is_row", "least", "most"] (spWrong K fR) := by
  refine F.ok scWrong (fun vs H Q E h => ?_) (fun cdv A outer s H vs Q E hr h => ?_)
  · obtain ⟨a, rs, rss, n, m, rfl, _⟩ := h
    rfl
  · obtain ⟨a, rs, rss, n, m, rfl, hw, hg, hn, q⟩ := h
    refine ⟨_, pss_cons (ps_for PassesOwn.never rfl (pi_enum (by rfl) B.enumerate_ (pa_cons (pv 0) pa_nil)) (pg_tup rfl (pgs_cons (pg_name (i := 4) scWrong.nd rfl (.inl rfl)) (pgs_cons (pg_name (i := 5) scWrong.nd rfl (.inl rfl)) pgs_nil)))
        (pss_cons (ps_if (pt_not (pt_val (pe_callL (i := 1) GR hr rfl (.inl rfl) kR bR .nil pass0 (pa_cons (pv 5) (pa_cons (pv 2) (pa_cons (pv 3) pa_nil)))))) (pss_one (ps_ret (pv 4))) pss_nil)
        (pss_one (ps_asg2 (pe_callB call_len_seq (by rfl) B.len_ PySem.boot_len (pa_cons (pv 5) pa_nil)) (pg_name (i := 2) scWrong.nd rfl (.inl rfl)) (pg_name (i := 3) scWrong.nd rfl (.inl rfl))))))
      (pss_one (ps_ret pe_non)), ?_⟩
    refine ⟨_, rfl, a, _, rfl, SqL.of hw.1, for_it (walk_enum (K := K) (a := a) (xs := rs.map V.ref)) (fun i σ H' => ∃ (lo hi : Int) (y4 y5 : Option V), σ = [some (.ref a), some (.ref fR), some (.int lo), some (.int hi), y4, y5] ∧ Same H H' ∧ lo ≤ (m : Int) ∧ (m : Int) ≤ hi)
      ⟨1, 30, none, none, rfl, Same.refl _, by have := hg.m1; omega, by have := hg.m30; omega⟩ (fun i σ H' _ ⟨_, _, _, _, _, s5, _⟩ => SqL.of (s5 _ _ hw.1)) ?_ ?_⟩
    · rintro i x σ H1 H2 hi ⟨lo, hi', y4, y5, rfl, s5, h1, h2⟩ ⟨T, u, v, rfl, nT, rfl, e1, e2⟩
      have eu : u = .int (i : Nat) := (Option.some.inj e1).symm
      subst eu
      obtain ⟨r, er, rfl⟩ : ∃ r, rs[i]? = some r ∧ v = .ref r := by
        have e2' : (rs.map V.ref)[i]? = some v := e2
        rw [List.getElem?_map] at e2'
        cases e : rs[i]? with
        | none => rw [e] at e2'; cases e2'
        | some r => rw [e] at e2'; exact ⟨r, rfl, (Option.some.inj e2').symm⟩
      obtain ⟨cs, qs, e3, e4, e5⟩ := hw.2.2 i r er
      have s6 := s5.trans (same_new nT (.tup [.int (i : Nat), .ref r]))
      have hq := hg.row qs (List.mem_of_getElem? e3)
      refine ⟨T, _, rfl, SqT.of upd_same, rfl, _, _, rfl, _, _, rfl, rfl, ?_⟩
      refine ⟨rfl, _, rfl, _, rfl, _, rfl, r, cs, qs, n, m, lo, hi', rfl, s6 _ _ e4, e5.same s6, hq, hg.m30, hn, h1, h2, fun H3 s7 => ?_⟩
      refine ⟨_, rfl, iteF ?_⟩
      refine ⟨_, rfl, r, cs, rfl, .inl (SqL.of ((s6.trans s7) _ _ e4)), ?_⟩
      have hl : cs.length = m := by rw [e5.len]; exact hq.1
      exact ⟨_, _, _, _, rfl, s6.trans s7, by rw [hl]; exact Int.le_refl _, by rw [hl]; exact Int.le_refl _⟩
    · rintro σ H1 ⟨lo, hi', y4, y5, rfl, s5, _⟩
      exact q H1 s5
theorem scCopied : FnScope ["rows", "row"] ["rows"] (defScope sCopied) := ⟨rfl, rfl, rfl, by decide +kernel, rfl, by decide +kernel, by decide +kernel⟩
theorem ok_Copied {f : Addr} {fd : FuncData} {k : Nat} (F : Fun K "copied_rows" "copied_rows" sCopied f fd) (B : Blt mg) : FnOk P w K mg base CX0 (k + 1) f fd ["rows"] (spCopied K) := by
  refine F.ok scCopied (fun vs H Q E h => ?_) (fun cdv A outer s H vs Q E hr h => ?_)
  · obtain ⟨a, rs, rss, n, rfl, _⟩ := h
    rfl
  · obtain ⟨a, rs, rss, n, rfl, hw, hlen, q⟩ := h
    refine ⟨_, pss_one (ps_ret (pe_lc (own := [("row", 1)]) (g := gName 1) (tt := tYes) (te := tCB (rListOf K) (tCons (tVar 1) tNil)) rfl scCopied.nd (pi_list (pv 0)) (blkOk_by (N := ["rows", "row"]) (sc := defScope sCopied) (by decide +kernel)) (fun _ _ _ _ _ => pg_name (i := 1) scCopied.nd rfl (Or.inl rfl)) (fun _ _ _ _ _ => pts_nil)
      (fun _ _ _ _ _ => pe_callTy (T := "list") call_list_of (by rfl) B.list_ (by decide +kernel) (pa_cons (pv 1) pa_nil)))), ?_⟩
    -- an address that stays out of the way: D itself
    refine ⟨_, rfl, a, rfl, ⟨_, SqL.of hw.1⟩, fun D hD => lc_list (K := K) (a := a) (xs := rs.map V.ref) (fun i H' => ∃ rs', rs'.length = i ∧ H' D = some (.lst (rs'.map V.ref)) ∧ rs'.Nodup ∧ D ∉ rs' ∧ (∀ x ∈ rs', H x = none) ∧ Same H H' ∧ RowsAt K H' n rs' (rss.take i))
      ⟨[], rfl, upd_same, List.nodup_nil, by simp, fun x hx => by simp at hx, same_new hD _, RowsAt.nil⟩ (fun i H' _ ⟨_, _, _, _, _, _, s5, _⟩ => SqL.of (s5 _ _ hw.1)) ?_ ?_⟩
    · rintro i v H' hi ⟨rs', hl', hD', nd', ne', fr', s5, ra⟩
      obtain ⟨r, er, rfl⟩ : ∃ r, rs[i]? = some r ∧ v = .ref r := by
        rw [List.getElem?_map] at hi
        cases e : rs[i]? with
        | none => rw [e] at hi; cases hi
        | some r => rw [e] at hi; exact ⟨r, rfl, (Option.some.inj hi).symm⟩
      obtain ⟨cs, qs, e3, e4, e5⟩ := hw.2.2 i r er
      refine ⟨rfl, ?_⟩
      unfold tYes
      dsimp only
      refine iteT ?_
      refine ⟨_, rfl, r, cs, rfl, .inl (SqL.of (s5 _ _ e4)), fun l hl => ?_⟩
      have s6 := same_new hl (.lst cs)
      have hlD : l ≠ D := fun e => by
        rw [e, hD'] at hl
        cases hl
      have hil : i < rss.length := (List.getElem?_eq_some_iff.mp e3).1
      refine ⟨_, s6 _ _ hD', ?_, rs' ++ [l], ?_, ?_, ?_, ?_, ?_, ?_, ?_⟩
      · rw [List.length_map]
        exact small1000 (by omega)
      · rw [List.length_append, hl']
        rfl
      · rw [upd_same, List.map_append]
        rfl
      · rw [List.nodup_append]
        refine ⟨nd', by simp, fun x hx y hy => ?_⟩
        have ey : y = l := by simpa using hy
        rw [ey]
        intro e
        obtain ⟨j, hj, ej⟩ := List.getElem_of_mem hx
        obtain ⟨c', q', _, z2, _⟩ := ra.2 j x (by rw [List.getElem?_eq_getElem hj, ej])
        rw [e, hl] at z2
        cases z2
      · intro hm
        rcases List.mem_append.mp hm with hm | hm
        · exact ne' hm
        · exact hlD (by simpa using hm : D = l).symm
      · intro x hx
        rcases List.mem_append.mp hx with hx | hx
        · exact fr' x hx
        · have ex : x = l := by simpa using hx
          rw [ex]
          exact s5.free hl
      · intro b u e
        rw [upd_ne (ne_of_none e hD)]
        exact s6 _ _ (s5 _ _ e)
      · have sD : SameB D (upd H' l (.lst cs)) (upd (upd H' l (.lst cs)) D (.lst (rs'.map V.ref ++ [V.ref l]))) := SameB.upd
        have t := ((ra.same s6).keep sD (s6 _ _ hD') ne').snoc (r := l) (cs := cs) (qs := qs) (by rw [upd_ne hlD, upd_same]) ((e5.same (s5.trans s6)).keep (sD.tup (s6 _ _ hD')))
        rw [List.take_add_one, e3]
        exact t
    · rintro H' ⟨rs', hl', hD', nd', ne', fr', s5, ra⟩
      rw [List.length_map, hw.2.1, List.take_length] at ra
      exact q D rs' H' ⟨⟨hD', ra⟩, nd', ne', hD, fr', s5⟩
end
end K13

set_option Elab.async false
set_option linter.all false
set_option maxRecDepth 100000
set_option maxHeartbeats 4000000
namespace K13
open PySem PySem.Spec PyProof.Rows L2 BX EXB Co Ru
open Fr (Bd)
theorem RwL.ins {K : PySem.W.Frag} {H : Hp} {a x C dx : Addr} {fs gs : List (Str × V)} {rs : List Addr} {rss : List (List Rat)} {n : Nat} (h : RwL K H a rs rss n) (hx : H x = some (.ins C dx fs)) : RwL K (upd H x (.ins C dx gs)) a rs rss n := by
  have st : ∀ b xs, SqT K H b xs → SqT K (upd H x (.ins C dx gs)) b xs := fun b xs z => by
    rcases z with (z | ⟨o, z⟩) | z
    · exact .inl (.inl (by rw [upd_ne (ne_of z hx (by intro w; cases w))]; exact z))
    · exact .inl (.inr ⟨o, by rw [upd_ne (ne_of z hx (by intro w; cases w))]; exact z⟩)
    · exact .inr z
  refine ⟨by rw [upd_ne (ne_of h.1 hx (by intro w; cases w))]; exact h.1, h.2.1, fun j r e => ?_⟩
  obtain ⟨cs, qs, e1, e2, e3⟩ := h.2.2 j r e
  exact ⟨cs, qs, e1, by rw [upd_ne (ne_of e2 hx (by intro w; cases w))]; exact e2, e3.keep st⟩
/-- len(o), o an instance with its own __len__ -/
def rLenO (C : Addr) (sp : Sp) : List V → Hp → VK → Prop := fun xs H Q => ∃ (x dx : Addr) (fs : List (Str × V)), xs = [.ref x] ∧ H x = some (.ins C dx fs) ∧ sp [.ref x] H (fun v H' => ∃ n : Nat, v = .int (n : Int) ∧ n < 1000 ∧ Q (.int (n : Int)) H') (fun _ _ _ => False)
theorem call_lenO {X : Cx} {C f : Addr} {fd : FuncData} {k : Nat} {sp : Sp} (hs : PySem.W.findIn X.K (.ref C) "__len__" = some (some (.ref f))) (hf : PySem.W.isFn X.K (.ref f) = true) (F : FnOk X.prog X.w X.K X.mg X.base CX0 k f fd ["self"] sp) (hr : Room (k + 1) X.A) (hb : Binds X.K fd ["self"] []) : CallR X (.builtin "len") (rLenO C sp) := by
  intro pins s σ H xs us Q I r h
  obtain ⟨x, dx, fs, rfl, hx, hq⟩ := h
  cases r with
  | @cons _ u _ _ ru rn =>
    cases rn
    cases (show u = Value.ref x from ru)
    obtain ⟨mA, J, _⟩ := ins_get I.hok hx
    obtain ⟨od, J, _⟩ := J.look
    obtain ⟨m, hF⟩ := I.fr
    refine PySem.W.len_K hF I.ok.mod.kin J hs hf ?_
    have e0 : Env0 X.prog X.w X.K X.mg X.base X.A.in1 X.stack s H := by
      have e := I.env0
      exact ⟨e.frames, e.mod, e.bs, e.bsz, e.funs, e.frf, e.hok, e.bare⟩
    have r2 : Vals [V.ref x] [Value.ref x] := .cons rfl .nil
    refine wpAny_call (codeAny_mono (F.run X.A.in1 X.stack s H ⟨[.ref x], []⟩ [.ref x] [.ref x] _ (fun _ _ _ => False) hr.in1 e0 (by
      have := hb s [.ref x] I.kIn rfl
      simpa using this) r2 hq) fun r s' hq' => ?_)
    cases r with
    | error e => exact False.elim hq'
    | ok fl =>
      cases fl with
      | ret u =>
        obtain ⟨z, H', I', rz, n, ez, hn, q⟩ := I.after hq'
        subst ez
        obtain ⟨t, rfl⟩ := (show ∃ t, u = Value.int (n : Int) t from rz)
        exact ⟨⟨by omega, by omega⟩, .int (n : Int), H', I'.tok _, ⟨_, rfl⟩, q⟩
      | next => exact False.elim hq'
      | brk => exact False.elim hq'
      | cont => exact False.elim hq'
section
variable {P : Program} {w : World} {K : PySem.W.Frag} {mg : Str → Option Value} {base : Heap} {C fI fRo fWo fLe fEq : Addr}
theorem scRInit : FnScope ["self", "rows", "wrong"] ["self", "rows"] (defScope sRInit) := ⟨rfl, rfl, rfl, by decide +kernel, rfl, by decide +kernel, by decide +kernel⟩
theorem ok_RInit {fd fdL fdW fdC : FuncData} {fL fW fC fR : Addr} {k : Nat} (F : Fun K "__init__" "Rule.__init__" sRInit fI fd) (T : RuT K mg C fI fRo fWo fLe fEq)
    (GL : FnOk P w K mg base CX0 k fL fdL ["thing", "least", "most"] (spListOf K)) (kL : PySem.W.keepIn K (.ref fL) = true) (bL : Binds K fdL ["thing", "least", "most"] []) (gL : mg "is_list_of" = some (.ref fL))
    (GW : FnOk P w K mg base CX0 k fW fdW ["rows", "is_row", "least", "most"] (spWrong K fR)) (kW : PySem.W.keepIn K (.ref fW) = true) (bW : Binds K fdW ["rows", "is_row", "least", "most"] []) (gW : mg "wrong_row" = some (.ref fW)) (gR : mg "is_share_row" = some (.ref fR))
    (GC : FnOk P w K mg base CX0 k fC fdC ["rows"] (spCopied K)) (kC : PySem.W.keepIn K (.ref fC) = true) (bC : Binds K fdC ["rows"] []) (gC : mg "copied_rows" = some (.ref fC)) : FnOk P w K mg base CX0 (k + 1) fI fd ["self", "rows"] (spInit K C) := by
  obtain ⟨t5, g5⟩ := T.g5
  obtain ⟨t30, g30⟩ := T.g30
  refine F.ok scRInit (fun vs H Q E h => ?_) (fun cdv A outer s H vs Q E hr h => ?_)
  · obtain ⟨x, a, dx, rs, rss, n, m, rfl, _⟩ := h
    rfl
  · obtain ⟨x, a, dx, rs, rss, n, m, rfl, hx, hw, hg, hn, q⟩ := h
    refine ⟨_, pss_cons (ps_if (pt_not (pt_val (pe_call GL hr (by rfl) gL kL bL .nil pass0 (pa_cons (pv 1) (pa_cons pe_int (pa_cons (pe_glob (v := .int 5) (by rfl) g5 ⟨_, rfl⟩) pa_nil)))))) (pss_one ps_never) pss_nil)
      (pss_cons (ps_set (i := 2) scRInit.nd rfl (.inl rfl) (pe_call GW hr (by rfl) gW kW bW .nil pass0 (pa_cons (pv 1) (pa_cons (pe_glob (v := .ref fR) (by rfl) gR rfl) (pa_cons pe_int (pa_cons (pe_glob (v := .int 30) (by rfl) g30 ⟨_, rfl⟩) pa_nil))))))
      (pss_cons (ps_if (pt_cmpR op_notN (pv 2) pe_non (nomark _)) (pss_one ps_never) pss_nil)
      (pss_one (ps_fld (pv 0) (pe_call GC hr (by rfl) gC kC bC .nil pass0 (pa_cons (pv 1) pa_nil)) rfl)))), ?_⟩
    have hl : (rs.map V.ref).length = rss.length := by rw [List.length_map]; exact hw.2.1
    refine ⟨_, rfl, a, _, 1, 5, rfl, hw.1, _, rfl, ?_⟩
    rw [hl, decide_eq_true (by have := hg.w1; omega), decide_eq_true (by have := hg.w5; omega)]
    refine iteF ?_
    refine ⟨_, rfl, a, rs, rss, n, m, rfl, hw, hg, hn, fun H1 s1 => ?_⟩
    refine ⟨_, rfl, rfl, _, rfl, iteF ?_⟩
    refine ⟨_, rfl, a, rs, rss, n, rfl, hw.same s1, by have := hg.w5; omega, fun D rs' H2 fr => ?_⟩
    have s2 := s1.trans fr.2.2.2.2.2
    refine ⟨_, rfl, x, C, dx, [], rfl, s2 _ _ hx, T.cl, T.nO, by decide, ?_⟩
    refine q D rs' _ (fun b o hb e => ?_) upd_same (RwL.ins fr.1 (s2 _ _ hx))
    rw [upd_ne hb]
    exact s2 _ _ e
theorem scRRows : FnScope ["self"] ["self"] (defScope sRRows) := ⟨rfl, rfl, rfl, by decide +kernel, rfl, by decide +kernel, by decide +kernel⟩
theorem ok_RRows {fd : FuncData} {f : Addr} {k : Nat} (F : Fun K "rows" "Rule.rows" sRRows f fd) (T : RuT K mg C fI fRo fWo fLe fEq) {fdC : FuncData} {fC : Addr} (GC : FnOk P w K mg base CX0 k fC fdC ["rows"] (spCopied K)) (kC : PySem.W.keepIn K (.ref fC) = true) (bC : Binds K fdC ["rows"] []) (gC : mg "copied_rows" = some (.ref fC)) (B : Blt mg) : FnOk P w K mg base CX0 (k + 1) f fd ["self"] (spRRows K C) := by
  refine F.ok scRRows (fun vs H Q E h => ?_) (fun cdv A outer s H vs Q E hr h => ?_)
  · obtain ⟨x, rss, n, rfl, _⟩ := h
    rfl
  · obtain ⟨x, rss, n, rfl, ⟨dx, ra, rs, hx, hw⟩, hl, q⟩ := h
    refine ⟨_, pss_one (ps_ret (pe_call GC hr (by rfl) gC kC bC .nil pass0 (pa_cons (pe_fld (pv 0) rfl) pa_nil))), ?_⟩
    exact ⟨_, rfl, x, C, dx, _, .ref ra, rfl, hx, T.cl, T.nO, rfl, ra, rs, rss, n, rfl, hw, hl, q⟩
theorem scRWorlds : FnScope ["self"] ["self"] (defScope sRWorlds) := ⟨rfl, rfl, rfl, by decide +kernel, rfl, by decide +kernel, by decide +kernel⟩
theorem ok_RWorlds {fd : FuncData} {f : Addr} {k : Nat} (F : Fun K "worlds" "Rule.worlds" sRWorlds f fd) (T : RuT K mg C fI fRo fWo fLe fEq) (B : Blt mg) : FnOk P w K mg base CX0 (k + 1) f fd ["self"] (spRWorlds K C) := by
  refine F.ok scRWorlds (fun vs H Q E h => ?_) (fun cdv A outer s H vs Q E hr h => ?_)
  · obtain ⟨x, rss, n, rfl, _⟩ := h
    rfl
  · obtain ⟨x, rss, n, rfl, ⟨dx, ra, rs, hx, hw⟩, q⟩ := h
    refine ⟨_, pss_one (ps_ret (pe_callB call_len_seq (by rfl) B.len_ PySem.boot_len (pa_cons (pe_fld (pv 0) rfl) pa_nil))), ?_⟩
    refine ⟨_, rfl, x, C, dx, _, .ref ra, rfl, hx, T.cl, T.nO, rfl, ra, _, rfl, .inl (SqL.of hw.1), ?_⟩
    rw [List.length_map, hw.2.1]
    exact q
theorem scRLen : FnScope ["self"] ["self"] (defScope sRLen) := ⟨rfl, rfl, rfl, by decide +kernel, rfl, by decide +kernel, by decide +kernel⟩
theorem ok_RLen {fd : FuncData} {f : Addr} {k : Nat} (F : Fun K "__len__" "Rule.__len__" sRLen f fd) (T : RuT K mg C fI fRo fWo fLe fEq) (B : Blt mg) : FnOk P w K mg base CX0 (k + 1) f fd ["self"] (spRLen K C) := by
  refine F.ok scRLen (fun vs H Q E h => ?_) (fun cdv A outer s H vs Q E hr h => ?_)
  · obtain ⟨x, rss, n, m, rfl, _⟩ := h
    rfl
  · obtain ⟨x, rss, n, m, rfl, ⟨dx, ra, rs, hx, hw⟩, hg, q⟩ := h
    refine ⟨_, pss_one (ps_ret (pe_callB call_len_seq (by rfl) B.len_ PySem.boot_len (pa_cons (pe_ix ix_list (pe_fld (pv 0) rfl) pe_int (fun _ _ => rfl)) pa_nil))), ?_⟩
    have h0 : 0 < rs.length := by have := hg.w1; rw [hw.2.1]; omega
    have er : rs[0]? = some rs[0] := List.getElem?_eq_getElem h0
    obtain ⟨cs, qs, e1, e2, e3⟩ := hw.2.2 0 _ er
    refine ⟨_, rfl, x, C, dx, _, .ref ra, rfl, hx, T.cl, T.nO, rfl, ra, _, 0, .ref rs[0], rfl, rfl, SqL.of hw.1, atI_nat (j := 0) (by rw [List.getElem?_map, er]; rfl), rs[0], cs, rfl, .inl (SqL.of e2), ?_⟩
    rw [e3.len, (hg.row qs (List.mem_of_getElem? e1)).1]
    exact q
/-- Rule(rows) of good rows -/
theorem mk_rule {H : Hp} {a : Addr} {rs : List Addr} {rss : List (List Rat)} {n m : Nat} {Q : VK} (hw : RwL K H a rs rss n) (hg : Good rss m) (hn : n ≤ 280) (q : ∀ x H', Same H H' → H x = none → IsRule K H' C x rss n → Q (.ref x) H') :
    ∀ x dx, H x = none → H dx = none → dx ≠ x → spInit K C (.ref x :: ([V.ref a] ++ [])) (upd (upd H dx (.own x)) x (.ins C dx [])) (fun v H2 => v = .non ∧ Q (.ref x) H2) E0 := by
  intro x dx hx hdx hne
  have s1 := same_new hdx (.own x)
  have hx1 : (upd H dx (.own x)) x = none := by rw [upd_ne (Ne.symm hne)]; exact hx
  have s2 := same_new hx1 (.ins C dx [])
  refine ⟨x, a, dx, rs, rss, n, m, rfl, upd_same, hw.same (s1.trans s2), hg, hn, fun ra rs' H' kp hx' hw' => ⟨rfl, q x H' (fun b o e => ?_) hx ⟨dx, ra, rs', hx', hw'⟩⟩⟩
  exact kp b o (ne_of_none e hx) ((s1.trans s2) _ _ e)
end
end K13

set_option Elab.async false
set_option linter.all false
set_option maxRecDepth 100000
set_option maxHeartbeats 4000000
namespace K13
open PySem PySem.Spec PyProof.Rows L2 BX EXB Co Ru
open Fr (Bd)
/-- the class and what its making asks -/
structure RuD (P : Program) (w : World) (K : PySem.W.Frag) (mg : Str → Option Value) (base : Heap) (C fI fRo fWo fLe fEq : Addr) (k : Nat) : Prop where
  T : RuT K mg C fI fRo fWo fLe fEq
  init : ∃ fd, FnOk P w K mg base CX0 k fI fd ["self", "rows"] (spInit K C) ∧ Binds K fd ["self", "rows"] []
  rows : ∃ fd, FnOk P w K mg base CX0 k fRo fd ["self"] (spRRows K C) ∧ Binds K fd ["self"] []
  worlds : ∃ fd, FnOk P w K mg base CX0 k fWo fd ["self"] (spRWorlds K C) ∧ Binds K fd ["self"] []
  len : ∃ fd, FnOk P w K mg base CX0 k fLe fd ["self"] (spRLen K C) ∧ Binds K fd ["self"] []
def spToldRow (K : PySem.W.Frag) : Sp := fun vs H Q _ => ∃ w i : Nat, vs = [.int (i : Int), .int (w : Int)] ∧ w ≤ 5 ∧ ∀ D cs H', Same H H' → H D = none → H' D = some (.lst cs) → FrN K H' 1 cs (unit w i) → Q (.ref D) H'
theorem good_silence {w : Nat} (h1 : 1 ≤ w) (h5 : w ≤ 5) : Good (List.replicate w [1]) 1 := by
  refine ⟨by rw [List.length_replicate]; exact h1, by rw [List.length_replicate]; exact h5, by decide, by decide, fun qs hq => ?_⟩
  rw [List.eq_of_mem_replicate hq]
  exact ⟨rfl, fun q hq => by rw [List.mem_singleton.mp hq]; decide, by rw [List.sum_cons, List.sum_nil, Rat.add_zero]⟩
theorem good_all {w : Nat} (h1 : 1 ≤ w) (h5 : w ≤ 5) : Good ((List.range w).map (unit w)) w := by
  refine ⟨by rw [List.length_map, List.length_range]; exact h1, by rw [List.length_map, List.length_range]; exact h5, h1, by omega, fun qs hq => ?_⟩
  obtain ⟨i, hi, rfl⟩ := List.mem_map.mp hq
  exact unit_ok (List.mem_range.mp hi)
theorem bd_one : Bd 1 (1 : Rat) := ⟨by decide, by decide⟩
theorem bd_nul : Bd 1 (0 : Rat) := ⟨by decide, by decide⟩
def spRowB (K : PySem.W.Frag) : Sp := fun vs H Q _ => ∃ (r1 r2 : Addr) (c1 c2 : List V) (q1 q2 : List Rat) (n1 n2 : Nat), vs = [.ref r1, .ref r2] ∧ H r1 = some (.lst c1) ∧ FrN K H n1 c1 q1 ∧ H r2 = some (.lst c2) ∧ FrN K H n2 c2 q2 ∧ n1 + n2 ≤ 280 ∧ q1.length ≤ 30 ∧ q2.length ≤ 30 ∧
  ∀ D cs H', Same H H' → H D = none → H' D = some (.lst cs) → FrN K H' (n1 + n2) cs (rowB q1 q2) → Q (.ref D) H'
theorem rowB_snoc (q1 : List Rat) (s : Rat) (q2 : List Rat) : rowB (q1 ++ [s]) q2 = rowB q1 q2 ++ q2.map fun o => s * o := by
  unfold rowB
  rw [List.flatMap_append, List.flatMap_cons, List.flatMap_nil, List.append_nil]
theorem good_beside {r1 r2 : List (List Rat)} {m1 m2 : Nat} (g1 : Good r1 m1) (g2 : Good r2 m2) (hl : r1.length = r2.length) (hm : m1 * m2 ≤ 30) : Good (List.zipWith rowB r1 r2) (m1 * m2) := by
  refine ⟨by rw [List.length_zipWith, ← hl, Nat.min_self]; exact g1.w1, by rw [List.length_zipWith, ← hl, Nat.min_self]; exact g1.w5, ?_, hm, fun qs hq => ?_⟩
  · exact Nat.mul_pos g1.m1 g2.m1
  · obtain ⟨i, hi, e⟩ := List.getElem_of_mem hq
    rw [List.getElem_zipWith] at e
    rw [← e]
    exact rowB_ok (g1.row _ (List.getElem_mem _)) (g2.row _ (List.getElem_mem _))
def gv (gs : List Nat) : List V := gs.map fun (g : Nat) => V.int (g : Int)
def spGrpRow (K : PySem.W.Frag) : Sp := fun vs H Q _ => ∃ (r gl : Addr) (cs : List V) (qs : List Rat) (gs : List Nat) (n many : Nat), vs = [.ref r, .ref gl, .int (many : Int)] ∧ H r = some (.lst cs) ∧ FrN K H n cs qs ∧ H gl = some (.lst (gv gs)) ∧ gs.length = qs.length ∧ qs.length ≤ 30 ∧ (∀ g ∈ gs, g < many) ∧ many ≤ 30 ∧ n ≤ 8 ∧
  ∀ D cs' H', Same H H' → H D = none → H' D = some (.lst cs') → FrN K H' 280 cs' (grp qs gs (List.replicate many 0)) → Q (.ref D) H'
theorem grp_snoc : ∀ (qs : List Rat) (gs : List Nat) (s : Rat) (g : Nat) (told : List Rat), qs.length = gs.length → grp (qs ++ [s]) (gs ++ [g]) told = (grp qs gs told).set g ((grp qs gs told).getD g 0 + s)
  | [], [], s, g, told, _ => rfl
  | [], _ :: _, _, _, _, h => by simp at h
  | _ :: _, [], _, _, _, h => by simp at h
  | q :: qs, x :: gs, s, g, told, h => by
    show grp (qs ++ [s]) (gs ++ [g]) _ = _
    rw [grp_snoc qs gs s g _ (by simpa using h)]
    rfl
theorem good_grouped {rss : List (List Rat)} {gs : List Nat} {m many : Nat} (hg : Good rss m) (hl : gs.length = m) (hm : ∀ g ∈ gs, g < many) (h1 : 1 ≤ many) (h30 : many ≤ 30) : Good (rss.map fun qs => grp qs gs (List.replicate many 0)) many := by
  refine ⟨by rw [List.length_map]; exact hg.w1, by rw [List.length_map]; exact hg.w5, h1, h30, fun qs hq => ?_⟩
  obtain ⟨r, hr, rfl⟩ := List.mem_map.mp hq
  exact grp_ok (hg.row r hr) hl hm
theorem rep_flat (k : Nat) (v : V) : (List.replicate k [v]).flatten = List.replicate k v := by
  induction k with
  | zero => rfl
  | succ k ih => rw [List.replicate_succ, List.flatten_cons, ih, List.replicate_succ]; rfl
section
variable {P : Program} {w : World} {K : PySem.W.Frag} {mg : Str → Option Value} {base : Heap} {C fI fRo fWo fLe fEq : Addr}
theorem scToldRow : FnScope ["world", "worlds", "word"] ["world", "worlds"] (defScope sToldRow) := ⟨rfl, rfl, rfl, by decide +kernel, rfl, by decide +kernel, by decide +kernel⟩
theorem ok_ToldRow {f : Addr} {fd : FuncData} {k : Nat} (F : Fun K "told_row" "told_row" sToldRow f fd) (B : Blt mg) : FnOk P w K mg base CX0 (k + 1) f fd ["world", "worlds"] (spToldRow K) := by
  refine F.ok scToldRow (fun vs H Q E h => ?_) (fun cdv A outer s H vs Q E hr h => ?_)
  · obtain ⟨ww, i, rfl, _⟩ := h
    rfl
  · obtain ⟨ww, i, rfl, h5, q⟩ := h
    refine ⟨_, pss_one (ps_ret (pe_lc (own := [("word", 2)]) (g := gName 2) (tt := tYes) (te := tIf (tTest (tOp rEq (tVar 2) (tVar 0))) (tTup (tCons (tC (.int 1)) (tCons (tC (.int 1)) tNil))) (tTup (tCons (tC (.int 0)) (tCons (tC (.int 1)) tNil)))) rfl scToldRow.nd (pi_range1 (by rfl) B.range_ (pa_cons (pv 1) pa_nil))
        (blkOk_by (N := ["world", "worlds", "word"]) (sc := defScope sToldRow) (by decide +kernel)) (fun _ _ _ _ _ => pg_name (i := 2) scToldRow.nd rfl (Or.inl rfl)) (fun _ _ _ _ _ => pts_nil) (fun _ _ _ _ _ => pe_ifExp (pt_cmpR op_eq (pv 2) (pv 0) (nomark _)) (pe_tup (pa_cons pe_int (pa_cons pe_int pa_nil))) (pe_tup (pa_cons pe_int (pa_cons pe_int pa_nil)))))), ?_⟩
    refine ⟨_, rfl, (ww : Int), rfl, by omega, by omega, fun L hL => lc_range (lo := 0) (n := (ww : Int).toNat) (fun j H' => ∃ cs, H' L = some (.lst cs) ∧ Same H H' ∧ FrN K H' 1 cs ((List.range j).map fun j => if j = i then 1 else 0)) ⟨[], upd_same, same_new hL _, FrN.nil⟩ ?_ ?_⟩
    · rintro j H' hj ⟨cs, hcs, s5, hf⟩
      refine ⟨rfl, ?_⟩
      unfold tYes
      dsimp only
      refine iteT ?_
      have go : ∀ (q : Rat) (t : Addr), Bd 1 q → (if j = i then 1 else 0) = q → H' t = none → ∃ acc, (upd H' t (.tup (rp q))) L = some (.lst acc) ∧ acc.length < sizeLine ∧ ∃ cs', (upd (upd H' t (.tup (rp q))) L (.lst (acc ++ [V.ref t]))) L = some (.lst cs') ∧ Same H (upd (upd H' t (.tup (rp q))) L (.lst (acc ++ [V.ref t]))) ∧ FrN K (upd (upd H' t (.tup (rp q))) L (.lst (acc ++ [V.ref t]))) 1 cs' ((List.range (j + 1)).map fun j => if j = i then 1 else 0) := by
        intro q t hb eq ht
        have s6 := same_new ht (.tup (rp q))
        refine ⟨cs, s6 _ _ hcs, ?_, _, upd_same, fun b u e => ?_, ?_⟩
        · rw [hf.len, List.length_map, List.length_range]
          exact small1000 (by omega)
        · rw [upd_ne (ne_of_none e hL)]
          exact s6 _ _ (s5 _ _ e)
        · rw [List.range_succ, List.map_append, List.map_singleton, eq]
          exact ((hf.same s6).snoc (SqT.of upd_same) hb).keep (keep_lst (s6 _ _ hcs))
      refine ⟨_, rfl, _, rfl, rfl, _, rfl, ite2 (fun c => ?_) (fun c => ?_)⟩
      · have e : j = i := by have := V.int.inj (of_decide_eq_true c); omega
        exact ⟨(by show 2 ≤ sizeLine; decide), fun t ht => go 1 t bd_one (if_pos e) ht⟩
      · have e : j ≠ i := fun z => c (decide_eq_true (by rw [z, Int.zero_add]))
        exact ⟨(by show 2 ≤ sizeLine; decide), fun t ht => go 0 t bd_nul (if_neg e) ht⟩
    · rintro H' ⟨cs, hcs, s5, hf⟩
      rw [Int.toNat_natCast] at hf
      exact q L cs H' s5 hL hcs hf
theorem scRowB : FnScope ["row", "second", "share", "other"] ["row", "second"] (defScope sRowB) := ⟨rfl, rfl, rfl, by decide +kernel, rfl, by decide +kernel, by decide +kernel⟩
theorem ok_RowB {f fT : Addr} {fd fdT : FuncData} {k : Nat} (F : Fun K "row_beside" "row_beside" sRowB f fd) (GT : FnOk P w K mg base CX0 k fT fdT ["one", "other"] (spBin K (· * ·))) (kT : PySem.W.keepIn K (.ref fT) = true) (bT : Binds K fdT ["one", "other"] []) (gT : mg "times" = some (.ref fT)) : FnOk P w K mg base CX0 (k + 1) f fd ["row", "second"] (spRowB K) := by
  refine F.ok scRowB (fun vs H Q E h => ?_) (fun cdv A outer s H vs Q E hr h => ?_)
  · obtain ⟨r1, r2, c1, c2, q1, q2, n1, n2, rfl, _⟩ := h
    rfl
  · obtain ⟨r1, r2, c1, c2, q1, q2, n1, n2, rfl, h1, f1, h2, f2, hn, l1, l2, q⟩ := h
    refine ⟨_, pss_one (ps_ret (pe_lc2 (own := [("share", 2), ("other", 3)]) (vs1 := [3]) (g := gName 2) (tt := tYes) (wi1 := iList K (tVar 1)) (g1 := gName 3) (tt1 := tYes) (te := tCall (spBin K (· * ·)) [] E0 (tCons (tVar 2) (tCons (tVar 3) tNil))) rfl scRowB.nd (pi_list (pv 0))
      (blkOk_by (N := ["row", "second", "share", "other"]) (sc := defScope sRowB) (by decide +kernel)) (by decide) (fun _ _ _ _ _ => pg_name (i := 2) scRowB.nd rfl (Or.inl rfl)) (fun _ _ _ _ _ => pts_nil) (fun _ _ _ _ _ => pi_list (pv 1)) (fun _ _ _ _ _ => pg_name (i := 3) scRowB.nd rfl (Or.inl rfl)) (fun _ _ _ _ _ => pts_nil)
      (fun _ _ _ _ _ => pe_call GT hr (by rfl) gT kT bT .nil pass0 (pa_cons (pv 2) (pa_cons (pv 3) pa_nil))))), ?_⟩
    have el1 : c1.length = q1.length := f1.len
    have el2 : c2.length = q2.length := f2.len
    refine ⟨_, rfl, r1, rfl, ⟨_, SqL.of h1⟩, fun D hD => ?_⟩
    refine ⟨fun i m H' => m = c1.length - i ∧ i ≤ c1.length ∧ ∃ cs, H' D = some (.lst cs) ∧ Same H H' ∧ FrN K H' (n1 + n2) cs (rowB (q1.take i) q2), ⟨_, rfl, Nat.zero_le _, [], upd_same, same_new hD _, FrN.nil⟩, ?_⟩
    rintro i m H1 ⟨rfl, hi, cs, hcs, s1, hf⟩
    by_cases hlt : i < c1.length
    · refine .inr ⟨⟨c1, c1[i], SqL.of (s1 _ _ h1), List.getElem?_eq_getElem hlt⟩, fun H' => ∃ cs, H' D = some (.lst cs) ∧ Same H H' ∧ FrN K H' (n1 + n2) cs (rowB (q1.take (i + 1)) q2), fun H' hN => ⟨c1.length - (i + 1), by omega, rfl, hlt, hN⟩, ?_⟩
      rintro x H' ⟨rfl, hx⟩
      obtain ⟨a, sh, e1, rfl, e3, e4⟩ := f1.at_ i x (hx c1 (SqL.of (s1 _ _ h1)))
      refine ⟨rfl, ?_⟩
      unfold tYes
      dsimp only
      refine iteT ?_
      refine ⟨_, rfl, r2, rfl, ⟨_, SqL.of (s1 _ _ h2)⟩, ?_⟩
      refine ⟨fun j kk H' => kk = c2.length - j ∧ j ≤ c2.length ∧ ∃ cs, H' D = some (.lst cs) ∧ Same H H' ∧ FrN K H' (n1 + n2) cs (rowB (q1.take i) q2 ++ (q2.take j).map fun o => sh * o), ⟨_, rfl, Nat.zero_le _, cs, hcs, s1, by rw [List.take_zero, List.map_nil, List.append_nil]; exact hf⟩, ?_⟩
      rintro j kk H2 ⟨rfl, hj, cs2, hcs2, s2, hf2⟩
      by_cases hjt : j < c2.length
      · refine .inr ⟨⟨c2, c2[j], SqL.of (s2 _ _ h2), List.getElem?_eq_getElem hjt⟩, fun H' => ∃ cs, H' D = some (.lst cs) ∧ Same H H' ∧ FrN K H' (n1 + n2) cs (rowB (q1.take i) q2 ++ (q2.take (j + 1)).map fun o => sh * o), fun H' hN => ⟨c2.length - (j + 1), by omega, rfl, hjt, hN⟩, ?_⟩
        rintro y H' ⟨rfl, hy⟩
        obtain ⟨b, ot, g1, rfl, g3, g4⟩ := f2.at_ j y (hy c2 (SqL.of (s2 _ _ h2)))
        refine ⟨rfl, ?_⟩
        refine iteT ?_
        refine ⟨_, rfl, _, rfl, a, b, sh, ot, n1, n2, rfl, seqT s2 e3, seqT s2 g3, e4, g4, by omega, fun t ht => ?_⟩
        have s3 := same_new ht (.tup (rp (sh * ot)))
        refine ⟨cs2, s3 _ _ hcs2, ?_, _, upd_same, fun bb u e => ?_, ?_⟩
        · rw [hf2.len, List.length_append, rowB_len, List.length_map, List.length_take, List.length_take]
          have : min i q1.length * q2.length ≤ 30 * 30 := Nat.mul_le_mul (by omega) l2
          exact small1000 (by omega)
        · rw [upd_ne (ne_of_none e hD)]
          exact s3 _ _ (s2 _ _ e)
        · rw [List.take_add_one, g1, List.map_append, ← List.append_assoc]
          exact ((hf2.same s3).snoc (q := sh * ot) (SqT.of upd_same) (Fr.bd_mul e4 g4)).keep (keep_lst (s3 _ _ hcs2))
      · have ej : j = c2.length := by omega
        refine .inl ⟨⟨c2, SqL.of (s2 _ _ h2), by omega⟩, cs2, hcs2, s2, ?_⟩
        rw [List.take_add_one, e1]
        rw [ej, el2, List.take_length] at hf2
        rw [show (some sh).toList = [sh] from rfl, rowB_snoc]
        exact hf2
    · have ei : i = c1.length := by omega
      refine .inl ⟨⟨c1, SqL.of (s1 _ _ h1), by omega⟩, ?_⟩
      rw [ei, el1, List.take_length] at hf
      exact q D cs H1 s1 hD hcs hf
theorem frn_rep {H : Hp} {t : Addr} {k : Nat} (ht : SqT K H t (rp 0)) : FrN K H 1 (List.replicate k (V.ref t)) (List.replicate k 0) := by
  refine ⟨by rw [List.length_replicate, List.length_replicate], fun i v e => ?_⟩
  have hi : i < k := by
    have := (List.getElem?_eq_some_iff.mp e).1
    rw [List.length_replicate] at this
    exact this
  rw [List.getElem?_replicate, if_pos hi] at e
  exact ⟨t, 0, by rw [List.getElem?_replicate, if_pos hi], (Option.some.inj e).symm, ht, bd_nul⟩
theorem scGrpRow : FnScope ["row", "groups", "many", "told", "share", "group"] ["row", "groups", "many"] (defScope sGrpRow) := ⟨rfl, rfl, rfl, by decide +kernel, rfl, by decide +kernel, by decide +kernel⟩
theorem ok_GrpRow {f fP : Addr} {fd fdP : FuncData} {k : Nat} (F : Fun K "grouped_row" "grouped_row" sGrpRow f fd) (GP : FnOk P w K mg base CX0 k fP fdP ["one", "other"] (spBin K (· + ·))) (kP : PySem.W.keepIn K (.ref fP) = true) (bP : Binds K fdP ["one", "other"] []) (gP : mg "plus" = some (.ref fP)) (B : Blt mg) : FnOk P w K mg base CX0 (k + 1) f fd ["row", "groups", "many"] (spGrpRow K) := by
  refine F.ok scGrpRow (fun vs H Q E h => ?_) (fun cdv A outer s H vs Q E hr h => ?_)
  · obtain ⟨r, gl, cs, qs, gs, n, many, rfl, _⟩ := h
    rfl
  · obtain ⟨r, gl, cs, qs, gs, n, many, rfl, h1, f1, h2, hlen, h30, hg, hm, hn, q⟩ := h
    refine ⟨_, pss_cons (ps_set (i := 3) scGrpRow.nd rfl (.inl rfl) (pe_op op_rep (pe_lst (pa_cons (pe_tup (pa_cons pe_int (pa_cons pe_int pa_nil))) pa_nil)) (pv 2)))
      (pss_cons (ps_for PassesOwn.never rfl (pi_zip (by rfl) B.zip_ (pa_cons (pv 0) (pa_cons (pv 1) pa_nil))) (pg_tup rfl (pgs_cons (pg_name (i := 4) scGrpRow.nd rfl (.inl rfl)) (pgs_cons (pg_name (i := 5) scGrpRow.nd rfl (.inl rfl)) pgs_nil)))
        (pss_one (ps_asg (pe_call GP hr (by rfl) gP kP bP .nil pass0 (pa_cons (pe_ix ix_list (pv 3) (pv 5) (fun _ _ => rfl)) (pa_cons (pv 4) pa_nil))) (pg_sub (pv 3) (pv 5) set_list))))
      (pss_one (ps_ret (pv 3)))), ?_⟩
    refine ⟨(by show 2 ≤ sizeLine; decide), fun t ht => ⟨(by show 1 ≤ sizeLine; decide), fun l hl => ?_⟩⟩
    have s1 := same_new ht (.tup [V.int 0, V.int 1])
    have s2 := same_new hl (.lst [V.ref t])
    refine ⟨_, rfl, l, (many : Int), [V.ref t], rfl, rfl, upd_same, by omega, by omega, ?_, fun td htd => ?_⟩
    · rw [Int.toNat_natCast]
      show 1 * many ≤ sizeLine
      exact Nat.le_of_lt (small1000 (by omega))
    rw [rep_flat, Int.toNat_natCast]
    have s3 := same_new htd (.lst (List.replicate many (V.ref t)))
    have sa := s1.trans (s2.trans s3)
    have f0 : FrN K (upd (upd (upd H t (.tup [V.int 0, V.int 1])) l (.lst [V.ref t])) td (.lst (List.replicate many (V.ref t)))) 1 (List.replicate many (V.ref t)) (List.replicate many 0) := frn_rep (seqT (s2.trans s3) (SqT.of upd_same))
    have htd0 : H td = none := (s1.trans s2).free htd
    have lz : cs.length = (gv gs).length := by rw [f1.len, ← hlen]; exact (List.length_map _).symm
    refine ⟨_, rfl, _, rfl, r, gl, _, _, rfl, SqL.of (sa _ _ h1), SqL.of (sa _ _ h2), RZ.for_zipL (K := K) (a := r) (b := gl) (xs := cs) (ys := gv gs) lz (fun i σ H' => ∃ (y4 y5 : Option V) (cs' : List V), σ = [some (.ref r), some (.ref gl), some (.int (many : Int)), some (.ref td), y4, y5] ∧ H' td = some (.lst cs') ∧ Same H H' ∧ FrN K H' (1 + 9 * i) cs' (grp (qs.take i) (gs.take i) (List.replicate many 0)))
      ⟨none, none, _, rfl, upd_same, sa, f0⟩ (fun i σ H' ⟨_, _, _, _, _, s5, _⟩ => ⟨SqL.of (s5 _ _ h1), SqL.of (s5 _ _ h2)⟩) ?_ ?_⟩
    · rintro i x y T σ H1 ex ey ⟨y4, y5, cs', rfl, htd', s5, hf⟩ nT
      obtain ⟨a, z, e1, rfl, e3, e4⟩ := f1.at_ i x ex
      have ey' : (gs.map fun (g : Nat) => V.int (g : Int))[i]? = some y := ey
      rw [List.getElem?_map] at ey'
      obtain ⟨g, eg, rfl⟩ : ∃ g, gs[i]? = some g ∧ y = .int (g : Int) := by
        cases e : gs[i]? with
        | none => rw [e] at ey'; cases ey'
        | some r => rw [e] at ey'; exact ⟨r, rfl, (Option.some.inj ey').symm⟩
      have hgm := hg g (List.mem_of_getElem? eg)
      have hi : i < qs.length := (List.getElem?_eq_some_iff.mp e1).1
      have sT := same_new nT (.tup [V.ref a, V.int (g : Int)])
      have lenT : (grp (qs.take i) (gs.take i) (List.replicate many 0)).length = many := by rw [grp_len, List.length_replicate]
      have hgl : g < cs'.length := by rw [hf.len, lenT]; exact hgm
      obtain ⟨b, u, u1, u2, u3, u4⟩ := hf.at_ g cs'[g] (List.getElem?_eq_getElem hgl)
      refine ⟨T, _, rfl, SqT.of upd_same, rfl, _, _, rfl, _, _, rfl, rfl, ?_⟩
      refine ⟨_, rfl, _, rfl, td, cs', (g : Int), .ref b, rfl, rfl, SqL.of (sT _ _ htd'), atI_nat (j := g) (by rw [List.getElem?_eq_getElem hgl, u2]), _, rfl, b, a, u, z, 1 + 9 * i, n, rfl, seqT sT u3, seqT (s5.trans sT) e3, u4, e4, by omega, fun p hp => ?_⟩
      have sp := same_new hp (.tup (rp (u + z)))
      refine ⟨_, rfl, _, rfl, td, cs', (g : Int), g, rfl, rfl, (sT.trans sp) _ _ htd', ?_, ?_⟩
      · unfold ixN
        rw [if_pos (by omega), if_pos (by omega)]
        rfl
      · refine ⟨_, _, _, rfl, upd_same, fun bb uu e => ?_, ?_⟩
        · rw [upd_ne (ne_of_none e htd0)]
          exact (sT.trans sp) _ _ (s5 _ _ e)
        · have eu : (grp (qs.take i) (gs.take i) (List.replicate many 0)).getD g 0 = u := by
            rw [List.getD_eq_getElem?_getD, u1]
            rfl
          rw [List.take_add_one, List.take_add_one, e1, eg]
          show FrN K _ _ _ (grp (qs.take i ++ [z]) (gs.take i ++ [g]) _)
          rw [grp_snoc _ _ _ _ _ (by rw [List.length_take, List.length_take, hlen]), eu]
          have fb : Bd (1 + 9 * (i + 1)) (u + z) := (Fr.bd_add u4 e4).mono (by omega)
          exact (((hf.same (sT.trans sp)).mono (by omega)).set (SqT.of upd_same) fb).keep (keep_lst ((sT.trans sp) _ _ htd'))
    · rintro σ H1 ⟨y4, y5, cs', rfl, htd', s5, hf⟩
      rw [f1.len, List.take_length, ← hlen, List.take_length] at hf
      exact ⟨_, rfl, q td cs' H1 s5 htd0 htd' (hf.mono (by omega))⟩
end
end K13

set_option Elab.async false
set_option linter.all false
set_option maxRecDepth 100000
set_option maxHeartbeats 4000000
namespace K13
open PySem PySem.Spec PyProof.Rows L2 BX EXB Co Ru
open Fr (Bd)
/-- the law's shares: of m words, small -/
def spShares (K : PySem.W.Frag) : Sp := fun vs H Q _ => ∃ (l : Addr) (z : Int) (m : Nat), vs = [.ref l, .int (m : Int)] ∧ H l = some (.lst [.int z]) ∧ 1 ≤ m ∧ m ≤ 30 ∧
  ∀ D cs qs z' H', SameB l H H' → H' l = some (.lst [.int z']) → H D = none → D ≠ l → H' D = some (.lst cs) → FrN K H' 8 cs qs → RowOk m qs → Q (.ref D) H'
def spRowsL (K : PySem.W.Frag) : Sp := fun vs H Q _ => ∃ (l : Addr) (z : Int) (ww up : Nat), vs = [.ref l, .int (ww : Int), .int (up : Int)] ∧ H l = some (.lst [.int z]) ∧ 1 ≤ ww ∧ ww ≤ 5 ∧ 1 ≤ up ∧ up ≤ 30 ∧
  ∀ D rs rss m z' H', New K H H' l D rs rss 8 → D ≠ l → H' l = some (.lst [.int z']) → Good rss m → rss.length = ww → m ≤ up → Q (.ref D) H'
/-- xs[i] by values, i from 0 on -/
def rGet0 (K : PySem.W.Frag) : V → V → Hp → VK → Prop := fun o i H Q => ∃ (p : Addr) (xs : List V) (j : Nat) (v : V), o = .ref p ∧ i = .int (j : Int) ∧ SqL K H p xs ∧ xs[j]? = some v ∧ Q v H
theorem pget_list {X : Cx} : PGet X (rGet0 X.K) := by
  intro pins s σ H o i ov iv Q I ro ri h
  obtain ⟨p, xs, j, z, rfl, rfl, hq, he, q⟩ := h
  cases ro
  obtain ⟨t, rfl⟩ := ri
  obtain ⟨its, r, pl, hz⟩ := I.list hq
  obtain ⟨w, ew, rw'⟩ := r.get he
  have hj : j < xs.length := (List.getElem?_eq_some_iff.mp he).1
  have hn := line63
  exact wpAny_getItem_list pl.isList (by omega) (by omega) (by rw [Int.toNat_natCast]; simpa using ew) ⟨z, H, I, rw', q⟩
/-! ### the law's shares -/
def shq (ns : List Int) : List Rat := ns.map fun x => Rat.divInt x ns.sum
theorem sum_divInt (S : Int) : ∀ ns : List Int, (ns.map fun x => Rat.divInt x S).sum = Rat.divInt ns.sum S
  | [] => by rw [List.map_nil, List.sum_nil, List.sum_nil, Rat.zero_divInt]
  | x :: ns => by
    rw [List.map_cons, List.sum_cons, List.sum_cons, sum_divInt S ns]
    by_cases h : S = 0
    · subst h
      rw [Rat.divInt_zero, Rat.divInt_zero, Rat.divInt_zero, Rat.add_zero]
    · rw [Rat.divInt_add_divInt _ _ h h, ← Int.add_mul, Rat.divInt_mul_right h]
theorem divInt_nn {x S : Int} (hx : 0 ≤ x) (hS : 0 < S) : 0 ≤ Rat.divInt x S := by
  rw [← Rat.num_nonneg, ← Fr.low_num hS]
  exact Int.fdiv_nonneg hx (by omega)
theorem divInt_one {S : Int} (hS : 0 < S) : Rat.divInt S S = 1 := by
  have h := Rat.divInt_mul_right (n := 1) (d := 1) (a := S) (by omega)
  rw [Int.one_mul] at h
  rw [h]
  rfl
theorem shq_ok {ns : List Int} {m : Nat} (hl : ns.length = m) (h0 : ∀ x ∈ ns, 0 ≤ x) (hS : 0 < ns.sum) : RowOk m (shq ns) := by
  refine ⟨by unfold shq; rw [List.length_map, hl], fun q hq => ?_, ?_⟩
  · obtain ⟨x, hx, rfl⟩ := List.mem_map.mp hq
    exact divInt_nn (h0 x hx) hS
  · unfold shq
    rw [sum_divInt, divInt_one hS]
theorem sum_le : ∀ (ns : List Int) (b : Int), (∀ x ∈ ns, x ≤ b) → ns.sum ≤ b * ns.length
  | [], b, _ => by simp
  | x :: ns, b, h => by
    have h1 := sum_le ns b fun y hy => h y (List.mem_cons_of_mem _ hy)
    have h2 := h x (List.mem_cons_self ..)
    rw [List.sum_cons, List.length_cons, Int.natCast_succ, Int.mul_add]
    omega
theorem sum_nn : ∀ (ns : List Int), (∀ x ∈ ns, 0 ≤ x) → 0 ≤ ns.sum
  | [], _ => by simp
  | x :: ns, h => by
    have h1 := sum_nn ns fun y hy => h y (List.mem_cons_of_mem _ hy)
    have h2 := h x (List.mem_cons_self ..)
    rw [List.sum_cons]
    omega
theorem set_sumI : ∀ (l : List Int) (g : Nat) (x : Int), l[g]? = some x → (l.set g (x + 1)).sum = l.sum + 1
  | [], g, x, h => by simp at h
  | y :: l, 0, x, h => by
    have e : y = x := Option.some.inj h
    subst e
    show ((y + 1) :: l).sum = _
    rw [List.sum_cons, List.sum_cons]
    omega
  | y :: l, g + 1, x, h => by
    show (y :: l.set g (x + 1)).sum = _
    rw [List.sum_cons, List.sum_cons, set_sumI l g x h]
    omega
theorem tab_at {d : Int} (h0 : 0 ≤ d) (h6 : d < 6) : ∃ v : Int, atI [V.int 0, V.int 1, V.int 1, V.int 2, V.int 3, V.int 5] d = some (V.int v) ∧ 0 ≤ v ∧ v ≤ 5 := by
  have : d = 0 ∨ d = 1 ∨ d = 2 ∨ d = 3 ∨ d = 4 ∨ d = 5 := by omega
  rcases this with rfl | rfl | rfl | rfl | rfl | rfl
  · exact ⟨_, atI_nat (j := 0) rfl, by decide, by decide⟩
  · exact ⟨_, atI_nat (j := 1) rfl, by decide, by decide⟩
  · exact ⟨_, atI_nat (j := 2) rfl, by decide, by decide⟩
  · exact ⟨_, atI_nat (j := 3) rfl, by decide, by decide⟩
  · exact ⟨_, atI_nat (j := 4) rfl, by decide, by decide⟩
  · exact ⟨_, atI_nat (j := 5) rfl, by decide, by decide⟩
/-! ### what stays as the digits go -/
theorem ne_num {K : PySem.W.Frag} {H : Hp} {l : Addr} {z : Int} {a : Addr} {rs : List Addr} {rss : List (List Rat)} {n : Nat} (hl : H l = some (.lst [.int z])) (h : RwL K H a rs rss n) : a ≠ l := fun e => by
  have := h.1
  rw [e, hl] at this
  cases rs with
  | nil => cases this
  | cons r rs => cases this
theorem nr_num {K : PySem.W.Frag} {H : Hp} {l : Addr} {z : Int} {rs : List Addr} {rss : List (List Rat)} {n : Nat} (hl : H l = some (.lst [.int z])) (h : RowsAt K H n rs rss) : l ∉ rs := fun hm => by
  obtain ⟨j, hj, e⟩ := List.getElem_of_mem hm
  obtain ⟨cs, qs, e1, e2, e3⟩ := h.2 j l (by rw [List.getElem?_eq_getElem hj, e])
  rw [hl] at e2
  cases e2
  obtain ⟨a, q, _, e, _⟩ := e3.at_ 0 _ rfl
  cases e
theorem RwL.keepB {K : PySem.W.Frag} {H H' : Hp} {l : Addr} {z : Int} {a : Addr} {rs : List Addr} {rss : List (List Rat)} {n : Nat} (h : RwL K H a rs rss n) (hl : H l = some (.lst [.int z])) (s : SameB l H H') : RwL K H' a rs rss n :=
  ⟨s _ _ (ne_num hl h) h.1, h.2.keep s hl (nr_num hl h.2)⟩
theorem IsRule.keepB {K : PySem.W.Frag} {H H' : Hp} {C x l : Addr} {z : Int} {rss : List (List Rat)} {n : Nat} (h : IsRule K H C x rss n) (hl : H l = some (.lst [.int z])) (s : SameB l H H') : IsRule K H' C x rss n := by
  obtain ⟨dx, ra, rs, e1, e2⟩ := h
  exact ⟨dx, ra, rs, s _ _ (ne_of e1 hl (by intro w; cases w)) e1, RwL.keepB e2 hl s⟩
theorem New.pre {K : PySem.W.Frag} {H00 H0 H : Hp} {ex D : Addr} {rs : List Addr} {rss : List (List Rat)} {n : Nat} (h : New K H0 H ex D rs rss n) (s : SameB ex H00 H0) (hD : D ≠ ex) : New K H00 H ex D rs rss n := by
  refine ⟨h.at_, h.nd, h.ne, fun x hx => ?_, ?_, h.nx, s.trans h.keep, h.rows⟩
  · cases e : H00 x with
    | none => rfl
    | some o =>
      have := s x o (fun z => h.nx (by rw [← z]; exact hx)) e
      rw [h.fresh x hx] at this
      cases this
  · cases e : H00 D with
    | none => rfl
    | some o =>
      have := s D o hD e
      rw [h.fD] at this
      cases this
section
variable {P : Program} {w : World} {K : PySem.W.Frag} {mg : Str → Option Value} {base : Heap} {C fI fRo fWo fLe fEq : Addr}
theorem scLeft : FnScope ["_law_cell", "_law_left_here", "_law_number", "_law_turn"] ["_law_cell"] (defScope sLeft) := ⟨rfl, rfl, rfl, by decide +kernel, rfl, by decide +kernel, by decide +kernel⟩
theorem ok_left {f : Addr} {fd : FuncData} {k : Nat} (F : Fun K "_law_left" "_law_left" sLeft f fd) (B : Blt mg) : FnOk P w K mg base CX0 (k + 1) f fd ["_law_cell"] spLeft := by
  refine F.ok scLeft (fun vs H Q E h => ?_) (fun cdv A outer s H vs Q E hr h => ?_)
  · obtain ⟨c, rfl, _⟩ := h
    rfl
  · obtain ⟨c, rfl, q⟩ := h
    refine ⟨_, pss_cons (ps_set (i := 1) scLeft.nd rfl (.inl rfl) (pe_callB call_abs (by rfl) B.abs_ (by decide +kernel) (pa_cons (pv 0) pa_nil)))
      (pss_cons (ps_if (pt_cmpR op_lt (pv 1) (pe_op op_pow pe_int pe_int) (nomark _))
        (pss_cons (ps_set (i := 2) scLeft.nd rfl (.inl rfl) (pv 0))
        (pss_one (ps_for PassesOwn.never rfl (pi_range1 (by rfl) B.range_ (pa_cons pe_int pa_nil)) (pg_name (i := 3) scLeft.nd rfl (.inl rfl))
          (pss_cons (ps_set (i := 2) scLeft.nd rfl (.inl rfl) (pe_op op_mod (pe_op op_mul (pe_op op_add (pe_op op_mod (pv 2) pe_int) pe_int) pe_int) pe_int))
          (pss_cons (ps_set (i := 2) scLeft.nd rfl (.inl rfl) (pe_op op_add (pe_op op_mod (pe_op op_mul (pv 2) pe_int) pe_int) (pv 3)))
          (pss_one (ps_set (i := 1) scLeft.nd rfl (.inl rfl) (pe_op op_add (pe_op op_mul (pv 1) pe_int) (pv 2)))))))))
        pss_nil)
      (pss_one (ps_ret (pe_lst (pa_cons (pv 1) pa_nil))))), ?_⟩
    refine ⟨_, rfl, c, rfl, ?_⟩
    refine ⟨_, rfl, 10, 18, rfl, rfl, ⟨by decide, by decide, by decide⟩, _, _, rfl, rfl, _, rfl, ite2 (fun z => ?_) (fun z => ?_)⟩
    · refine ⟨_, rfl, 40, rfl, by decide, by decide, for_range (lo := 0) (n := 40) (fun i σ H' => ∃ (n m : Int) (y : Option V), σ = [some (.int c), some (.int n), some (.int m), y] ∧ H' = H) ⟨_, _, none, rfl, rfl⟩ ?_ ?_⟩
      · rintro i σ H' hi ⟨n, m, y, rfl, rfl⟩
        refine ⟨_, rfl, _, _, rfl, rfl, (by show (0 : Int) < 2147483629; decide), _, _, rfl, rfl, _, _, rfl, rfl, .inr ⟨by decide, by decide⟩, _, _, rfl, rfl, (by show (0 : Int) < 2147483629; decide), ?_⟩
        refine ⟨_, rfl, _, _, rfl, rfl, .inr ⟨by decide, by decide⟩, _, _, rfl, rfl, (by show (0 : Int) < 2147483647; decide), _, rfl, _, _, rfl, rfl, ?_⟩
        refine ⟨_, rfl, _, _, rfl, rfl, .inr ⟨by decide, by decide⟩, _, rfl, _, _, rfl, rfl, ?_⟩
        exact ⟨_, _, _, rfl, rfl⟩
      · rintro σ H' ⟨n, m, y, rfl, rfl⟩
        exact ⟨_, rfl, (by show 1 ≤ sizeLine; decide), fun p hp => q p n hp⟩
    · exact ⟨_, rfl, (by show 1 ≤ sizeLine; decide), fun p hp => q p _ hp⟩
theorem scDigit : FnScope ["_law_left_here", "_law_many", "_law_found"] ["_law_left_here", "_law_many"] (defScope sDigit) := ⟨rfl, rfl, rfl, by decide +kernel, rfl, by decide +kernel, by decide +kernel⟩
theorem ok_digit {f : Addr} {fd : FuncData} {k : Nat} (F : Fun K "_law_digit" "_law_digit" sDigit f fd) : FnOk P w K mg base CX0 (k + 1) f fd ["_law_left_here", "_law_many"] spDigit := by
  refine F.ok scDigit (fun vs H Q E h => ?_) (fun cdv A outer s H vs Q E hr h => ?_)
  · obtain ⟨l, n, m, rfl, _⟩ := h
    rfl
  · obtain ⟨l, n, m, rfl, hl, hm, hmb, q⟩ := h
    refine ⟨_, pss_cons (ps_set (i := 2) scDigit.nd rfl (.inl rfl) (pe_op op_mod (pe_ix ix_list (pv 0) pe_int (fun _ _ => rfl)) (pv 1)))
      (pss_cons (ps_asg (pe_op op_fdivW (pe_ix ix_list (pv 0) pe_int (fun _ _ => rfl)) (pv 1)) (pg_sub (pv 0) pe_int set_list))
      (pss_one (ps_ret (pv 2)))), ?_⟩
    refine ⟨_, rfl, l, _, 0, .int n, rfl, rfl, SqL.of hl, atI_nat (j := 0) rfl, _, rfl, _, _, rfl, rfl, hm, ?_⟩
    refine ⟨_, rfl, l, _, 0, .int n, rfl, rfl, SqL.of hl, atI_nat (j := 0) rfl, _, rfl, _, _, rfl, rfl, wide_div hm hmb (by decide) (by decide), ?_⟩
    refine ⟨_, rfl, l, _, 0, 0, rfl, rfl, hl, rfl, ?_⟩
    exact ⟨_, rfl, q _ _ (Int.emod_nonneg _ (by omega)) (Int.emod_lt_of_pos _ hm)⟩
theorem scLow : FnScope ["_law_top", "_law_bottom", "_law_one", "_law_other"] ["_law_top", "_law_bottom"] (defScope sLow) := ⟨rfl, rfl, rfl, by decide +kernel, rfl, by decide +kernel, by decide +kernel⟩
theorem ok_low {f : Addr} {fd : FuncData} {k : Nat} (F : Fun K "_law_low" "_law_low" sLow f fd) (B : Blt mg) : FnOk P w K mg base CX0 (k + 1) f fd ["_law_top", "_law_bottom"] spLow := by
  refine F.ok scLow (fun vs H Q E h => ?_) (fun cdv A outer s H vs Q E hr h => ?_)
  · obtain ⟨a, b, n, rfl, _⟩ := h
    rfl
  · obtain ⟨t, b, n, rfl, ht, hb, h0, hn, q⟩ := h
    refine ⟨_, pss_cons (ps_set (i := 2) scLow.nd rfl (.inl rfl) (pe_callB call_abs (by rfl) B.abs_ (by decide +kernel) (pa_cons (pv 0) pa_nil)))
      (pss_cons (ps_set (i := 3) scLow.nd rfl (.inl rfl) (pe_callB call_abs (by rfl) B.abs_ (by decide +kernel) (pa_cons (pv 1) pa_nil)))
      (pss_cons (ps_while PassesOwn.never (pt_cmpR op_gt (pv 3) pe_int (nomark _))
        (pss_one (ps_par (i := 2) (j := 3) (by rfl) scLow.nd rfl rfl (by decide) rfl rfl (pa_cons (pv 3) (pa_cons (pe_op op_modN (pv 2) (pv 3)) pa_nil)) (by rfl))))
      (pss_cons (ps_if (pt_cmpR op_lt (pv 1) pe_int (nomark _)) (pss_one (ps_set (i := 2) scLow.nd rfl (.inl rfl) (pe_op op_sub pe_int (pv 2)))) pss_nil)
      (pss_one (ps_ret (pe_tup (pa_cons (pe_op op_fdivZ (pv 0) (pv 2)) (pa_cons (pe_op op_fdivZ (pv 1) (pv 2)) pa_nil)))))))), ?_⟩
    have hg := Fr.gcd_pos (t := t) h0
    have hgb := gcd_bd (t := t) h0 hb
    have hn0 : 0 < n := by
      cases n with
      | zero => simp at hb; omega
      | succ n => omega
    refine ⟨_, rfl, t, rfl, ?_⟩
    refine ⟨_, rfl, b, rfl, ?_⟩
    rw [abs_eq, abs_eq]
    refine ⟨fun m σ H' => ∃ x y : Int, σ = [some (.int t), some (.int b), some (.int x), some (.int y)] ∧ 0 ≤ x ∧ 0 ≤ y ∧ m = y.natAbs ∧ Int.gcd x y = Int.gcd t b ∧ H' = H,
      ⟨_, (t.natAbs : Int), (b.natAbs : Int), rfl, by omega, by omega, rfl, ?_, rfl⟩, ?_⟩
    · rw [Int.gcd, Int.gcd, Int.natAbs_natCast, Int.natAbs_natCast]
    rintro m σ H' ⟨x, y, rfl, hx, hy, rfl, hgg, rfl⟩
    refine ⟨_, rfl, y, 0, rfl, rfl, _, rfl, ite2 (fun c => ?_) (fun c => ?_)⟩
    · have hy0 : 0 < y := of_decide_eq_true c
      refine ⟨fun σ' H'' => ∃ x' y' : Int, σ' = [some (.int t), some (.int b), some (.int x'), some (.int y')] ∧ 0 ≤ x' ∧ 0 ≤ y' ∧ y'.natAbs < y.natAbs ∧ Int.gcd x' y' = Int.gcd t b ∧ H'' = H', ?_, ?_⟩
      · rintro σ' H'' ⟨x', y', e1, e2, e3, e4, e5, e6⟩
        exact ⟨y'.natAbs, e4, x', y', e1, e2, e3, rfl, e5, e6⟩
      · refine ⟨.int y, rfl, .int x, rfl, .int y, rfl, x, y, rfl, rfl, (by omega : y ≠ 0), _, _, rfl, y, _, rfl, hy, Int.fmod_nonneg_of_pos x hy0, Fr.fmod_abs x (by omega), ?_, rfl⟩
        rw [Fr.gcd_step]
        exact hgg
    · have hy0 : y = 0 := by
        have : ¬ 0 < y := of_decide_eq_false (Bool.eq_false_iff.mpr c)
        omega
      subst hy0
      rw [Int.gcd_zero_right] at hgg
      have ex : x = (Int.gcd t b : Int) := by omega
      subst ex
      refine ⟨_, rfl, b, 0, rfl, rfl, _, rfl, ite2 (fun c2 => ?_) (fun c2 => ?_)⟩
      · have hb0 : b < 0 := of_decide_eq_true c2
        refine ⟨_, rfl, 0, _, rfl, rfl, ?_⟩
        have d : ∀ i : Int, CDivZ i (0 - (Int.gcd t b : Int)) := fun i => divZ (n := n) (by omega) (by rw [Int.zero_sub, Int.natAbs_neg]; exact hgb) hn0 (by omega)
        refine ⟨_, rfl, _, rfl, t, _, rfl, rfl, d _, _, rfl, _, rfl, b, _, rfl, rfl, d _, (by show 2 ≤ sizeLine; decide), fun p hp => ?_⟩
        have z := q p hp
        rw [rp, ← Fr.lowN_num hb0, ← Fr.lowN_den hb0] at z
        rw [Int.zero_sub]
        exact z
      · have hb0 : 0 < b := by
          have : ¬ b < 0 := of_decide_eq_false (Bool.eq_false_iff.mpr c2)
          omega
        have d : ∀ i : Int, CDivZ i (Int.gcd t b : Int) := fun i => divZ (n := n) (by omega) hgb hn0 (by omega)
        refine ⟨_, rfl, _, rfl, t, _, rfl, rfl, d _, _, rfl, _, rfl, b, _, rfl, rfl, d _, (by show 2 ≤ sizeLine; decide), fun p hp => ?_⟩
        have z := q p hp
        rw [rp, ← Fr.low_num hb0, ← Fr.low_den hb0] at z
        exact z

theorem scShares : FnScope ["_law_left_here", "_law_many", "_law_some", "_law_k", "_law_one"] ["_law_left_here", "_law_many"] (defScope sShares) := ⟨rfl, rfl, rfl, by decide +kernel, rfl, by decide +kernel, by decide +kernel⟩
theorem ok_Shares {f fD fL : Addr} {fd fdD fdL : FuncData} {k : Nat} (F : Fun K "_law_shares" "_law_shares" sShares f fd) (GD : FnOk P w K mg base CX0 k fD fdD ["_law_left_here", "_law_many"] spDigit) (kD : PySem.W.keepIn K (.ref fD) = true) (bD : Binds K fdD ["_law_left_here", "_law_many"] []) (gD : mg "_law_digit" = some (.ref fD))
    (GL : FnOk P w K mg base CX0 k fL fdL ["_law_top", "_law_bottom"] spLow) (kL : PySem.W.keepIn K (.ref fL) = true) (bL : Binds K fdL ["_law_top", "_law_bottom"] []) (gL : mg "_law_low" = some (.ref fL)) (B : Blt mg) : FnOk P w K mg base CX0 (k + 1) f fd ["_law_left_here", "_law_many"] (spShares K) := by
  refine F.ok scShares (fun vs H Q E h => ?_) (fun cdv A outer s H vs Q E hr h => ?_)
  · obtain ⟨l, z, m, rfl, _⟩ := h
    rfl
  · obtain ⟨l, z, m, rfl, hl, h1, h30, q⟩ := h
    refine ⟨_, pss_cons (ps_set (i := 2) scShares.nd rfl (.inr rfl) (pe_lc (own := [("_law_k", 3)]) (g := gName 3) (tt := tYes) (te := tOp (rIxL K) (tLst (tCons (tC (.int 0)) (tCons (tC (.int 1)) (tCons (tC (.int 1)) (tCons (tC (.int 2)) (tCons (tC (.int 3)) (tCons (tC (.int 5)) tNil))))))) (tCall spDigit [] E0 (tCons (tVar 0) (tCons (tC (.int 6)) tNil)))) rfl scShares.nd (pi_range1 (by rfl) B.range_ (pa_cons (pv 1) pa_nil))
        (blkOk_by (N := ["_law_left_here", "_law_many", "_law_some", "_law_k", "_law_one"]) (sc := defScope sShares) (by decide +kernel)) (fun _ _ _ _ _ => pg_name (i := 3) scShares.nd rfl (Or.inl rfl)) (fun _ _ _ _ _ => pts_nil)
        (fun _ _ _ _ _ => pe_ix ix_list (pe_lst (pa_cons pe_int (pa_cons pe_int (pa_cons pe_int (pa_cons pe_int (pa_cons pe_int (pa_cons pe_int pa_nil))))))) (pe_call GD hr (by rfl) gD kD bD .nil pass0 (pa_cons (pv 0) (pa_cons pe_int pa_nil))) (fun _ _ => rfl))))
      (pss_cons (ps_augS (pv 2) (pe_call GD hr (by rfl) gD kD bD .nil pass0 (pa_cons (pv 0) (pa_cons (pv 1) pa_nil))) pget_list pe_int ip_add set_list)
      (pss_one (ps_ret (pe_lc (own := [("_law_one", 4)]) (g := gName 4) (tt := tYes) (te := tCall spLow [] E0 (tCons (tVar 4) (tCons (tCB (rSum K) (tCons (tVar 2) tNil)) tNil))) rfl scShares.nd (pi_list (pv 2))
        (blkOk_by (N := ["_law_left_here", "_law_many", "_law_some", "_law_k", "_law_one"]) (sc := defScope sShares) (by decide +kernel)) (fun _ _ _ _ _ => pg_name (i := 4) scShares.nd rfl (Or.inl rfl)) (fun _ _ _ _ _ => pts_nil)
        (fun _ _ _ _ _ => pe_call GL hr (by rfl) gL kL bL .nil pass0 (pa_cons (pv 4) (pa_cons (pe_callB (id := "sum") (cr_sum rfl) (by rfl) B.sum_ (by decide +kernel) (pa_cons (pv 2) pa_nil)) pa_nil))))))), ?_⟩
    -- the numbers
    refine ⟨_, rfl, (m : Int), rfl, by omega, by omega, fun S hS => lc_range (lo := 0) (n := (m : Int).toNat) (fun j H' => ∃ (ns : List Int) (z' : Int), H' S = some (.lst (ns.map V.int)) ∧ ns.length = j ∧ (∀ x ∈ ns, 0 ≤ x ∧ x ≤ 5) ∧ SameB l H H' ∧ H' l = some (.lst [.int z']))
      ⟨[], z, upd_same, rfl, fun x hx => by simp at hx, SameB.of (same_new hS _), same_new hS _ _ _ hl⟩ ?_ ?_⟩
    · rintro j H1 hj ⟨ns, z1, hS1, hlen, hns, sb, hl1⟩
      refine ⟨rfl, ?_⟩
      unfold tYes
      dsimp only
      refine iteT ?_
      refine ⟨(by show 6 ≤ sizeLine; decide), fun p hp => ?_⟩
      have s1 := same_new hp (.lst [V.int 0, V.int 1, V.int 1, V.int 2, V.int 3, V.int 5])
      have hpl : p ≠ l := fun e => by
        rw [e, hl1] at hp
        cases hp
      have hSl : S ≠ l := fun e => by
        rw [e, hl] at hS
        cases hS
      refine ⟨_, rfl, l, z1, 6, rfl, s1 _ _ hl1, by decide, by decide, fun d z2 d0 d6 => ?_⟩
      obtain ⟨v, ev, v0, v5⟩ := tab_at d0 d6
      refine ⟨p, _, d, .int v, rfl, rfl, SqL.of (by rw [upd_ne hpl, upd_same]), ev, ?_⟩
      refine ⟨_, by rw [upd_ne hSl]; exact s1 _ _ hS1, ?_, ns ++ [v], z2, ?_, ?_, ?_, ?_, ?_⟩
      · rw [List.length_map, hlen]
        exact small1000 (by omega)
      · rw [upd_same, List.map_append]
        rfl
      · rw [List.length_append, hlen]
        rfl
      · intro x hx
        rcases List.mem_append.mp hx with hx | hx
        · exact hns x hx
        · rw [List.mem_singleton.mp hx]
          exact ⟨v0, v5⟩
      · intro b u hb e
        have hbS : b ≠ S := ne_of_none e hS
        rw [upd_ne hbS, upd_ne hb]
        exact s1 _ _ (sb b u hb e)
      · rw [upd_ne (Ne.symm hSl), upd_same]
    · rintro H1 ⟨ns, z1, hS1, hlen, hns, sb, hl1⟩
      rw [Int.toNat_natCast] at hlen
      have hSl : S ≠ l := fun e => by
        rw [e, hl] at hS
        cases hS
      -- += 1
      refine ⟨_, rfl, _, rfl, _, rfl, l, z1, (m : Int), rfl, hl1, by omega, Nat.lt_of_le_of_lt (by omega : ((m : Int)).natAbs ≤ 30) (by decide), fun d z2 d0 dm => ?_⟩
      have hd : d.toNat < ns.length := by omega
      obtain ⟨x, ex⟩ : ∃ x, ns[d.toNat]? = some x := ⟨_, List.getElem?_eq_getElem hd⟩
      have ed : d = ((d.toNat : Nat) : Int) := by omega
      have hS2 : (upd H1 l (.lst [.int z2])) S = some (.lst (ns.map V.int)) := by rw [upd_ne hSl]; exact hS1
      refine ⟨S, _, d.toNat, .int x, rfl, by rw [← ed], SqL.of hS2, by rw [List.getElem?_map, ex]; rfl, x, 1, rfl, rfl, S, _, d, d.toNat, rfl, rfl, hS2, ?_, ?_⟩
      · unfold ixN
        rw [if_pos d0, if_pos (by rw [List.length_map]; omega)]
      have es : (ns.map V.int).set d.toNat (.int (x + 1)) = (ns.set d.toNat (x + 1)).map V.int := (List.map_set ..).symm
      rw [es]
      have hx0 := hns x (List.mem_of_getElem? ex)
      have hn2 : ∀ y ∈ ns.set d.toNat (x + 1), 0 ≤ y ∧ y ≤ 6 := fun y hy => by
        rcases List.mem_or_eq_of_mem_set hy with hy | rfl
        · have := hns y hy
          omega
        · omega
      have hlen2 : (ns.set d.toNat (x + 1)).length = m := by rw [List.length_set, hlen]
      have hsum : (ns.set d.toNat (x + 1)).sum = ns.sum + 1 := set_sumI ns _ x ex
      have hpos : 0 < (ns.set d.toNat (x + 1)).sum := by
        have := sum_nn ns fun y hy => (hns y hy).1
        omega
      have hle : (ns.set d.toNat (x + 1)).sum ≤ 6 * 30 := by
        have := sum_le (ns.set d.toNat (x + 1)) 6 fun y hy => (hn2 y hy).2
        rw [hlen2] at this
        omega
      generalize ns.set d.toNat (x + 1) = ms at hn2 hlen2 hsum hpos hle
      have bS : ms.sum.natAbs < 2 ^ 8 := Nat.lt_of_le_of_lt (by omega : ms.sum.natAbs ≤ 180) (by decide)
      -- the fractions
      refine ⟨_, rfl, S, rfl, ⟨_, SqL.of upd_same⟩, fun L hL => lc_list (K := K) (a := S) (xs := ms.map V.int) (fun i H' => ∃ cs, H' L = some (.lst cs) ∧ Same (upd (upd H1 l (.lst [.int z2])) S (.lst (ms.map V.int))) H' ∧ FrN K H' 8 cs ((ms.take i).map fun x => Rat.divInt x ms.sum))
        ⟨[], upd_same, same_new hL _, FrN.nil⟩ (fun i H' _ ⟨_, _, s5, _⟩ => SqL.of (s5 _ _ upd_same)) ?_ ?_⟩
      · rintro i v H' hi ⟨cs, hcs, s5, hf⟩
        rw [List.getElem?_map] at hi
        obtain ⟨y, ey, rfl⟩ : ∃ y, ms[i]? = some y ∧ v = .int y := by
          cases e : ms[i]? with
          | none => rw [e] at hi; cases hi
          | some r => rw [e] at hi; exact ⟨r, rfl, (Option.some.inj hi).symm⟩
        have hy := hn2 y (List.mem_of_getElem? ey)
        have by8 : y.natAbs < 2 ^ 8 := Nat.lt_of_le_of_lt (by omega : y.natAbs ≤ 6) (by decide)
        refine ⟨rfl, ?_⟩
        unfold tYes; dsimp only
        refine iteT ?_
        refine ⟨_, rfl, _, rfl, S, ms, rfl, SqL.of (s5 _ _ upd_same), y, ms.sum, 8, rfl, by8, bS, by omega, by decide, fun t ht => ?_⟩
        have s6 := same_new ht (.tup (rp (Rat.divInt y ms.sum)))
        refine ⟨cs, s6 _ _ hcs, ?_, _, upd_same, fun b u e => ?_, ?_⟩
        · rw [hf.len, List.length_map, List.length_take]
          exact small1000 (by omega)
        · rw [upd_ne (ne_of_none e hL)]
          exact s6 _ _ (s5 _ _ e)
        · rw [List.take_add_one, ey, List.map_append]
          exact ((hf.same s6).snoc (q := Rat.divInt y ms.sum) (SqT.of upd_same) (Fr.bd_low by8 bS (by omega))).keep (keep_lst (s6 _ _ hcs))
      · rintro H' ⟨cs, hcs, s5, hf⟩
        rw [List.length_map, List.take_length] at hf
        have sb2 : SameB l H (upd (upd H1 l (.lst [.int z2])) S (.lst (ms.map V.int))) := fun b u hb e => by
          rw [upd_ne (ne_of_none e hS), upd_ne hb]
          exact sb b u hb e
        have hLl : L ≠ l := fun e => by
          rw [e, upd_ne (Ne.symm hSl), upd_same] at hL
          cases hL
        have hL0 : H L = none := by
          cases e : H L with
          | none => rfl
          | some u =>
            rw [sb2 L u hLl e] at hL
            cases hL
        exact q L cs (shq ms) z2 H' (sb2.trans (SameB.of s5)) (s5 _ _ (by rw [upd_ne (Ne.symm hSl), upd_same])) hL0 hLl hcs hf (shq_ok hlen2 (fun y hy => (hn2 y hy).1) hpos)
theorem scRows : FnScope ["_law_left_here", "_law_worlds", "_law_upto", "_law_words", "_law_world"] ["_law_left_here", "_law_worlds", "_law_upto"] (defScope sRows) := ⟨rfl, rfl, rfl, by decide +kernel, rfl, by decide +kernel, by decide +kernel⟩
theorem ok_Rows {f fD fS : Addr} {fd fdD fdS : FuncData} {k : Nat} (F : Fun K "_law_rows" "_law_rows" sRows f fd) (GD : FnOk P w K mg base CX0 k fD fdD ["_law_left_here", "_law_many"] spDigit) (kD : PySem.W.keepIn K (.ref fD) = true) (bD : Binds K fdD ["_law_left_here", "_law_many"] []) (gD : mg "_law_digit" = some (.ref fD))
    (GS : FnOk P w K mg base CX0 k fS fdS ["_law_left_here", "_law_many"] (spShares K)) (kS : PySem.W.keepIn K (.ref fS) = true) (bS : Binds K fdS ["_law_left_here", "_law_many"] []) (gS : mg "_law_shares" = some (.ref fS)) (B : Blt mg) : FnOk P w K mg base CX0 (k + 1) f fd ["_law_left_here", "_law_worlds", "_law_upto"] (spRowsL K) := by
  refine F.ok scRows (fun vs H Q E h => ?_) (fun cdv A outer s H vs Q E hr h => ?_)
  · obtain ⟨l, z, ww, up, rfl, _⟩ := h
    rfl
  · obtain ⟨l, z, ww, up, rfl, hl, hw1, hw5, hu1, hu30, q⟩ := h
    refine ⟨_, pss_cons (ps_set (i := 3) scRows.nd rfl (.inr rfl) (pe_op op_add pe_int (pe_call GD hr (by rfl) gD kD bD .nil pass0 (pa_cons (pv 0) (pa_cons (pv 2) pa_nil)))))
      (pss_one (ps_ret (pe_lc (own := [("_law_world", 4)]) (g := gName 4) (tt := tYes) (te := tCall (spShares K) [] E0 (tCons (tVar 0) (tCons (tVar 3) tNil))) rfl scRows.nd (pi_range1 (by rfl) B.range_ (pa_cons (pv 1) pa_nil))
        (blkOk_by (N := ["_law_left_here", "_law_worlds", "_law_upto", "_law_words", "_law_world"]) (sc := defScope sRows) (by decide +kernel)) (fun _ _ _ _ _ => pg_name (i := 4) scRows.nd rfl (Or.inl rfl)) (fun _ _ _ _ _ => pts_nil)
        (fun _ _ _ _ _ => pe_call GS hr (by rfl) gS kS bS .nil pass0 (pa_cons (pv 0) (pa_cons (pv 3) pa_nil)))))), ?_⟩
    refine ⟨_, rfl, _, rfl, l, z, (up : Int), rfl, hl, by omega, Nat.lt_of_le_of_lt (by omega : ((up : Int)).natAbs ≤ 30) (by decide), fun d z1 d0 dm => ?_⟩
    refine ⟨1, d, rfl, rfl, ?_⟩
    obtain ⟨m, em⟩ : ∃ m : Nat, (1 + d : Int) = (m : Int) := ⟨(1 + d).toNat, by omega⟩
    rw [show ((fun i j => V.int (i + j)) 1 d : V) = V.int (m : Int) from congrArg V.int em]
    refine ⟨_, rfl, (ww : Int), rfl, by omega, by omega, fun D hD => ?_⟩
    have hDl : D ≠ l := fun e => by
      rw [e, upd_same] at hD
      cases hD
    refine lc_range (lo := 0) (n := (ww : Int).toNat) (fun j H' => ∃ rs rss z', New K (upd H l (.lst [.int z1])) H' l D rs rss 8 ∧ H' l = some (.lst [.int z']) ∧ rss.length = j ∧ (∀ qs ∈ rss, RowOk m qs))
      ⟨[], [], z1, New.start hD, by rw [upd_ne (Ne.symm hDl), upd_same], rfl, fun qs hq => by simp at hq⟩ ?_ ?_
    · rintro j H' hj ⟨rs, rss, z', N, hl', hlen, hrow⟩
      refine ⟨rfl, ?_⟩
      unfold tYes
      dsimp only
      refine iteT ?_
      refine ⟨_, rfl, _, rfl, l, z', m, rfl, hl', by omega, by omega, fun L cs qs z2 H2 sb hl2 hL0 hLl hcs hf hro => ?_⟩
      have N2 := N.step sb hl' hDl
      refine ⟨_, N2.at_, ?_, rs ++ [L], rss ++ [qs], z2, New.push N N2 hL0 hcs hf hLl, by rw [upd_ne (Ne.symm hDl)]; exact hl2, ?_, ?_⟩
      · rw [List.length_map, N.rows.1, hlen]
        exact small1000 (by omega)
      · rw [List.length_append, hlen]
        rfl
      · intro x hx
        rcases List.mem_append.mp hx with hx | hx
        · exact hrow x hx
        · rw [List.mem_singleton.mp hx]
          exact hro
    · rintro H' ⟨rs, rss, z', N, hl', hlen, hrow⟩
      rw [Int.toNat_natCast] at hlen
      exact q D rs rss m z' H' (New.pre N SameB.upd hDl) hDl hl' ⟨by omega, by omega, by omega, by omega, hrow⟩ hlen (by omega)
end
end K13

set_option Elab.async false
set_option linter.all false
set_option maxRecDepth 100000
set_option maxHeartbeats 4000000
namespace K13
open PySem PySem.Spec PyProof.Rows L2 BX EXB Co Ru
open Fr (Bd)
/-! ### things that are handed in -/
structure OddOk (d : PyData) : Prop where
  sh : d.showable = true
  dp : d.depth ≤ 64
  sz : d.shown.length ≤ sizeLine
  tx : (PyData.str d.shown).canLay0 = true
/-- a thing, the whole number that it is, and it as data -/
inductive Th (K : PySem.W.Frag) (H : Hp) (l : Addr) : V → Option Int → PyData → Prop
  | int (i : Int) (h : (-1 ≤ i ∧ i ≤ 31) ∨ i = 10 ^ 20) : Th K H l (.int i) (some i) (.int i)
  | non : Th K H l .non none .none
  | bl (b : Bool) : Th K H l (.bl b) none (.bool b)
  | str : Th K H l (.str "2") none (.str "2")
  | lst {a : Addr} (h : H a = some (.lst [.int 1])) (hn : a ≠ l) : Th K H l (.ref a) none (.list [.int 1])
  | tup {a : Addr} (h : SqT K H a [.int 1]) : Th K H l (.ref a) none (.tuple [.int 1])
  | dct {a : Addr} (h : H a = some (.dK [])) : Th K H l (.ref a) none (.dict [])
section
variable {K : PySem.W.Frag} {H H' : Hp} {l : Addr} {v : V} {o : Option Int} {d : PyData}
theorem Th.same (h : Th K H l v o d) (e : Same H H') : Th K H' l v o d := by
  cases h with
  | int i h => exact .int i h
  | non => exact .non
  | bl b => exact .bl b
  | str => exact .str
  | lst h hn => exact .lst (e _ _ h) hn
  | tup h => exact .tup (seqT e h)
  | dct h => exact .dct (e _ _ h)
theorem Th.but {z : Int} (h : Th K H l v o d) (hl : H l = some (.lst [.int z])) (e : SameB l H H') : Th K H' l v o d := by
  cases h with
  | int i h => exact .int i h
  | non => exact .non
  | bl b => exact .bl b
  | str => exact .str
  | lst h hn => exact .lst (e _ _ hn h) hn
  | tup h => exact .tup (e.tup hl _ _ h)
  | dct h => exact .dct (e _ _ (ne_of h hl (by intro w; cases w)) h)
theorem odd_small : ∀ n : Fin 33, (PyData.int ((n.val : Int) - 1)).showable = true ∧ (PyData.int ((n.val : Int) - 1)).depth ≤ 64 ∧ (PyData.int ((n.val : Int) - 1)).shown.length ≤ 1000 ∧ (PyData.str (PyData.int ((n.val : Int) - 1)).shown).canLay0 = true := by decide +kernel
theorem Th.odd (h : Th K H l v o d) : OddOk d := by
  cases h with
  | int i h =>
    rcases h with ⟨h1, h2⟩ | rfl
    · have z := odd_small ⟨(i + 1).toNat, by omega⟩
      have e : (((i + 1).toNat : Nat) : Int) - 1 = i := by omega
      simp only [e] at z
      exact ⟨z.1, z.2.1, Nat.le_trans z.2.2.1 (by decide), z.2.2.2⟩
    · exact ⟨by decide +kernel, by decide +kernel, by decide +kernel, by decide +kernel⟩
  | non => exact ⟨rfl, by decide, by decide +kernel, by decide +kernel⟩
  | bl b => cases b <;> exact ⟨rfl, by decide, by decide +kernel, by decide +kernel⟩
  | str => exact ⟨rfl, by decide, by decide +kernel, by decide +kernel⟩
  | lst h => exact ⟨by decide +kernel, by decide +kernel, by decide +kernel, by decide +kernel⟩
  | tup h => exact ⟨by decide +kernel, by decide +kernel, by decide +kernel, by decide +kernel⟩
  | dct h => exact ⟨by decide +kernel, by decide +kernel, by decide +kernel, by decide +kernel⟩
theorem Th.dq (h : Th K H l v o d) : Dq K H v d := by
  cases h with
  | int i h => exact .inl (.int i)
  | non => exact .inl .non
  | bl b => exact .inl (.bl b)
  | str => exact .inl (.str _)
  | lst h hn => exact .inl (.lst (SqL.of h) (.cons (.int _) .nil))
  | tup h => exact .inl (.tup h (.cons (.int _) .nil))
  | dct h => exact .inr ⟨_, rfl, h, rfl⟩
theorem Th.some_ {i : Int} (h : Th K H l v (some i) d) : v = .int i := by cases h; rfl
theorem Th.ty (h : Th K H l v o d) : ∃ (n : String) (b1 b2 : Bool), TyX K H v (.type n) ∧ kitB n "int" = some b1 ∧ (b1 = true → kitB n "bool" = some b2) ∧ o.isSome = (b1 && !b2) := by
  cases h with
  | int i h => exact ⟨"int", true, false, .base (.int i), by decide +kernel, fun _ => by decide +kernel, rfl⟩
  | non => exact ⟨"NoneType", false, false, .base .non, by decide +kernel, fun z => Bool.noConfusion z, rfl⟩
  | bl b => exact ⟨"bool", true, true, .base (.bl b), by decide +kernel, fun _ => by decide +kernel, rfl⟩
  | str => exact ⟨"str", false, false, .base (.str _), by decide +kernel, fun z => Bool.noConfusion z, rfl⟩
  | tup h => exact ⟨"tuple", false, false, tyT h, by decide +kernel, fun z => Bool.noConfusion z, rfl⟩
  | lst h hn => exact ⟨"list", false, false, .base (.lst h), by decide +kernel, fun z => Bool.noConfusion z, rfl⟩
  | dct h => exact ⟨"dict", false, false, .base (.dK h), by decide +kernel, fun z => Bool.noConfusion z, rfl⟩
end
/-- a whole number from lo to hi -/
def inR : Option Int → Int → Int → Bool
  | some i, lo, hi => decide (lo ≤ i) && decide (i ≤ hi)
  | none, _, _ => false
theorem inR_some {o : Option Int} {lo hi : Int} (h : inR o lo hi = true) : ∃ i, o = some i ∧ lo ≤ i ∧ i ≤ hi := by
  cases o with
  | none => cases h
  | some i =>
    have h' : (decide (lo ≤ i) && decide (i ≤ hi)) = true := h
    rw [Bool.and_eq_true, decide_eq_true_eq, decide_eq_true_eq] at h'
    exact ⟨i, rfl, h'.1, h'.2⟩
/-- things in a row -/
def ThL (K : PySem.W.Frag) (H : Hp) (l : Addr) (xs : List V) (os : List (Option Int)) : Prop := xs.length = os.length ∧ ∀ (i : Nat) (v : V), xs[i]? = some v → ∃ o d, os[i]? = some o ∧ Th K H l v o d
/-- what is handed in for groups: a list of things, or no list -/
inductive Gp (K : PySem.W.Frag) (H : Hp) (l : Addr) : V → Option (List (Option Int)) → Prop
  | lst {a : Addr} {xs : List V} {os : List (Option Int)} (h : H a = some (.lst xs)) (hn : a ≠ l) (ht : ThL K H l xs os) : Gp K H l (.ref a) (some os)
  | tup {a : Addr} {xs : List V} (h : SqT K H a xs) : Gp K H l (.ref a) none
  | non : Gp K H l .non none
theorem ThL.same {K : PySem.W.Frag} {H H' : Hp} {l : Addr} {xs : List V} {os : List (Option Int)} (h : ThL K H l xs os) (e : Same H H') : ThL K H' l xs os := ⟨h.1, fun i v z => let ⟨o, d, e1, e2⟩ := h.2 i v z; ⟨o, d, e1, e2.same e⟩⟩
theorem ThL.but {K : PySem.W.Frag} {H H' : Hp} {l : Addr} {z : Int} {xs : List V} {os : List (Option Int)} (h : ThL K H l xs os) (hl : H l = some (.lst [.int z])) (e : SameB l H H') : ThL K H' l xs os := ⟨h.1, fun i v z => let ⟨o, d, e1, e2⟩ := h.2 i v z; ⟨o, d, e1, e2.but hl e⟩⟩
theorem Gp.same {K : PySem.W.Frag} {H H' : Hp} {l : Addr} {v : V} {og : Option (List (Option Int))} (h : Gp K H l v og) (e : Same H H') : Gp K H' l v og := by
  cases h with
  | lst h hn ht => exact .lst (e _ _ h) hn (ht.same e)
  | tup h => exact .tup (seqT e h)
  | non => exact .non
theorem Gp.but {K : PySem.W.Frag} {H H' : Hp} {l : Addr} {z : Int} {v : V} {og : Option (List (Option Int))} (h : Gp K H l v og) (hl : H l = some (.lst [.int z])) (e : SameB l H H') : Gp K H' l v og := by
  cases h with
  | lst h hn ht => exact .lst (e _ _ hn h) hn (ht.but hl e)
  | tup h => exact .tup (e.tup hl _ _ h)
  | non => exact .non
theorem Gp.ty {K : PySem.W.Frag} {H : Hp} {l : Addr} {v : V} (h : Gp K H l v none) : ∃ n : String, TyX K H v (.type n) ∧ kitB n "list" = some false := by
  cases h with
  | tup h => exact ⟨"tuple", tyT h, by decide +kernel⟩
  | non => exact ⟨"NoneType", .base .non, by decide +kernel⟩
/-- the first that is no number below many -/
def firstBad (many : Nat) : List (Option Int) → Nat → Option Nat
  | [], _ => none
  | o :: os, i => if inR o 0 ((many : Int) - 1) = true then firstBad many os (i + 1) else some i
def gBad (og : Option (List (Option Int))) (words many : Nat) : Option V :=
  match og with
  | none => some .non
  | some os => if os.length = words then (firstBad many os 0).map fun i => V.int (i : Nat) else some .non
theorem firstBad_drop {many : Nat} {os : List (Option Int)} {i : Nat} {o : Option Int} (h : os[i]? = some o) : firstBad many (os.drop i) i = if inR o 0 ((many : Int) - 1) = true then firstBad many (os.drop (i + 1)) (i + 1) else some i := by
  have hi : i < os.length := (List.getElem?_eq_some_iff.mp h).1
  have e : os[i] = o := (List.getElem?_eq_some_iff.mp h).2
  rw [List.drop_eq_getElem_cons hi, e, firstBad]
theorem firstBad_good {many : Nat} : ∀ (os : List (Option Int)) (j : Nat), firstBad many os j = none → ∀ o ∈ os, inR o 0 ((many : Int) - 1) = true
  | [], _, _, o, ho => by simp at ho
  | x :: os, j, h, o, ho => by
    rw [firstBad] at h
    by_cases c : inR x 0 ((many : Int) - 1) = true
    · rw [if_pos c] at h
      rcases List.mem_cons.mp ho with rfl | ho
      · exact c
      · exact firstBad_good os (j + 1) h o ho
    · rw [if_neg c] at h
      cases h
theorem ThL.good {K : PySem.W.Frag} {H : Hp} {l : Addr} {many : Nat} : ∀ (xs : List V) (os : List (Option Int)), ThL K H l xs os → (∀ o ∈ os, inR o 0 ((many : Int) - 1) = true) → ∃ gs : List Nat, xs = gv gs ∧ gs.length = os.length ∧ ∀ g ∈ gs, g < many
  | [], [], _, _ => ⟨[], rfl, rfl, fun g hg => by simp at hg⟩
  | [], _ :: _, h, _ => by have := h.1; simp at this
  | _ :: _, [], h, _ => by have := h.1; simp at this
  | x :: xs, o :: os, h, hg => by
    obtain ⟨gs, e1, e2, e3⟩ := ThL.good (many := many) xs os ⟨by have := h.1; simpa using this, fun i v z => h.2 (i + 1) v z⟩ fun o ho => hg o (List.mem_cons_of_mem _ ho)
    obtain ⟨o', d, f1, f2⟩ := h.2 0 x rfl
    cases (Option.some.inj f1)
    obtain ⟨i, rfl, i0, i1⟩ := inR_some (hg o (List.mem_cons_self ..))
    refine ⟨i.toNat :: gs, ?_, by rw [List.length_cons, List.length_cons, e2], fun g hgm => ?_⟩
    · rw [f2.some_, e1]
      show _ = V.int ((i.toNat : Nat) : Int) :: gv gs
      rw [Int.toNat_of_nonneg i0]
    · rcases List.mem_cons.mp hgm with rfl | hgm
      · omega
      · exact e3 g hgm
/-! ### what is answered -/
abbrev Rsp := Option (List V)
def Rv (H : Hp) (v : V) : Rsp → Prop
  | none => v = .non
  | some ws => ∃ p, v = .ref p ∧ H p = some (.lst ws)
def Ret (Q : VK) (H : Hp) (r : Rsp) : Prop := ∀ v H', Same H H' → Rv H' v r → Q v H'
def resN (o : Option Int) (d : PyData) (hi : Int) : Rsp := if inR o 1 hi = true then none else some [.str "number", .str d.shown, .bl true]
def resB (r1 r2 : List (List Rat)) (m1 m2 : Nat) : Rsp := if r1.length = r2.length then (if m1 * m2 ≤ 30 then none else some [.str "many", .int ((m1 : Int) * (m2 : Int)), .bl true]) else some [.str "unlike", .int (r1.length : Int), .int (r2.length : Int)]
def resG (og : Option (List (Option Int))) (words many : Nat) : Rsp := (gBad og words many).map fun r => [.str "groups", r, .bl true]
def res3 (ot : Option Int) (dt : PyData) (og : Option (List (Option Int))) (words : Nat) : Rsp := if inR ot 1 30 = true then resG og words (ot.getD 0).toNat else some [.str "number", .str dt.shown, .bl true]
theorem Rv.same {H H' : Hp} {v : V} {r : Rsp} (h : Rv H v r) (s : Same H H') : Rv H' v r := by
  cases r with
  | none => exact h
  | some ws => obtain ⟨p, e1, e2⟩ := h; exact ⟨p, e1, s _ _ e2⟩
/-! ### the errors -/
abbrev ovTail : List Value := [.type "OverflowError", .type "ArithmeticError", .type "Exception", .type "BaseException", .type "object"]
structure Er1 (K : PySem.W.Frag) (mg : Str → Option Value) (nm : Str) (C fI : Addr) : Prop where
  g : mg nm = some (.ref C)
  i : PySem.W.findIn K (.ref C) "__init__" = some (some (.ref fI))
  t : PySem.W.typeIn K (.ref fI) = some (.type "function")
  xf : XfC K C
  ex : ExcC K C
structure ErT (K : PySem.W.Frag) (mg : Str → Option Value) (CN fN CG fG CU fU CM fM : Addr) : Prop where
  N : Er1 K mg "NoNumber" CN fN
  oN : OexC K CN
  nN : PySem.W.findIn K (.ref CN) "number" = some none
  G : Er1 K mg "NoGroups" CG fG
  oG : OexC K CG
  nG : PySem.W.findIn K (.ref CG) "word" = some none
  U : Er1 K mg "Unlike" CU fU
  oU : OexC K CU
  nU1 : PySem.W.findIn K (.ref CU) "one" = some none
  nU2 : PySem.W.findIn K (.ref CU) "other" = some none
  M : Er1 K mg "TooMany" CM fM
  oM : ExS K CM "OverflowError.__new__" ovTail
  nM : PySem.W.findIn K (.ref CM) "many" = some none
  vV : PySem.W.findCls K (.type "ValueError") (.type "type") "__init__" = some (.val (.builtin "ValueError.__init__"))
  vO : PySem.W.findCls K (.type "OverflowError") (.type "type") "__init__" = some (.val (.builtin "OverflowError.__init__"))
  nn : PySem.W.exmOne K (.ref CN) (.ref CN) = some true
  un : PySem.W.exmOne K (.ref CU) (.ref CN) = some false
  uu : PySem.W.exmOne K (.ref CU) (.ref CU) = some true
  mn : PySem.W.exmOne K (.ref CM) (.ref CN) = some false
  mu : PySem.W.exmOne K (.ref CM) (.ref CU) = some false
  mm : PySem.W.exmOne K (.ref CM) (.ref CM) = some true
  gn : PySem.W.exmOne K (.ref CG) (.ref CN) = some false
  gu : PySem.W.exmOne K (.ref CG) (.ref CU) = some false
  gm : PySem.W.exmOne K (.ref CG) (.ref CM) = some false
  gg : PySem.W.exmOne K (.ref CG) (.ref CG) = some true
  kN : PySem.W.kitOne K (.ref CN) (.type "ValueError") = some true
  kM : PySem.W.kitOne K (.ref CM) (.type "OverflowError") = some true
  kG : PySem.W.kitOne K (.ref CG) (.type "ValueError") = some true
theorem upd_swap {H : Hp} {a dx : Addr} {A B A' : HO} (h : dx ≠ a) : upd (upd (upd H dx A) a B) dx A' = upd (upd H dx A') a B := by
  funext b
  by_cases h1 : b = dx
  · rw [h1, upd_same, upd_ne h, upd_same]
  · rw [upd_ne h1]
    by_cases h2 : b = a
    · rw [h2, upd_same, upd_same]
    · rw [upd_ne h2, upd_ne h2, upd_ne h1, upd_ne h1]
/-! ### promises -/
def spWholeT (K : PySem.W.Frag) : Sp := fun vs H Q _ => ∃ (l : Addr) (v : V) (o : Option Int) (d : PyData), vs = [v] ∧ Th K H l v o d ∧ Q (.bl o.isSome) H
def spWithinT (K : PySem.W.Frag) : Sp := fun vs H Q _ => ∃ (l : Addr) (v : V) (o : Option Int) (d : PyData) (lo hi : Int), vs = [v, .int lo, .int hi] ∧ Th K H l v o d ∧ Q (.bl (inR o lo hi)) H
def lenIn : Option (List (Option Int)) → Int → Int → Bool
  | some os, lo, hi => decide (lo ≤ (os.length : Int)) && decide ((os.length : Int) ≤ hi)
  | none, _, _ => false
def spListOfT (K : PySem.W.Frag) : Sp := fun vs H Q _ => ∃ (l : Addr) (v : V) (og : Option (List (Option Int))) (lo hi : Int), vs = [v, .int lo, .int hi] ∧ Gp K H l v og ∧ Q (.bl (lenIn og lo hi)) H
def spChkW (K : PySem.W.Frag) (CN : Addr) : Sp := fun vs H Q E => ∃ (l : Addr) (v : V) (o : Option Int) (d : PyData), vs = [v] ∧ Th K H l v o d ∧ (inR o 1 5 = false → ∀ dx, H dx = none → E (.ref CN) (some dx) (upd H dx (.xd [("number", v)]))) ∧ (inR o 1 5 = true → Q .non H)
def spSil (K : PySem.W.Frag) (CN : Addr) : Sp := fun vs H Q E => ∃ (l : Addr) (v : V) (o : Option Int) (d : PyData), vs = [v] ∧ Th K H l v o d ∧ (inR o 1 5 = false → ∀ dx, H dx = none → E (.ref CN) (some dx) (upd H dx (.xd [("number", v)]))) ∧ (inR o 1 5 = true → ∀ x H', Same H H' → Q (.ref x) H')
def spBes (K : PySem.W.Frag) (C CU CM : Addr) : Sp := fun vs H Q E => ∃ (x y : Addr) (r1 r2 : List (List Rat)) (m1 m2 : Nat), vs = [.ref x, .ref y] ∧ IsRule K H C x r1 8 ∧ IsRule K H C y r2 8 ∧ Good r1 m1 ∧ Good r2 m2 ∧
  (r1.length ≠ r2.length → ∀ dx, H dx = none → E (.ref CU) (some dx) (upd H dx (.xd [("other", .int (r2.length : Int)), ("one", .int (r1.length : Int))]))) ∧
  (r1.length = r2.length → ¬ m1 * m2 ≤ 30 → ∀ dx, H dx = none → E (.ref CM) (some dx) (upd H dx (.xd [("many", .int ((m1 : Int) * (m2 : Int)))]))) ∧
  (r1.length = r2.length → m1 * m2 ≤ 30 → ∀ x H', Same H H' → Q (.ref x) H')
def spChkGT (K : PySem.W.Frag) (CG : Addr) : Sp := fun vs H Q E => ∃ (l : Addr) (v : V) (og : Option (List (Option Int))) (words many : Nat), vs = [v, .int (words : Int), .int (many : Int)] ∧ Gp K H l v og ∧
  (∀ r, gBad og words many = some r → ∀ H' dx, Same H H' → H' dx = some (.xd [("word", r)]) → E (.ref CG) (some dx) H') ∧ (gBad og words many = none → ∀ H', Same H H' → Q .non H')
def spGrd (K : PySem.W.Frag) (C CN CG : Addr) : Sp := fun vs H Q E => ∃ (l x : Addr) (g t : V) (r1 : List (List Rat)) (m1 : Nat) (og : Option (List (Option Int))) (ot : Option Int) (dt : PyData), vs = [.ref x, g, t] ∧ IsRule K H C x r1 8 ∧ Good r1 m1 ∧ Gp K H l g og ∧ Th K H l t ot dt ∧
  (inR ot 1 30 = false → ∀ dx, H dx = none → E (.ref CN) (some dx) (upd H dx (.xd [("number", t)]))) ∧
  (inR ot 1 30 = true → ∀ r, gBad og m1 (ot.getD 0).toNat = some r → ∀ H' dx, Same H H' → H' dx = some (.xd [("word", r)]) → E (.ref CG) (some dx) H') ∧
  (inR ot 1 30 = true → gBad og m1 (ot.getD 0).toNat = none → ∀ x H', Same H H' → Q (.ref x) H')
section
variable {P : Program} {w : World} {K : PySem.W.Frag} {mg : Str → Option Value} {base : Heap} {C fI fRo fWo fLe fEq CN fN CG fG CU fU CM fM : Addr}
theorem scNnInit : FnScope ["self", "number"] ["self", "number"] (defScope sNnInit) := ⟨rfl, rfl, rfl, by decide +kernel, rfl, by decide +kernel, by decide +kernel⟩
theorem ok_NnInit {fd : FuncData} {k : Nat} (F : Fun K "__init__" "NoNumber.__init__" sNnInit fN fd) (T : ErT K mg CN fN CG fG CU fU CM fM) (B : Blt mg) : FnOk P w K mg base CX0 (k + 1) fN fd ["self", "number"] (spE1 CN "number") := by
  refine F.ok scNnInit (fun vs H Q E h => ?_) (fun cdv A outer s H vs Q E hr h => ?_)
  · obtain ⟨a, v, rfl, _⟩ := h
    rfl
  · obtain ⟨a, v, rfl, ha, q⟩ := h
    refine ⟨_, pss_cons (ps_expr (pe_veinit (by rfl) B.ValueError_ T.vV (pa_cons (pv 0) (pa_cons pe_str pa_nil)))) (pss_one (ps_ost (pv 0) (pv 1))), ?_⟩
    refine ⟨_, rfl, a, CN, _, rfl, (by show 1 ≤ 1000; decide), T.oN, ha, ?_⟩
    exact ⟨_, rfl, _, rfl, a, CN, rfl, T.oN, T.nN, .inl ⟨ha, q⟩⟩
theorem scNgInit : FnScope ["self", "word"] ["self", "word"] (defScope sNgInit) := ⟨rfl, rfl, rfl, by decide +kernel, rfl, by decide +kernel, by decide +kernel⟩
theorem ok_NgInit {fd : FuncData} {k : Nat} (F : Fun K "__init__" "NoGroups.__init__" sNgInit fG fd) (T : ErT K mg CN fN CG fG CU fU CM fM) (B : Blt mg) : FnOk P w K mg base CX0 (k + 1) fG fd ["self", "word"] (spE1 CG "word") := by
  refine F.ok scNgInit (fun vs H Q E h => ?_) (fun cdv A outer s H vs Q E hr h => ?_)
  · obtain ⟨a, v, rfl, _⟩ := h
    rfl
  · obtain ⟨a, v, rfl, ha, q⟩ := h
    refine ⟨_, pss_cons (ps_expr (pe_veinit (by rfl) B.ValueError_ T.vV (pa_cons (pv 0) (pa_cons pe_str pa_nil)))) (pss_one (ps_ost (pv 0) (pv 1))), ?_⟩
    refine ⟨_, rfl, a, CG, _, rfl, (by show 1 ≤ 1000; decide), T.oG, ha, ?_⟩
    exact ⟨_, rfl, _, rfl, a, CG, rfl, T.oG, T.nG, .inl ⟨ha, q⟩⟩
theorem scUnInit : FnScope ["self", "one", "other"] ["self", "one", "other"] (defScope sUnInit) := ⟨rfl, rfl, rfl, by decide +kernel, rfl, by decide +kernel, by decide +kernel⟩
theorem ok_UnInit {fd : FuncData} {k : Nat} (F : Fun K "__init__" "Unlike.__init__" sUnInit fU fd) (T : ErT K mg CN fN CG fG CU fU CM fM) (B : Blt mg) : FnOk P w K mg base CX0 (k + 1) fU fd ["self", "one", "other"] (spE2 CU "one" "other") := by
  refine F.ok scUnInit (fun vs H Q E h => ?_) (fun cdv A outer s H vs Q E hr h => ?_)
  · obtain ⟨a, v, u, rfl, _⟩ := h
    rfl
  · obtain ⟨a, v, u, rfl, ha, q⟩ := h
    refine ⟨_, pss_cons (ps_expr (pe_veinit (by rfl) B.ValueError_ T.vV (pa_cons (pv 0) (pa_cons pe_str pa_nil)))) (pss_cons (ps_ost (pv 0) (pv 1)) (pss_one (ps_ost (pv 0) (pv 2)))), ?_⟩
    refine ⟨_, rfl, a, CU, _, rfl, (by show 1 ≤ 1000; decide), T.oU, ha, ?_⟩
    refine ⟨_, rfl, _, rfl, a, CU, rfl, T.oU, T.nU1, .inl ⟨ha, fun dx hdx hne => ?_⟩⟩
    refine ⟨_, rfl, _, rfl, a, CU, rfl, T.oU, T.nU2, .inr ⟨dx, _, upd_same, by rw [upd_ne hne, upd_same], (by show 1 ≤ 900; decide), ?_⟩⟩
    rw [upd_swap hne]
    exact q dx hdx hne
theorem scTmInit : FnScope ["self", "many"] ["self", "many"] (defScope sTmInit) := ⟨rfl, rfl, rfl, by decide +kernel, rfl, by decide +kernel, by decide +kernel⟩
theorem ok_TmInit {fd : FuncData} {k : Nat} (F : Fun K "__init__" "TooMany.__init__" sTmInit fM fd) (T : ErT K mg CN fN CG fG CU fU CM fM) (B : Blt mg) : FnOk P w K mg base CX0 (k + 1) fM fd ["self", "many"] (spE1 CM "many") := by
  refine F.ok scTmInit (fun vs H Q E h => ?_) (fun cdv A outer s H vs Q E hr h => ?_)
  · obtain ⟨a, v, rfl, _⟩ := h
    rfl
  · obtain ⟨a, v, rfl, ha, q⟩ := h
    refine ⟨_, pss_cons (ps_expr (pe_initOverflowError (by rfl) B.OverflowError_ T.vO (pa_cons (pv 0) (pa_cons pe_str pa_nil)))) (pss_one (ps_osG (newId := "OverflowError.__new__") PySem.F.store_OverflowError (by decide) (pv 0) (pv 1))), ?_⟩
    refine ⟨_, rfl, a, CM, _, rfl, (by show 1 ≤ 1000; decide), T.oM.c, ha, ?_⟩
    exact ⟨_, rfl, _, rfl, a, CM, rfl, T.oM, T.nM, ha, q⟩
theorem ok_WholeT {f : Addr} {fd : FuncData} {k : Nat} (F : Fun K "is_whole" "is_whole" sWhole f fd) (B : Blt mg) : FnOk P w K mg base CX0 (k + 1) f fd ["thing"] (spWholeT K) := by
  refine F.ok scWhole (fun vs H Q E h => ?_) (fun cdv A outer s H vs Q E hr h => ?_)
  · obtain ⟨l, v, o, d, rfl, _⟩ := h
    rfl
  · obtain ⟨l, v, o, d, rfl, hv, q⟩ := h
    refine ⟨_, pss_one (ps_ret (pe_and (pe_callB call_isi (by rfl) B.isinstance_ (by decide +kernel) (pa_cons (pv 0) (pa_cons (pe_bltn (v := .ty "int") (by rfl) B.int_ (by decide +kernel) rfl) pa_nil)))
      (pe_one (pe_not (pe_callB call_isi (by rfl) B.isinstance_ (by decide +kernel) (pa_cons (pv 0) (pa_cons (pe_bltn (v := .ty "bool") (by rfl) B.bool_ (by decide +kernel) rfl) pa_nil))))))), ?_⟩
    obtain ⟨n, b1, b2, ht, h1, h2, e⟩ := hv.ty
    refine ⟨_, rfl, _, _, _, _, b1, rfl, .ty "int", ht, kit_ty h1, _, rfl, ?_⟩
    rw [e] at q
    cases b1 with
    | false => exact iteF q
    | true => exact iteT ⟨_, rfl, _, _, _, _, b2, rfl, .ty "bool", ht, kit_ty (h2 rfl), _, rfl, q⟩
theorem ok_WithinT {f fW : Addr} {fd fdW : FuncData} {k : Nat} (F : Fun K "is_whole_within" "is_whole_within" sWithin f fd) (GW : FnOk P w K mg base CX0 k fW fdW ["thing"] (spWholeT K)) (kW : PySem.W.keepIn K (.ref fW) = true) (bW : Binds K fdW ["thing"] []) (gW : mg "is_whole" = some (.ref fW)) : FnOk P w K mg base CX0 (k + 1) f fd ["thing", "least", "most"] (spWithinT K) := by
  refine F.ok scWithin (fun vs H Q E h => ?_) (fun cdv A outer s H vs Q E hr h => ?_)
  · obtain ⟨l, v, o, d, lo, hi, rfl, _⟩ := h
    rfl
  · obtain ⟨l, v, o, d, lo, hi, rfl, hv, q⟩ := h
    refine ⟨_, pss_one (ps_ret (pe_and (pe_call GW hr (by rfl) gW kW bW .nil pass0 (pa_cons (pv 0) pa_nil)) (pe_one (pe_chain op_le op_le (pv 1) (pv 0) (pv 2))))), ?_⟩
    refine ⟨_, rfl, l, v, o, d, rfl, hv, _, rfl, ?_⟩
    cases o with
    | none => exact iteF q
    | some i =>
      rw [hv.some_]
      refine iteT ?_
      have q' : Q (.bl (decide (lo ≤ i) && decide (i ≤ hi))) H := q
      refine ⟨_, rfl, _, rfl, lo, i, rfl, rfl, _, rfl, ?_⟩
      by_cases h1 : lo ≤ i
      · rw [decide_eq_true h1] at q' ⊢
        refine iteT ⟨_, rfl, i, hi, rfl, rfl, ?_⟩
        rw [Bool.true_and] at q'
        exact q'
      · rw [decide_eq_false h1] at q' ⊢
        exact iteF q'
theorem ok_ListOfT {f : Addr} {fd : FuncData} {k : Nat} (F : Fun K "is_list_of" "is_list_of" sListOf f fd) (B : Blt mg) : FnOk P w K mg base CX0 (k + 1) f fd ["thing", "least", "most"] (spListOfT K) := by
  refine F.ok scListOf (fun vs H Q E h => ?_) (fun cdv A outer s H vs Q E hr h => ?_)
  · obtain ⟨l, v, og, lo, hi, rfl, _⟩ := h
    rfl
  · obtain ⟨l, v, og, lo, hi, rfl, hv, q⟩ := h
    refine ⟨_, pss_one (ps_ret (pe_and (pe_callB call_isi (by rfl) B.isinstance_ (by decide +kernel) (pa_cons (pv 0) (pa_cons (pe_bltn (v := .ty "list") (by rfl) B.list_ (by decide +kernel) rfl) pa_nil)))
      (pe_one (pe_chain op_le op_le (pv 1) (pe_callB call_len_seq (by rfl) B.len_ PySem.boot_len (pa_cons (pv 0) pa_nil)) (pv 2))))), ?_⟩
    cases og with
    | none =>
      obtain ⟨n, ht, h1⟩ := hv.ty
      exact ⟨_, rfl, _, _, _, _, false, rfl, .ty "list", ht, kit_ty h1, _, rfl, iteF q⟩
    | some os =>
      cases hv with
      | @lst a xs _ ha hn ht =>
        have q' : Q (.bl (decide (lo ≤ (os.length : Int)) && decide ((os.length : Int) ≤ hi))) H := q
        rw [← ht.1] at q'
        refine ⟨_, rfl, _, _, _, _, true, rfl, .ty "list", .base (.lst ha), kit_ty (by decide +kernel), _, rfl, iteT ?_⟩
        refine ⟨_, rfl, _, rfl, a, xs, rfl, .inl (SqL.of ha), lo, _, rfl, rfl, _, rfl, ?_⟩
        by_cases h1 : lo ≤ (xs.length : Int)
        · rw [decide_eq_true h1] at q' ⊢
          refine iteT ⟨_, rfl, _, hi, rfl, rfl, ?_⟩
          rw [Bool.true_and] at q'
          exact q'
        · rw [decide_eq_false h1] at q' ⊢
          exact iteF q'
theorem scChkW : FnScope ["worlds"] ["worlds"] (defScope sChkW) := ⟨rfl, rfl, rfl, by decide +kernel, rfl, by decide +kernel, by decide +kernel⟩
theorem ok_ChkW {f fW : Addr} {fd fdW fdN : FuncData} {k : Nat} (F : Fun K "check_worlds" "check_worlds" sChkW f fd) (R : RuT K mg C fI fRo fWo fLe fEq) (T : ErT K mg CN fN CG fG CU fU CM fM) (GN : FnOk P w K mg base CX0 k fN fdN ["self", "number"] (spE1 CN "number")) (bN : Binds K fdN ["self", "number"] [])
    (GW : FnOk P w K mg base CX0 k fW fdW ["thing", "least", "most"] (spWithinT K)) (kW : PySem.W.keepIn K (.ref fW) = true) (bW : Binds K fdW ["thing", "least", "most"] []) (gW : mg "is_whole_within" = some (.ref fW)) : FnOk P w K mg base (L2.CX P w) (k + 2) f fd ["worlds"] (spChkW K CN) := by
  obtain ⟨t5, g5⟩ := R.g5
  refine F.okX scChkW (fun vs H Q E h => ?_) (fun cdv A outer s H vs Q E hr h => ?_)
  · obtain ⟨l, v, o, d, rfl, _⟩ := h
    rfl
  · obtain ⟨l, v, o, d, rfl, hv, qE, q⟩ := h
    have hk : Room k _ := hr.mono (by omega)
    refine ⟨_, pss_one (ps_if (pt_not (pt_val (pe_call GW hk (by rfl) gW kW bW .nil pass0 (pa_cons (pv 0) (pa_cons pe_int (pa_cons (pe_glob (v := .int 5) (by rfl) g5 ⟨_, rfl⟩) pa_nil)))))) (pss_one (ps_raise (W := fun cls d _ H' => E cls d H') rfl (takes_of rfl rfl rfl rfl) (pmk_oex T.oN T.N.i T.N.t GN hr bN .nil pass0 (by rfl) T.N.g (pa_cons (pv 0) pa_nil)))) pss_nil), ?_⟩
    refine ⟨_, rfl, l, v, o, d, 1, 5, rfl, hv, _, rfl, ?_⟩
    cases c : inR o 1 5 with
    | true => exact iteF (q c)
    | false => exact iteT ⟨_, rfl, mk1 fun dx hdx => qE c dx hdx⟩
end
end K13

set_option Elab.async false
set_option linter.all false
set_option maxRecDepth 100000
set_option maxHeartbeats 4000000
namespace K13
open PySem PySem.Spec PyProof.Rows L2 BX EXB Co Ru
open Fr (Bd)
section
variable {P : Program} {w : World} {K : PySem.W.Frag} {mg : Str → Option Value} {base : Heap} {C fI fRo fWo fLe fEq CN fN CG fG CU fU CM fM : Addr}
theorem scSilence : FnScope ["worlds", "world"] ["worlds"] (defScope sSilence) := ⟨rfl, rfl, rfl, by decide +kernel, rfl, by decide +kernel, by decide +kernel⟩
theorem ok_Silence {f fW : Addr} {fd fdW : FuncData} {k : Nat} (F : Fun K "silence" "silence" sSilence f fd) (D : RuD P w K mg base C fI fRo fWo fLe fEq k) (GW : FnOk P w K mg base (L2.CX P w) k fW fdW ["worlds"] (spChkW K CN)) (kW : PySem.W.keepIn K (.ref fW) = true) (bW : Binds K fdW ["worlds"] []) (gW : mg "check_worlds" = some (.ref fW)) (B : Blt mg) : FnOk P w K mg base (L2.CX P w) (k + 2) f fd ["worlds"] (spSil K CN) := by
  obtain ⟨fdI, GI, bI⟩ := D.init
  refine F.okX scSilence (fun vs H Q E h => ?_) (fun cdv A outer s H vs Q E hr h => ?_)
  · obtain ⟨l, v, o, d, rfl, _⟩ := h
    rfl
  · obtain ⟨l, v, o, d, rfl, hv, qE, q⟩ := h
    have hk : Room k _ := hr.mono (by omega)
    refine ⟨_, pss_cons (ps_expr (pe_call GW hk (by rfl) gW kW bW .nil (passes_call (W := fun cls d _ H' => E cls d H') (takes_of rfl rfl rfl rfl) (fun _ _ _ _ h => h)) (pa_cons (pv 0) pa_nil)))
      (PSs.nox (pss_one (ps_ret (pe_make D.T.mkC GI hr (by rfl) D.T.gC bI .nil pass0 (pa_cons (pe_lc (own := [("world", 1)]) (g := gName 1) (tt := tYes) (te := tLst (tCons (tTup (tCons (tC (.int 1)) (tCons (tC (.int 1)) tNil))) tNil)) rfl scSilence.nd (pi_range1 (by rfl) B.range_ (pa_cons (pv 0) pa_nil))
        (blkOk_by (N := ["worlds", "world"]) (sc := defScope sSilence) (by decide +kernel)) (fun _ _ _ _ _ => pg_name (i := 1) scSilence.nd rfl (Or.inl rfl)) (fun _ _ _ _ _ => pts_nil) (fun _ _ _ _ _ => pe_lst (pa_cons (pe_tup (pa_cons pe_int (pa_cons pe_int pa_nil))) pa_nil))) pa_nil))))), ?_⟩
    refine ⟨_, rfl, l, v, o, d, rfl, hv, qE, fun hin => ?_⟩
    obtain ⟨ii, rfl, h1, h5⟩ := inR_some hin
    obtain ⟨i, rfl⟩ : ∃ i : Nat, ii = (i : Int) := ⟨ii.toNat, by omega⟩
    rw [hv.some_]
    replace q := q hin
    refine ⟨_, rfl, (i : Int), rfl, by omega, by omega, fun L hL => lc_range (lo := 0) (n := (i : Int).toNat) (fun j H' => ∃ rs, New K H H' L L rs (List.replicate j [1]) 1) ⟨[], New.start hL⟩ ?_ ?_⟩
    · rintro j H' hj ⟨rs, N⟩
      refine ⟨rfl, ?_⟩
      unfold tYes
      dsimp only
      refine iteT ?_
      refine ⟨(by show 2 ≤ sizeLine; decide), fun t ht => ⟨(by show 1 ≤ sizeLine; decide), fun p hp => ?_⟩⟩
      have s1 := same_new ht (.tup [V.int 1, V.int 1])
      have s2 := same_new hp (.lst [V.ref t])
      have N2 := N.stepS (s1.trans s2)
      have hlL : p ≠ L := fun e => by
        rw [e] at hp
        have := s1 _ _ N.at_
        rw [hp] at this
        cases this
      have f1 : FrN K (upd (upd H' t (.tup [V.int 1, V.int 1])) p (.lst [V.ref t])) 1 ([] ++ [V.ref t]) ([] ++ [1]) := FrN.nil.snoc (q := 1) (seqT s2 (SqT.of upd_same)) bd_one
      refine ⟨_, N2.at_, ?_, rs ++ [p], ?_⟩
      · rw [List.length_map, N.rows.1, List.length_replicate]
        exact small1000 (by omega)
      · rw [List.replicate_succ']
        exact New.push N N2 (s1.free hp) upd_same f1 hlL
    · rintro H' ⟨rs, N⟩
      rw [Int.toNat_natCast] at N
      have fr := N.toFresh
      exact mk_rule fr.1 (good_silence (by omega) (by omega)) (by decide) fun x H2 s2 hx hr2 => q x H2 (fr.2.2.2.2.2.trans s2)
theorem scAllTold : FnScope ["worlds", "world"] ["worlds"] (defScope sAllTold) := ⟨rfl, rfl, rfl, by decide +kernel, rfl, by decide +kernel, by decide +kernel⟩
theorem ok_AllTold {f fW fR : Addr} {fd fdW fdR : FuncData} {k : Nat} (F : Fun K "all_told" "all_told" sAllTold f fd) (D : RuD P w K mg base C fI fRo fWo fLe fEq k) (GW : FnOk P w K mg base (L2.CX P w) k fW fdW ["worlds"] (spChkW K CN)) (kW : PySem.W.keepIn K (.ref fW) = true) (bW : Binds K fdW ["worlds"] []) (gW : mg "check_worlds" = some (.ref fW))
    (GR : FnOk P w K mg base CX0 k fR fdR ["world", "worlds"] (spToldRow K)) (kR : PySem.W.keepIn K (.ref fR) = true) (bR : Binds K fdR ["world", "worlds"] []) (gR : mg "told_row" = some (.ref fR)) (B : Blt mg) : FnOk P w K mg base (L2.CX P w) (k + 2) f fd ["worlds"] (spSil K CN) := by
  obtain ⟨fdI, GI, bI⟩ := D.init
  refine F.okX scAllTold (fun vs H Q E h => ?_) (fun cdv A outer s H vs Q E hr h => ?_)
  · obtain ⟨l, v, o, d, rfl, _⟩ := h
    rfl
  · obtain ⟨l, v, o, d, rfl, hv, qE, q⟩ := h
    have hk : Room k _ := hr.mono (by omega)
    refine ⟨_, pss_cons (ps_expr (pe_call GW hk (by rfl) gW kW bW .nil (passes_call (W := fun cls d _ H' => E cls d H') (takes_of rfl rfl rfl rfl) (fun _ _ _ _ h => h)) (pa_cons (pv 0) pa_nil)))
      (PSs.nox (pss_one (ps_ret (pe_make D.T.mkC GI hr (by rfl) D.T.gC bI .nil pass0 (pa_cons (pe_lc (own := [("world", 1)]) (g := gName 1) (tt := tYes) (te := tCall (spToldRow K) [] E0 (tCons (tVar 1) (tCons (tVar 0) tNil))) rfl scAllTold.nd (pi_range1 (by rfl) B.range_ (pa_cons (pv 0) pa_nil))
        (blkOk_by (N := ["worlds", "world"]) (sc := defScope sAllTold) (by decide +kernel)) (fun _ _ _ _ _ => pg_name (i := 1) scAllTold.nd rfl (Or.inl rfl)) (fun _ _ _ _ _ => pts_nil) (fun _ _ _ _ _ => pe_call GR hk (by rfl) gR kR bR .nil pass0 (pa_cons (pv 1) (pa_cons (pv 0) pa_nil)))) pa_nil))))), ?_⟩
    refine ⟨_, rfl, l, v, o, d, rfl, hv, qE, fun hin => ?_⟩
    obtain ⟨ii, rfl, h1, h5⟩ := inR_some hin
    obtain ⟨i, rfl⟩ : ∃ i : Nat, ii = (i : Int) := ⟨ii.toNat, by omega⟩
    rw [hv.some_]
    replace q := q hin
    refine ⟨_, rfl, (i : Int), rfl, by omega, by omega, fun L hL => lc_range (lo := 0) (n := (i : Int).toNat) (fun j H' => ∃ rs, New K H H' L L rs ((List.range j).map (unit i)) 1) ⟨[], New.start hL⟩ ?_ ?_⟩
    · rintro j H' hj ⟨rs, N⟩
      refine ⟨rfl, ?_⟩
      unfold tYes
      dsimp only
      refine iteT ?_
      refine ⟨_, rfl, _, rfl, i, j, by rw [Int.zero_add]; rfl, by omega, fun p cs H1 s1 hp hcs hf => ?_⟩
      have N2 := N.stepS s1
      have hlL : p ≠ L := fun e => by
        rw [e, N.at_] at hp
        cases hp
      refine ⟨_, N2.at_, ?_, rs ++ [p], ?_⟩
      · rw [List.length_map, N.rows.1, List.length_map, List.length_range]
        exact small1000 (by omega)
      · rw [List.range_succ, List.map_append]
        exact New.push N N2 hp hcs hf hlL
    · rintro H' ⟨rs, N⟩
      rw [Int.toNat_natCast] at N
      have fr := N.toFresh
      exact mk_rule fr.1 (good_all (by omega) (by omega)) (by decide) fun x H2 s2 hx hr2 => q x H2 (fr.2.2.2.2.2.trans s2)
theorem scBeside : FnScope ["one", "other", "many", "row", "second"] ["one", "other"] (defScope sBeside) := ⟨rfl, rfl, rfl, by decide +kernel, rfl, by decide +kernel, by decide +kernel⟩
theorem ok_Beside {f fB : Addr} {fd fdB fdU fdM : FuncData} {k : Nat} (F : Fun K "beside" "beside" sBeside f fd) (D : RuD P w K mg base C fI fRo fWo fLe fEq k) (T : ErT K mg CN fN CG fG CU fU CM fM)
    (GU : FnOk P w K mg base CX0 k fU fdU ["self", "one", "other"] (spE2 CU "one" "other")) (bU : Binds K fdU ["self", "one", "other"] []) (GM : FnOk P w K mg base CX0 k fM fdM ["self", "many"] (spE1 CM "many")) (bM : Binds K fdM ["self", "many"] [])
    (GB : FnOk P w K mg base CX0 k fB fdB ["row", "second"] (spRowB K)) (kB : PySem.W.keepIn K (.ref fB) = true) (bB : Binds K fdB ["row", "second"] []) (gB : mg "row_beside" = some (.ref fB)) (B : Blt mg) : FnOk P w K mg base (L2.CX P w) (k + 2) f fd ["one", "other"] (spBes K C CU CM) := by
  obtain ⟨fdI, GI, bI⟩ := D.init
  obtain ⟨fdR, GR, bR⟩ := D.rows
  obtain ⟨fdW, GW, bW⟩ := D.worlds
  obtain ⟨fdL, GL, bL⟩ := D.len
  obtain ⟨t30, g30⟩ := D.T.g30
  refine F.okX scBeside (fun vs H Q E h => ?_) (fun cdv A outer s H vs Q E hr h => ?_)
  · obtain ⟨x, y, r1, r2, m1, m2, rfl, _⟩ := h
    rfl
  · obtain ⟨x, y, r1, r2, m1, m2, rfl, hx, hy, g1, g2, qU, qM, q⟩ := h
    have hk : Room k _ := hr.mono (by omega)
    refine ⟨_, pss_cons (ps_if (pt_cmpR op_ne (pe_meth0 (pv 0) D.T.cl D.T.mW GW hk bW .nil pass0) (pe_meth0 (pv 1) D.T.cl D.T.mW GW hk bW .nil pass0) (nomark _)) (pss_one (ps_raise (W := fun cls d _ H' => E cls d H') rfl (takes_of rfl rfl rfl rfl) (pmk_oex T.oU T.U.i T.U.t GU hr bU .nil pass0 (by rfl) T.U.g (pa_cons (pe_meth0 (pv 0) D.T.cl D.T.mW GW hk bW .nil pass0) (pa_cons (pe_meth0 (pv 1) D.T.cl D.T.mW GW hk bW .nil pass0) pa_nil))))) pss_nil)
      (pss_cons (ps_set (i := 2) scBeside.nd rfl (.inl rfl) (pe_op op_mul (pe_callB (call_lenO D.T.lL D.T.fnL GL hr bL) (by rfl) B.len_ PySem.boot_len (pa_cons (pv 0) pa_nil)) (pe_callB (call_lenO D.T.lL D.T.fnL GL hr bL) (by rfl) B.len_ PySem.boot_len (pa_cons (pv 1) pa_nil))))
      (pss_cons (ps_if (pt_cmpR op_gt (pv 2) (pe_glob (v := .int 30) (by rfl) g30 ⟨_, rfl⟩) (nomark _)) (pss_one (ps_raise (W := fun cls d _ H' => E cls d H') rfl (takes_of rfl rfl rfl rfl) (pmk_exF PySem.F.excBase_OverflowError T.oM.c T.M.i T.M.t GM hr bM .nil pass0 (by rfl) T.M.g (pa_cons (pv 2) pa_nil)))) pss_nil)
      (PSs.nox (pss_one (ps_ret (pe_make D.T.mkC GI hr (by rfl) D.T.gC bI .nil pass0 (pa_cons (pe_lc (own := [("row", 3), ("second", 4)]) (g := gTup K 2 (gCons (gName 3) (gCons (gName 4) gNil))) (tt := tYes) (te := tCall (spRowB K) [] E0 (tCons (tVar 3) (tCons (tVar 4) tNil))) rfl scBeside.nd
        (pi_zip (by rfl) B.zip_ (pa_cons (pe_meth0 (pv 0) D.T.cl D.T.mR GR hk bR .nil pass0) (pa_cons (pe_meth0 (pv 1) D.T.cl D.T.mR GR hk bR .nil pass0) pa_nil)))
        (blkOk_by (N := ["one", "other", "many", "row", "second"]) (sc := defScope sBeside) (by decide +kernel)) (fun _ _ _ _ _ => pg_tup rfl (pgs_cons (pg_name (i := 3) scBeside.nd rfl (.inl rfl)) (pgs_cons (pg_name (i := 4) scBeside.nd rfl (.inl rfl)) pgs_nil))) (fun _ _ _ _ _ => pts_nil)
        (fun _ _ _ _ _ => pe_call GB hk (by rfl) gB kB bB .nil pass0 (pa_cons (pv 3) (pa_cons (pv 4) pa_nil)))) pa_nil))))))), ?_⟩
    obtain ⟨dx, ra, rs, ex, ew⟩ := id hx
    obtain ⟨dy, rb, rt, ey, ev⟩ := id hy
    refine ⟨_, rfl, x, dx, _, rfl, ex, rfl, x, r1, 8, rfl, hx, _, rfl, y, dy, _, rfl, ey, rfl, y, r2, 8, rfl, hy, rfl, _, rfl, ?_⟩
    by_cases hl : r1.length = r2.length
    rotate_left
    · rw [decide_eq_false (fun z => hl (by have := V.int.inj z; omega))]
      refine iteT ?_
      refine ⟨_, rfl, x, dx, _, rfl, ex, rfl, x, r1, 8, rfl, hx, _, rfl, y, dy, _, rfl, ey, rfl, y, r2, 8, rfl, hy, mk2 fun dd hdd => qU hl dd hdd⟩
    rw [hl, decide_eq_true rfl]
    refine iteF ?_
    have b1 := g1.m30
    have b2 := g2.m30
    refine ⟨_, rfl, x, dx, _, rfl, ex, x, r1, 8, m1, rfl, hx, g1, m1, rfl, by omega, _, rfl, y, dy, _, rfl, ey, y, r2, 8, m2, rfl, hy, g2, m2, rfl, by omega, _, _, rfl, rfl, .inl ⟨by omega, by omega⟩, ?_⟩
    refine ⟨_, rfl, _, _, rfl, rfl, _, rfl, ?_⟩
    by_cases hm : m1 * m2 ≤ 30
    rotate_left
    · have hmz : (30 : Int) < (m1 : Int) * (m2 : Int) := by
        rw [← Int.natCast_mul]
        omega
      rw [decide_eq_true hmz]
      exact iteT ⟨_, rfl, mk1 fun dd hdd => qM hl hm dd hdd⟩
    have hmz : ¬ (30 : Int) < (m1 : Int) * (m2 : Int) := by
      rw [← Int.natCast_mul]
      omega
    rw [decide_eq_false hmz]
    refine iteF ?_
    replace q := q hl hm
    have w5 := g1.w5
    have w5' := g2.w5
    refine ⟨_, rfl, x, dx, _, rfl, ex, rfl, x, r1, 8, rfl, hx, by omega, fun D1 rs1 H1 fr1 => ?_⟩
    have s1 := fr1.2.2.2.2.2
    refine ⟨_, rfl, y, dy, _, rfl, s1 _ _ ey, rfl, y, r2, 8, rfl, hy.same s1, by omega, fun D2 rs2 H2 fr2 => ?_⟩
    have s2 := fr2.2.2.2.2.2
    have w1 : RwL K H2 D1 rs1 r1 8 := fr1.1.same s2
    have w2 : RwL K H2 D2 rs2 r2 8 := fr2.1
    have hz : r1.length = min (rs1.map V.ref).length (rs2.map V.ref).length := by
      rw [List.length_map, List.length_map, w1.2.1, w2.2.1, ← hl, Nat.min_self]
    refine ⟨D1, D2, _, _, rfl, SqL.of w1.1, SqL.of w2.1, fun L hL => lc_it (walk_zip (K := K) (a := D1) (b := D2) (xs := rs1.map V.ref) (ys := rs2.map V.ref) hz) (fun i H' => ∃ rs, New K H2 H' L L rs ((List.zipWith rowB r1 r2).take i) (8 + 8)) ⟨[], New.start hL⟩
      (fun i H' _ ⟨rs, N⟩ => ⟨SqL.of (N.toFresh.2.2.2.2.2 _ _ w1.1), SqL.of (N.toFresh.2.2.2.2.2 _ _ w2.1)⟩) ?_ ?_⟩
    · rintro i v H3 H4 hi ⟨rs, N⟩ ⟨T, u, v', rfl, nT, rfl, e1, e2⟩
      have s3 := N.toFresh.2.2.2.2.2
      have e1' : (rs1.map V.ref)[i]? = some u := e1
      have e2' : (rs2.map V.ref)[i]? = some v' := e2
      rw [List.getElem?_map] at e1' e2'
      obtain ⟨a1, ea1, rfl⟩ : ∃ r, rs1[i]? = some r ∧ u = .ref r := by
        cases e : rs1[i]? with
        | none => rw [e] at e1'; cases e1'
        | some r => rw [e] at e1'; exact ⟨r, rfl, (Option.some.inj e1').symm⟩
      obtain ⟨a2, ea2, rfl⟩ : ∃ r, rs2[i]? = some r ∧ v' = .ref r := by
        cases e : rs2[i]? with
        | none => rw [e] at e2'; cases e2'
        | some r => rw [e] at e2'; exact ⟨r, rfl, (Option.some.inj e2').symm⟩
      obtain ⟨c1, q1, o1, o2, o3⟩ := w1.2.2 i a1 ea1
      obtain ⟨c2, q2, p1, p2, p3⟩ := w2.2.2 i a2 ea2
      have sT := same_new nT (.tup [V.ref a1, V.ref a2])
      have s4 := s3.trans sT
      refine ⟨T, _, rfl, SqT.of upd_same, rfl, _, _, rfl, _, _, rfl, rfl, rfl, ?_⟩
      unfold tYes
      dsimp only
      refine iteT ?_
      have k1 := (g1.row q1 (List.mem_of_getElem? o1)).1
      have k2 := (g2.row q2 (List.mem_of_getElem? p1)).1
      refine ⟨_, rfl, _, rfl, a1, a2, c1, c2, q1, q2, 8, 8, rfl, s4 _ _ o2, o3.same s4, s4 _ _ p2, p3.same s4, by decide, by omega, by omega, fun l cs H5 s5 hl5 hcs hf => ?_⟩
      have N2 := N.stepS (sT.trans s5)
      have hl3 : H3 l = none := sT.free hl5
      have hlL : l ≠ L := fun e => by
        rw [e, N.at_] at hl3
        cases hl3
      refine ⟨_, N2.at_, ?_, rs ++ [l], ?_⟩
      · rw [List.length_map, N.rows.1, List.length_take, List.length_zipWith]
        exact small1000 (by omega)
      · have ez : (List.zipWith rowB r1 r2)[i]? = some (rowB q1 q2) := by
          rw [List.getElem?_zipWith, o1, p1]
        rw [List.take_add_one, ez]
        exact New.push N N2 hl3 hcs hf hlL
    · rintro H3 ⟨rs, N⟩
      have ez : (List.zipWith rowB r1 r2).take r1.length = List.zipWith rowB r1 r2 := List.take_of_length_le (by rw [List.length_zipWith]; omega)
      rw [ez] at N
      have fr := N.toFresh
      have sa := (s1.trans s2).trans fr.2.2.2.2.2
      exact mk_rule fr.1 (good_beside g1 g2 hl hm) (by decide) fun x H4 s4 hx4 hr4 => q x H4 (sa.trans s4)
theorem scChkG : FnScope ["groups", "words", "many", "word", "group"] ["groups", "words", "many"] (defScope sChkG) := ⟨rfl, rfl, rfl, by decide +kernel, rfl, by decide +kernel, by decide +kernel⟩
theorem ok_ChkG {f fL fW : Addr} {fd fdL fdW fdG : FuncData} {k : Nat} (F : Fun K "check_groups" "check_groups" sChkG f fd) (T : ErT K mg CN fN CG fG CU fU CM fM) (GG : FnOk P w K mg base CX0 k fG fdG ["self", "word"] (spE1 CG "word")) (bG : Binds K fdG ["self", "word"] [])
    (GL : FnOk P w K mg base CX0 k fL fdL ["thing", "least", "most"] (spListOfT K)) (kL : PySem.W.keepIn K (.ref fL) = true) (bL : Binds K fdL ["thing", "least", "most"] []) (gL : mg "is_list_of" = some (.ref fL))
    (GW : FnOk P w K mg base CX0 k fW fdW ["thing", "least", "most"] (spWithinT K)) (kW : PySem.W.keepIn K (.ref fW) = true) (bW : Binds K fdW ["thing", "least", "most"] []) (gW : mg "is_whole_within" = some (.ref fW)) (B : Blt mg) : FnOk P w K mg base (L2.CX P w) (k + 2) f fd ["groups", "words", "many"] (spChkGT K CG) := by
  refine F.okX scChkG (fun vs H Q E h => ?_) (fun cdv A outer s H vs Q E hr h => ?_)
  · obtain ⟨l, v, og, words, many, rfl, _⟩ := h
    rfl
  · obtain ⟨l, v, og, words, many, rfl, hv, qE, q⟩ := h
    have hk : Room k _ := hr.mono (by omega)
    refine ⟨_, pss_cons (ps_if (pt_not (pt_val (pe_call GL hk (by rfl) gL kL bL .nil pass0 (pa_cons (pv 0) (pa_cons (pv 1) (pa_cons (pv 1) pa_nil)))))) (pss_one (ps_raise (W := fun cls d _ H' => E cls d H') rfl (takes_of rfl rfl rfl rfl) (pmk_oex T.oG T.G.i T.G.t GG hr bG .nil pass0 (by rfl) T.G.g (pa_cons pe_non pa_nil)))) pss_nil)
      (pss_one (ps_for (passes_of rfl) rfl (pi_enum (by rfl) B.enumerate_ (pa_cons (pv 0) pa_nil)) (pg_tup rfl (pgs_cons (pg_name (i := 3) scChkG.nd rfl (.inl rfl)) (pgs_cons (pg_name (i := 4) scChkG.nd rfl (.inl rfl)) pgs_nil)))
        (pss_one (ps_if (pt_not (pt_val (pe_call GW hk (by rfl) gW kW bW .nil pass0 (pa_cons (pv 4) (pa_cons pe_int (pa_cons (pe_op op_sub (pv 2) pe_int) pa_nil)))))) (pss_one (ps_raise (W := fun cls d _ H' => E cls d H') rfl (takes_of rfl rfl rfl rfl) (pmk_oex T.oG T.G.i T.G.t GG hr bG .nil pass0 (by rfl) T.G.g (pa_cons (pv 3) pa_nil)))) pss_nil)))), ?_⟩
    refine ⟨_, rfl, _, rfl, _, rfl, l, v, og, _, _, rfl, hv, _, rfl, ?_⟩
    cases og with
    | none => exact iteT (mk1 fun dx hdx => qE _ rfl _ dx (same_new hdx _) upd_same)
    | some os =>
      by_cases hlen : os.length = words
      rotate_left
      · have e : lenIn (some os) (words : Int) (words : Int) = false := by
          show (decide ((words : Int) ≤ (os.length : Int)) && decide ((os.length : Int) ≤ (words : Int))) = false
          rw [Bool.and_eq_false_iff, decide_eq_false_iff_not, decide_eq_false_iff_not]
          omega
        rw [e]
        exact iteT (mk1 fun dx hdx => qE .non (by show (if os.length = words then _ else _) = _; rw [if_neg hlen]) _ dx (same_new hdx _) upd_same)
      have e : lenIn (some os) (words : Int) (words : Int) = true := by
        show (decide ((words : Int) ≤ (os.length : Int)) && decide ((os.length : Int) ≤ (words : Int))) = true
        rw [Bool.and_eq_true, decide_eq_true_eq, decide_eq_true_eq]
        omega
      rw [e]
      refine iteF ?_
      have gb : gBad (some os) words many = (firstBad many os 0).map fun i => V.int (i : Nat) := by
        show (if os.length = words then _ else _) = _
        rw [if_pos hlen]
      rw [gb] at qE q
      cases hv with
      | @lst a xs _ ha hn ht =>
        refine ⟨_, rfl, a, _, rfl, SqL.of ha, for_it (walk_enum (K := K) (a := a) (xs := xs)) (fun i σ H' => ∃ y3 y4 : Option V, σ = [some (.ref a), some (.int (words : Int)), some (.int (many : Int)), y3, y4] ∧ Same H H' ∧ firstBad many os 0 = firstBad many (os.drop i) i)
          ⟨none, none, rfl, Same.refl _, by rw [List.drop_zero]⟩ (fun i σ H' _ ⟨_, _, _, s5, _⟩ => SqL.of (s5 _ _ ha)) ?_ ?_⟩
        · rintro i x σ H1 H2 hi ⟨y3, y4, rfl, s5, fb⟩ ⟨TT, u, vv, rfl, nT, rfl, e1, e2⟩
          cases (Option.some.inj e1)
          obtain ⟨o, d, f1, f2⟩ := ht.2 i vv e2
          have sT := same_new nT (.tup [V.int (i : Nat), vv])
          refine ⟨TT, _, rfl, SqT.of upd_same, rfl, _, _, rfl, _, _, rfl, rfl, ?_⟩
          refine ⟨_, rfl, _, rfl, _, _, rfl, rfl, l, vv, o, d, 0, (many : Int) - 1, rfl, f2.same (s5.trans sT), _, rfl, ?_⟩
          rw [firstBad_drop f1] at fb
          cases c : inR o 0 ((many : Int) - 1) with
          | true =>
            rw [if_pos c] at fb
            exact iteF ⟨_, _, rfl, s5.trans sT, fb⟩
          | false =>
            rw [if_neg (by rw [c]; decide)] at fb
            exact iteT ⟨_, rfl, mk1 fun dx hdx => qE (V.int (i : Nat)) (by rw [fb]; rfl) _ dx (s5.trans (sT.trans (same_new hdx _))) upd_same⟩
        · rintro σ H1 ⟨y3, y4, rfl, s5, fb⟩
          rw [ht.1, List.drop_length] at fb
          exact q (by rw [fb]; rfl) H1 s5
theorem scGrouped : FnScope ["rule", "groups", "many", "row"] ["rule", "groups", "many"] (defScope sGrouped) := ⟨rfl, rfl, rfl, by decide +kernel, rfl, by decide +kernel, by decide +kernel⟩
theorem ok_Grouped {f fG' fW fK : Addr} {fd fdG' fdW fdK fdN : FuncData} {k : Nat} (F : Fun K "grouped" "grouped" sGrouped f fd) (D : RuD P w K mg base C fI fRo fWo fLe fEq k) (T : ErT K mg CN fN CG fG CU fU CM fM) (GN : FnOk P w K mg base CX0 k fN fdN ["self", "number"] (spE1 CN "number")) (bN : Binds K fdN ["self", "number"] [])
    (GG' : FnOk P w K mg base CX0 k fG' fdG' ["row", "groups", "many"] (spGrpRow K)) (kG' : PySem.W.keepIn K (.ref fG') = true) (bG' : Binds K fdG' ["row", "groups", "many"] []) (gG' : mg "grouped_row" = some (.ref fG'))
    (GW : FnOk P w K mg base CX0 k fW fdW ["thing", "least", "most"] (spWithinT K)) (kW : PySem.W.keepIn K (.ref fW) = true) (bW : Binds K fdW ["thing", "least", "most"] []) (gW : mg "is_whole_within" = some (.ref fW))
    (GK : FnOk P w K mg base (L2.CX P w) k fK fdK ["groups", "words", "many"] (spChkGT K CG)) (kK : PySem.W.keepIn K (.ref fK) = true) (bK : Binds K fdK ["groups", "words", "many"] []) (gK : mg "check_groups" = some (.ref fK)) (B : Blt mg) : FnOk P w K mg base (L2.CX P w) (k + 2) f fd ["rule", "groups", "many"] (spGrd K C CN CG) := by
  obtain ⟨fdI, GI, bI⟩ := D.init
  obtain ⟨fdR, GR, bR⟩ := D.rows
  obtain ⟨fdL, GL, bL⟩ := D.len
  obtain ⟨t30, g30⟩ := D.T.g30
  refine F.okX scGrouped (fun vs H Q E h => ?_) (fun cdv A outer s H vs Q E hr h => ?_)
  · obtain ⟨l, x, g, t, rss, m, og, ot, dt, rfl, _⟩ := h
    rfl
  · obtain ⟨l, x, g, t, rss, m, og, ot, dt, rfl, hx, hg, hgp, hth, qN, qG, q⟩ := h
    have hk : Room k _ := hr.mono (by omega)
    refine ⟨_, pss_cons (ps_if (pt_not (pt_val (pe_call GW hk (by rfl) gW kW bW .nil pass0 (pa_cons (pv 2) (pa_cons pe_int (pa_cons (pe_glob (v := .int 30) (by rfl) g30 ⟨_, rfl⟩) pa_nil)))))) (pss_one (ps_raise (W := fun cls d _ H' => E cls d H') rfl (takes_of rfl rfl rfl rfl) (pmk_oex T.oN T.N.i T.N.t GN hr bN .nil pass0 (by rfl) T.N.g (pa_cons (pv 2) pa_nil)))) pss_nil)
      (pss_cons (ps_expr (pe_call GK hk (by rfl) gK kK bK .nil (passes_call (W := fun cls d _ H' => E cls d H') (takes_of rfl rfl rfl rfl) (fun _ _ _ _ h => h)) (pa_cons (pv 1) (pa_cons (pe_callB (call_lenO D.T.lL D.T.fnL GL hr bL) (by rfl) B.len_ PySem.boot_len (pa_cons (pv 0) pa_nil)) (pa_cons (pv 2) pa_nil)))))
      (PSs.nox (pss_one (ps_ret (pe_make D.T.mkC GI hr (by rfl) D.T.gC bI .nil pass0 (pa_cons (pe_lc (own := [("row", 3)]) (g := gName 3) (tt := tYes) (te := tCall (spGrpRow K) [] E0 (tCons (tVar 3) (tCons (tVar 1) (tCons (tVar 2) tNil)))) rfl scGrouped.nd
        (pi_list (pe_meth0 (pv 0) D.T.cl D.T.mR GR hk bR .nil pass0)) (blkOk_by (N := ["rule", "groups", "many", "row"]) (sc := defScope sGrouped) (by decide +kernel)) (fun _ _ _ _ _ => pg_name (i := 3) scGrouped.nd rfl (.inl rfl)) (fun _ _ _ _ _ => pts_nil)
        (fun _ _ _ _ _ => pe_call GG' hk (by rfl) gG' kG' bG' .nil pass0 (pa_cons (pv 3) (pa_cons (pv 1) (pa_cons (pv 2) pa_nil))))) pa_nil)))))), ?_⟩
    obtain ⟨dx, ra, rs, ex, ew⟩ := id hx
    have m30 := hg.m30
    have w5 := hg.w5
    refine ⟨_, rfl, l, t, ot, dt, 1, 30, rfl, hth, _, rfl, ?_⟩
    cases c : inR ot 1 30 with
    | false => exact iteT ⟨_, rfl, mk1 fun dd hdd => qN c dd hdd⟩
    | true =>
    refine iteF ?_
    obtain ⟨ii, rfl, h1', h30'⟩ := inR_some c
    obtain ⟨many, rfl⟩ : ∃ i : Nat, ii = (i : Int) := ⟨ii.toNat, by omega⟩
    have h1 : 1 ≤ many := by omega
    have h30 : many ≤ 30 := by omega
    replace qG := qG c
    replace q := q c
    have eD : ((some (many : Int)).getD 0).toNat = many := Int.toNat_natCast many
    rw [eD] at qG q
    rw [hth.some_]
    refine ⟨_, rfl, _, rfl, x, dx, _, rfl, ex, x, rss, 8, m, rfl, hx, hg, m, rfl, by omega, _, rfl, l, g, og, m, many, rfl, hgp, qG, fun hgb H1 s1 => ?_⟩
    replace q := q hgb
    obtain ⟨gl, gs, rfl, hgl, hlm, hgs⟩ : ∃ (gl : Addr) (gs : List Nat), g = .ref gl ∧ H gl = some (.lst (gv gs)) ∧ gs.length = m ∧ ∀ z ∈ gs, z < many := by
      cases og with
      | none => cases hgb
      | some os =>
        have hgb' : (if os.length = m then (firstBad many os 0).map fun i => V.int (i : Nat) else some V.non) = none := hgb
        by_cases hlen : os.length = m
        · rw [if_pos hlen, Option.map_eq_none_iff] at hgb'
          cases hgp with
          | @lst a xs _ ha hn ht =>
            obtain ⟨gs, e1, e2, e3⟩ := ThL.good (many := many) xs os ht (firstBad_good os 0 hgb')
            exact ⟨a, gs, rfl, by rw [← e1]; exact ha, by rw [e2, hlen], e3⟩
        · rw [if_neg hlen] at hgb'
          cases hgb'
    refine ⟨_, rfl, x, dx, _, rfl, s1 _ _ ex, rfl, x, rss, 8, rfl, hx.same s1, by omega, fun D1 rs1 H2 fr1 => ?_⟩
    have s2 := fr1.2.2.2.2.2
    have w1 := fr1.1
    have hgl2 := (s1.trans s2) _ _ hgl
    refine ⟨D1, rfl, ⟨_, SqL.of w1.1⟩, fun L hL => lc_list (K := K) (a := D1) (xs := rs1.map V.ref) (fun i H' => ∃ rs, New K H2 H' L L rs ((rss.take i).map fun qs => grp qs gs (List.replicate many 0)) 280) ⟨[], New.start hL⟩
      (fun i H' _ ⟨rs, N⟩ => SqL.of (N.toFresh.2.2.2.2.2 _ _ w1.1)) ?_ ?_⟩
    · rintro i v H3 hi ⟨rs, N⟩
      have s3 := N.toFresh.2.2.2.2.2
      rw [List.getElem?_map] at hi
      obtain ⟨a1, ea1, rfl⟩ : ∃ r, rs1[i]? = some r ∧ v = .ref r := by
        cases e : rs1[i]? with
        | none => rw [e] at hi; cases hi
        | some r => rw [e] at hi; exact ⟨r, rfl, (Option.some.inj hi).symm⟩
      obtain ⟨c1, q1, o1, o2, o3⟩ := w1.2.2 i a1 ea1
      have k1 := (hg.row q1 (List.mem_of_getElem? o1)).1
      refine ⟨rfl, ?_⟩
      unfold tYes
      dsimp only
      refine iteT ?_
      refine ⟨_, rfl, _, rfl, _, rfl, a1, gl, c1, q1, gs, 8, many, rfl, s3 _ _ o2, o3.same s3, s3 _ _ hgl2, by rw [hlm, k1], by omega, hgs, h30, by decide, fun l cs H5 s5 hl5 hcs hf => ?_⟩
      have N2 := N.stepS s5
      have hlL : l ≠ L := fun e => by
        rw [e, N.at_] at hl5
        cases hl5
      refine ⟨_, N2.at_, ?_, rs ++ [l], ?_⟩
      · rw [List.length_map, N.rows.1, List.length_map, List.length_take]
        exact small1000 (by omega)
      · rw [List.take_add_one, o1, List.map_append]
        exact New.push N N2 hl5 hcs hf hlL
    · rintro H3 ⟨rs, N⟩
      rw [List.length_map, w1.2.1, List.take_length] at N
      have fr := N.toFresh
      have sa := (s1.trans s2).trans fr.2.2.2.2.2
      exact mk_rule fr.1 (good_grouped hg hlm hgs h1 h30) (by decide) fun x H4 s4 hx4 hr4 => q x H4 (sa.trans s4)
end
end K13

set_option Elab.async false
set_option linter.all false
set_option maxRecDepth 100000
set_option maxHeartbeats 8000000
namespace K13
open PySem PySem.Spec PyProof.Rows L2 BX EXB Co Ru
open Fr (Bd)
/-- what is asked of _law_told, and what it answers -/
inductive Asked (K : PySem.W.Frag) (H : Hp) (C l : Addr) : List V → Rsp → Prop
  | way0 {v : V} {o : Option Int} {d : PyData} (h : Th K H l v o d) : Asked K H C l [.int 0, v, .non, .non] (resN o d 5)
  | way1 {v : V} {o : Option Int} {d : PyData} (h : Th K H l v o d) : Asked K H C l [.int 1, v, .non, .non] (resN o d 5)
  | way2 {x y : Addr} {r1 r2 : List (List Rat)} {m1 m2 : Nat} (hx : IsRule K H C x r1 8) (hy : IsRule K H C y r2 8) (g1 : Good r1 m1) (g2 : Good r2 m2) : Asked K H C l [.int 2, .ref x, .ref y, .non] (resB r1 r2 m1 m2)
  | way3 {x : Addr} {g t : V} {r1 : List (List Rat)} {m1 : Nat} {og : Option (List (Option Int))} {ot : Option Int} {dt : PyData} (hx : IsRule K H C x r1 8) (g1 : Good r1 m1) (hg : Gp K H l g og) (ht : Th K H l t ot dt) : Asked K H C l [.int 3, .ref x, g, t] (res3 ot dt og m1)
def spTold (K : PySem.W.Frag) (C : Addr) : Sp := fun vs H Q _ => ∃ (l : Addr) (r : Rsp), Asked K H C l vs r ∧ Ret Q H r
def spNumDue (K : PySem.W.Frag) : Sp := fun vs H Q _ => ∃ (l : Addr) (v : V) (o : Option Int) (d : PyData) (hi : Int), vs = [v, .int hi] ∧ Th K H l v o d ∧ Ret Q H (resN o d hi)
def spGrpDue (K : PySem.W.Frag) : Sp := fun vs H Q _ => ∃ (l : Addr) (v : V) (og : Option (List (Option Int))) (words many : Nat), vs = [v, .int (words : Int), .int (many : Int)] ∧ Gp K H l v og ∧ Ret Q H (resG og words many)
def spOdd (K : PySem.W.Frag) : Sp := fun vs H Q _ => ∃ (l : Addr) (z upto : Int), vs = [.ref l, .int upto] ∧ H l = some (.lst [.int z]) ∧ -2 ≤ upto ∧ upto ≤ 30 ∧ ∀ v o d z' H', SameB l H H' → H' l = some (.lst [.int z']) → Th K H' l v o d → Q v H'
section
variable {P : Program} {w : World} {K : PySem.W.Frag} {mg : Str → Option Value} {base : Heap} {C fI fRo fWo fLe fEq CN fN CG fG CU fU CM fM : Addr}
theorem scTold : FnScope ["_law_way", "_law_one", "_law_other", "_law_third", "e"] ["_law_way", "_law_one", "_law_other", "_law_third"] (defScope sTold) := ⟨rfl, rfl, rfl, by decide +kernel, rfl, by decide +kernel, by decide +kernel⟩
theorem ok_Told {f fS fA fB fG' : Addr} {fd fdS fdA fdB fdG' : FuncData} {k : Nat} (F : Fun K "_law_told" "_law_told" sTold f fd) (T : ErT K mg CN fN CG fG CU fU CM fM)
    (GS : FnOk P w K mg base (L2.CX P w) k fS fdS ["worlds"] (spSil K CN)) (kS : PySem.W.keepIn K (.ref fS) = true) (bS : Binds K fdS ["worlds"] []) (gS : mg "silence" = some (.ref fS)) (GA : FnOk P w K mg base (L2.CX P w) k fA fdA ["worlds"] (spSil K CN)) (kA : PySem.W.keepIn K (.ref fA) = true) (bA : Binds K fdA ["worlds"] []) (gA : mg "all_told" = some (.ref fA))
    (GB : FnOk P w K mg base (L2.CX P w) k fB fdB ["one", "other"] (spBes K C CU CM)) (kB : PySem.W.keepIn K (.ref fB) = true) (bB : Binds K fdB ["one", "other"] []) (gB : mg "beside" = some (.ref fB)) (GG' : FnOk P w K mg base (L2.CX P w) k fG' fdG' ["rule", "groups", "many"] (spGrd K C CN CG)) (kG' : PySem.W.keepIn K (.ref fG') = true) (bG' : Binds K fdG' ["rule", "groups", "many"] []) (gG' : mg "grouped" = some (.ref fG')) (B : Blt mg) :
    FnOkG P w K mg base CX0 (k + 1) f fd ["_law_way", "_law_one", "_law_other", "_law_third"] (spTold K C) := by
  refine okG F scTold (fun vs H Q E h => ?_) (fun cdv A outer s H vs Q E hr hgd h => ?_)
  · obtain ⟨l, r, ha, _⟩ := h
    cases ha <;> rfl
  · obtain ⟨l, r, ha, q⟩ := h
    have hu : (A.deeper (envOfC "_law_told" (defScope sTold) s.heap.objs.size f cdv)).units + 80 < cLine := by have := hr.un; omega
    refine ⟨_, pss_cons (ps_try_clauses
        (tb := fun W => tIfS (tTest (tOp rEq (tVar 0) (tC (.int 0)))) (tDrop (tCallD (spSil K CN) [] (WE W) (tCons (tVar 1) tNil))) (tIfS (tTest (tOp rEq (tVar 0) (tC (.int 1)))) (tDrop (tCallD (spSil K CN) [] (WE W) (tCons (tVar 1) tNil))) (tIfS (tTest (tOp rEq (tVar 0) (tC (.int 2)))) (tDrop (tCallD (spBes K C CU CM) [] (WE W) (tCons (tVar 1) (tCons (tVar 2) tNil)))) (tDrop (tCallD (spGrd K C CN CG) [] (WE W) (tCons (tVar 1) (tCons (tVar 2) (tCons (tVar 3) tNil))))))))
        (Wout := fun _ _ _ _ => False) rfl rfl scTold.nd takes0
        (fun W pn xe tk _ => pss_one (ps_if (by exact (pt_cmpR op_eq (pv 0) pe_int (nomark _))) (pss_one (ps_expr (by exact (pe_callD (.of GS) hr hgd (by rfl) gS kS bS .nil (fun σ => passAt tk σ) (by exact (pa_cons (pv 1) pa_nil))))))
          (pss_one (ps_if (by exact (pt_cmpR op_eq (pv 0) pe_int (nomark _))) (pss_one (ps_expr (by exact (pe_callD (.of GA) hr hgd (by rfl) gA kA bA .nil (fun σ => passAt tk σ) (by exact (pa_cons (pv 1) pa_nil))))))
          (pss_one (ps_if (by exact (pt_cmpR op_eq (pv 0) pe_int (nomark _))) (pss_one (ps_expr (by exact (pe_callD (.of GB) hr hgd (by rfl) gB kB bB .nil (fun σ => passAt tk σ) (by exact (pa_cons (pv 1) (pa_cons (pv 2) pa_nil))))))) (pss_one (ps_expr (by exact (pe_callD (.of GG') hr hgd (by rfl) gG' kG' bG' .nil (fun σ => passAt tk σ) (by exact (pa_cons (pv 1) (pa_cons (pv 2) (pa_cons (pv 3) pa_nil))))))))))))))
        (ClausesOk.cons (ts := fun a cls d => tRet (tLst (tCons (tC (.str "number")) (tCons (tCB (rRepr K) (tCons (tXf a cls d CN "number" (tVar 4)) tNil)) (tCons (tCB (rIsX K CN a cls d) (tCons (tVar 4) (tCons (tC (.ty "ValueError")) tNil))) tNil))))) (i := 4) rfl rfl ⟨rfl, by decide, .inl T.N.g⟩ (fun a oe cls d pn hz hf => by exact (pss_one (ps_ret (pe_lst (pa_cons pe_str (pa_cons (pe_callB (call_reprD hgd hu) (by rfl) B.repr_ (by decide +kernel) (pa_cons (pe_xf T.N.xf T.nN hz hf (pv 4)) pa_nil)) (pa_cons (pe_callB (call_isX T.N.ex hz hf) (by rfl) B.isinstance_ (by decide +kernel) (pa_cons (pv 4) (pa_cons (pe_bltn (v := .ty "ValueError") (by rfl) B.ValueError_ (by decide +kernel) rfl) pa_nil))) pa_nil)))))))
          (ClausesOk.cons (ts := fun a cls d => tRet (tLst (tCons (tC (.str "unlike")) (tCons (tXf a cls d CU "one" (tVar 4)) (tCons (tXf a cls d CU "other" (tVar 4)) tNil))))) (i := 4) rfl rfl ⟨rfl, by decide, .inl T.U.g⟩ (fun a oe cls d pn hz hf => by exact (pss_one (ps_ret (pe_lst (pa_cons pe_str (pa_cons (pe_xf T.U.xf T.nU1 hz hf (pv 4)) (pa_cons (pe_xf T.U.xf T.nU2 hz hf (pv 4)) pa_nil)))))))
          (ClausesOk.cons (ts := fun a cls d => tRet (tLst (tCons (tC (.str "many")) (tCons (tXf a cls d CM "many" (tVar 4)) (tCons (tCB (rIsX K CM a cls d) (tCons (tVar 4) (tCons (tC (.ty "OverflowError")) tNil))) tNil))))) (i := 4) rfl rfl ⟨rfl, by decide, .inl T.M.g⟩ (fun a oe cls d pn hz hf => by exact (pss_one (ps_ret (pe_lst (pa_cons pe_str (pa_cons (pe_xf T.M.xf T.nM hz hf (pv 4)) (pa_cons (pe_callB (call_isX T.M.ex hz hf) (by rfl) B.isinstance_ (by decide +kernel) (pa_cons (pv 4) (pa_cons (pe_bltn (v := .ty "OverflowError") (by rfl) B.OverflowError_ (by decide +kernel) rfl) pa_nil))) pa_nil)))))))
          (ClausesOk.cons (ts := fun a cls d => tRet (tLst (tCons (tC (.str "groups")) (tCons (tXf a cls d CG "word" (tVar 4)) (tCons (tCB (rIsX K CG a cls d) (tCons (tVar 4) (tCons (tC (.ty "ValueError")) tNil))) tNil))))) (i := 4) rfl rfl ⟨rfl, by decide, .inl T.G.g⟩ (fun a oe cls d pn hz hf => by exact (pss_one (ps_ret (pe_lst (pa_cons pe_str (pa_cons (pe_xf T.G.xf T.nG hz hf (pv 4)) (pa_cons (pe_callB (call_isX T.G.ex hz hf) (by rfl) B.isinstance_ (by decide +kernel) (pa_cons (pv 4) (pa_cons (pe_bltn (v := .ty "ValueError") (by rfl) B.ValueError_ (by decide +kernel) rfl) pa_nil))) pa_nil)))))))
          ClausesOk.nil)))))
      (pss_one (ps_ret pe_non)), ?_⟩
    cases ha with
    | @way0 v o d hv =>
      have ok := hv.odd
      refine ⟨_, rfl, rfl, _, rfl, iteT ?_⟩
      refine ⟨_, rfl, l, v, o, d, rfl, hv, fun c dx hdx => ?_, fun c x H' s' => ?_⟩
      · have er : resN o d 5 = some [.str "number", .str d.shown, .bl true] := if_neg (by rw [c]; decide)
        rw [er] at q
        refine ⟨true, T.nn, fun _ a0 _ => ?_, fun z => Bool.noConfusion z⟩
        refine ⟨_, rfl, rfl, rfl, dx, _, v, rfl, upd_same, rfl, v, d, rfl, (hv.same (same_new hdx _)).dq, ok.sh, ok.dp, ok.sz, ?_⟩
        refine ⟨_, rfl, .ty "ValueError", _, true, rfl, rfl, fun _ z => z, .inr ⟨dx, _, rfl, upd_same⟩, T.kN, (by show 3 ≤ sizeLine; decide), fun p hp => ?_⟩
        exact q (.ref p) _ ((same_new hdx _).trans (same_new hp _)) ⟨p, rfl, upd_same⟩
      · have er : resN o d 5 = none := if_pos c
        rw [er] at q
        exact q .non H' s' rfl
    | @way1 v o d hv =>
      have ok := hv.odd
      refine ⟨_, rfl, rfl, _, rfl, iteF ?_⟩
      refine ⟨_, rfl, rfl, _, rfl, iteT ?_⟩
      refine ⟨_, rfl, l, v, o, d, rfl, hv, fun c dx hdx => ?_, fun c x H' s' => ?_⟩
      · have er : resN o d 5 = some [.str "number", .str d.shown, .bl true] := if_neg (by rw [c]; decide)
        rw [er] at q
        refine ⟨true, T.nn, fun _ a0 _ => ?_, fun z => Bool.noConfusion z⟩
        refine ⟨_, rfl, rfl, rfl, dx, _, v, rfl, upd_same, rfl, v, d, rfl, (hv.same (same_new hdx _)).dq, ok.sh, ok.dp, ok.sz, ?_⟩
        refine ⟨_, rfl, .ty "ValueError", _, true, rfl, rfl, fun _ z => z, .inr ⟨dx, _, rfl, upd_same⟩, T.kN, (by show 3 ≤ sizeLine; decide), fun p hp => ?_⟩
        exact q (.ref p) _ ((same_new hdx _).trans (same_new hp _)) ⟨p, rfl, upd_same⟩
      · have er : resN o d 5 = none := if_pos c
        rw [er] at q
        exact q .non H' s' rfl
    | @way2 x y r1 r2 m1 m2 hx hy g1 g2 =>
      refine ⟨_, rfl, rfl, _, rfl, iteF ?_⟩
      refine ⟨_, rfl, rfl, _, rfl, iteF ?_⟩
      refine ⟨_, rfl, rfl, _, rfl, iteT ?_⟩
      refine ⟨_, rfl, _, rfl, x, y, r1, r2, m1, m2, rfl, hx, hy, g1, g2, fun c dx hdx => ?_, fun c1 c2 dx hdx => ?_, fun c1 c2 x H' s' => ?_⟩
      · have er : resB r1 r2 m1 m2 = some [.str "unlike", .int (r1.length : Int), .int (r2.length : Int)] := if_neg c
        rw [er] at q
        refine ⟨false, T.un, fun z => Bool.noConfusion z, fun _ => ⟨true, T.uu, fun _ a0 _ => ?_, fun z => Bool.noConfusion z⟩⟩
        refine ⟨_, rfl, rfl, rfl, dx, _, _, rfl, upd_same, rfl, _, rfl, rfl, rfl, dx, _, _, rfl, upd_same, rfl, (by show 3 ≤ sizeLine; decide), fun p hp => ?_⟩
        exact q (.ref p) _ ((same_new hdx _).trans (same_new hp _)) ⟨p, rfl, upd_same⟩
      · have er : resB r1 r2 m1 m2 = some [.str "many", .int ((m1 : Int) * (m2 : Int)), .bl true] := (if_pos c1).trans (if_neg c2)
        rw [er] at q
        refine ⟨false, T.mn, fun z => Bool.noConfusion z, fun _ => ⟨false, T.mu, fun z => Bool.noConfusion z, fun _ => ⟨true, T.mm, fun _ a0 _ => ?_, fun z => Bool.noConfusion z⟩⟩⟩
        refine ⟨_, rfl, rfl, rfl, dx, _, _, rfl, upd_same, rfl, ?_⟩
        refine ⟨_, rfl, .ty "OverflowError", _, true, rfl, rfl, fun _ z => z, .inr ⟨dx, _, rfl, upd_same⟩, T.kM, (by show 3 ≤ sizeLine; decide), fun p hp => ?_⟩
        exact q (.ref p) _ ((same_new hdx _).trans (same_new hp _)) ⟨p, rfl, upd_same⟩
      · have er : resB r1 r2 m1 m2 = none := (if_pos c1).trans (if_pos c2)
        rw [er] at q
        exact q .non H' s' rfl
    | @way3 x g t r1 m1 og ot dt hx g1 hg hv =>
      have ok := hv.odd
      refine ⟨_, rfl, rfl, _, rfl, iteF ?_⟩
      refine ⟨_, rfl, rfl, _, rfl, iteF ?_⟩
      refine ⟨_, rfl, rfl, _, rfl, iteF ?_⟩
      refine ⟨_, rfl, _, rfl, _, rfl, l, x, g, t, r1, m1, og, ot, dt, rfl, hx, g1, hg, hv, fun c dx hdx => ?_, fun c r cr H' dx s' hxd => ?_, fun c cr x H' s' => ?_⟩
      · have er : res3 ot dt og m1 = some [.str "number", .str dt.shown, .bl true] := if_neg (by rw [c]; decide)
        rw [er] at q
        refine ⟨true, T.nn, fun _ a0 _ => ?_, fun z => Bool.noConfusion z⟩
        refine ⟨_, rfl, rfl, rfl, dx, _, t, rfl, upd_same, rfl, t, dt, rfl, (hv.same (same_new hdx _)).dq, ok.sh, ok.dp, ok.sz, ?_⟩
        refine ⟨_, rfl, .ty "ValueError", _, true, rfl, rfl, fun _ z => z, .inr ⟨dx, _, rfl, upd_same⟩, T.kN, (by show 3 ≤ sizeLine; decide), fun p hp => ?_⟩
        exact q (.ref p) _ ((same_new hdx _).trans (same_new hp _)) ⟨p, rfl, upd_same⟩
      · have er : res3 ot dt og m1 = some [.str "groups", r, .bl true] := by
          refine (if_pos c).trans ?_
          unfold resG
          rw [cr]
          rfl
        rw [er] at q
        refine ⟨false, T.gn, fun z => Bool.noConfusion z, fun _ => ⟨false, T.gu, fun z => Bool.noConfusion z, fun _ => ⟨false, T.gm, fun z => Bool.noConfusion z, fun _ => ⟨true, T.gg, fun _ a0 _ => ?_, fun z => Bool.noConfusion z⟩⟩⟩⟩
        refine ⟨_, rfl, rfl, rfl, dx, _, _, rfl, hxd, rfl, ?_⟩
        refine ⟨_, rfl, .ty "ValueError", _, true, rfl, rfl, fun _ z => z, .inr ⟨dx, _, rfl, hxd⟩, T.kG, (by show 3 ≤ sizeLine; decide), fun p hp => ?_⟩
        exact q (.ref p) _ (s'.trans (same_new hp _)) ⟨p, rfl, upd_same⟩
      · have er : res3 ot dt og m1 = none := by
          refine (if_pos c).trans ?_
          unfold resG
          rw [cr]
          rfl
        rw [er] at q
        exact q .non H' s' rfl
theorem scNumDue : FnScope ["_law_thing", "_law_upto"] ["_law_thing", "_law_upto"] (defScope sNumDue) := ⟨rfl, rfl, rfl, by decide +kernel, rfl, by decide +kernel, by decide +kernel⟩
theorem ok_NumDue {f : Addr} {fd : FuncData} {k : Nat} (F : Fun K "_law_number_due" "_law_number_due" sNumDue f fd) (B : Blt mg) : FnOkG P w K mg base CX0 (k + 1) f fd ["_law_thing", "_law_upto"] (spNumDue K) := by
  refine okG F scNumDue (fun vs H Q E h => ?_) (fun cdv A outer s H vs Q E hr hgd h => ?_)
  · obtain ⟨l, v, o, d, hi, rfl, _⟩ := h
    rfl
  · obtain ⟨l, v, o, d, hi, rfl, hv, q⟩ := h
    have hu : (A.deeper (envOfC "_law_number_due" (defScope sNumDue) s.heap.objs.size f cdv)).units + 80 < cLine := by have := hr.un; omega
    refine ⟨_, pss_cons (ps_if (PW.pt (pw_and (pt_val (pe_callB call_isi (by rfl) B.isinstance_ (by decide +kernel) (pa_cons (pv 0) (pa_cons (pe_bltn (v := .ty "int") (by rfl) B.int_ (by decide +kernel) rfl) pa_nil)))) (pw_and (pt_not (pt_val (pe_callB call_isi (by rfl) B.isinstance_ (by decide +kernel) (pa_cons (pv 0) (pa_cons (pe_bltn (v := .ty "bool") (by rfl) B.bool_ (by decide +kernel) rfl) pa_nil))))) (pw_and1 (pt_chain op_le op_le pe_int (pv 0) (pv 1)))))) (pss_one (ps_ret pe_non)) pss_nil)
      (pss_one (ps_ret (pe_lst (pa_cons pe_str (pa_cons (pe_callB (call_reprD hgd hu) (by rfl) B.repr_ (by decide +kernel) (pa_cons (pv 0) pa_nil)) (pa_cons pe_bl pa_nil)))))), ?_⟩
    have ok := hv.odd
    have bad : inR o 1 hi = false → ∃ x, (L2.start ["_law_thing", "_law_upto"] [v, .int hi])[0]? = some (some x) ∧ ∃ (y : V) (dd : PyData), [x] = [y] ∧ Dq K H y dd ∧ dd.showable = true ∧ dd.depth ≤ 64 ∧ dd.shown.length ≤ sizeLine ∧ (3 ≤ sizeLine ∧ ∀ p : Addr, H p = none → Q (.ref p) (upd H p (.lst [.str "number", .str dd.shown, .bl true]))) := by
      intro c
      have er : resN o d hi = some [.str "number", .str d.shown, .bl true] := if_neg (by rw [c]; decide)
      rw [er] at q
      exact ⟨v, rfl, v, d, rfl, hv.dq, ok.sh, ok.dp, ok.sz, by decide, fun p hp => q _ _ (same_new hp _) ⟨p, rfl, upd_same⟩⟩
    obtain ⟨n, b1, b2, ht, h1, h2, e⟩ := hv.ty
    refine ⟨_, rfl, _, _, _, _, b1, rfl, .ty "int", ht, kit_ty h1, _, rfl, ?_⟩
    cases b1 with
    | false =>
      refine iteF ?_
      refine iteF ?_
      refine bad ?_
      cases o with
      | none => rfl
      | some i => cases e
    | true =>
      refine iteT ?_
      refine ⟨_, rfl, _, _, _, _, b2, rfl, .ty "bool", ht, kit_ty (h2 rfl), _, rfl, ?_⟩
      cases b2 with
      | true =>
        refine iteF ?_
        refine iteF ?_
        refine bad ?_
        cases o with
        | none => rfl
        | some i => cases e
      | false =>
        refine iteT ?_
        cases o with
        | none => cases e
        | some i =>
          have ev := hv.some_
          subst ev
          refine ⟨_, rfl, 1, i, rfl, rfl, _, rfl, ?_⟩
          by_cases c1 : 1 ≤ i
          · rw [decide_eq_true c1]
            refine iteT ⟨_, rfl, i, hi, rfl, rfl, _, rfl, ?_⟩
            by_cases c2 : i ≤ hi
            · rw [decide_eq_true c2]
              refine iteT ?_
              have er : resN (some i) d hi = none := if_pos (by show (decide (1 ≤ i) && decide (i ≤ hi)) = true; rw [decide_eq_true c1, decide_eq_true c2]; rfl)
              rw [er] at q
              exact q .non H (Same.refl _) rfl
            · rw [decide_eq_false c2]
              exact iteF (bad (by show (decide (1 ≤ i) && decide (i ≤ hi)) = false; rw [decide_eq_false c2, Bool.and_false]))
          · rw [decide_eq_false c1]
            exact iteF ⟨_, rfl, iteF (bad (by show (decide (1 ≤ i) && decide (i ≤ hi)) = false; rw [decide_eq_false c1, Bool.false_and]))⟩
theorem scGrpDue : FnScope ["_law_groups", "_law_words", "_law_many", "_law_word", "_law_group"] ["_law_groups", "_law_words", "_law_many"] (defScope sGrpDue) := ⟨rfl, rfl, rfl, by decide +kernel, rfl, by decide +kernel, by decide +kernel⟩
theorem ok_GrpDue {f : Addr} {fd : FuncData} {k : Nat} (F : Fun K "_law_groups_due" "_law_groups_due" sGrpDue f fd) (B : Blt mg) : FnOk P w K mg base CX0 (k + 1) f fd ["_law_groups", "_law_words", "_law_many"] (spGrpDue K) := by
  refine F.ok scGrpDue (fun vs H Q E h => ?_) (fun cdv A outer s H vs Q E hr h => ?_)
  · obtain ⟨l, v, og, words, many, rfl, _⟩ := h
    rfl
  · obtain ⟨l, v, og, words, many, rfl, hv, q⟩ := h
    refine ⟨_, pss_cons (ps_if (PW.pt (pw_or (pt_not (pt_val (pe_callB call_isi (by rfl) B.isinstance_ (by decide +kernel) (pa_cons (pv 0) (pa_cons (pe_bltn (v := .ty "list") (by rfl) B.list_ (by decide +kernel) rfl) pa_nil))))) (pw_or1 (pt_cmpR op_ne (pe_callB call_len_seq (by rfl) B.len_ PySem.boot_len (pa_cons (pv 0) pa_nil)) (pv 1) (nomark _))))) (pss_one (ps_ret (pe_lst (pa_cons pe_str (pa_cons pe_non (pa_cons pe_bl pa_nil)))))) pss_nil)
      (pss_cons (ps_for PassesOwn.never rfl (pi_enum (by rfl) B.enumerate_ (pa_cons (pv 0) pa_nil)) (pg_tup rfl (pgs_cons (pg_name (i := 3) scGrpDue.nd rfl (.inl rfl)) (pgs_cons (pg_name (i := 4) scGrpDue.nd rfl (.inl rfl)) pgs_nil)))
        (pss_one (ps_if (PW.pt (pw_or (pt_not (pt_val (pe_callB call_isi (by rfl) B.isinstance_ (by decide +kernel) (pa_cons (pv 4) (pa_cons (pe_bltn (v := .ty "int") (by rfl) B.int_ (by decide +kernel) rfl) pa_nil))))) (pw_or (pt_val (pe_callB call_isi (by rfl) B.isinstance_ (by decide +kernel) (pa_cons (pv 4) (pa_cons (pe_bltn (v := .ty "bool") (by rfl) B.bool_ (by decide +kernel) rfl) pa_nil)))) (pw_or1 (pt_not (pt_chain op_le op_lt pe_int (pv 4) (pv 2))))))) (pss_one (ps_ret (pe_lst (pa_cons pe_str (pa_cons (pv 3) (pa_cons pe_bl pa_nil)))))) pss_nil)))
      (pss_one (ps_ret pe_non))), ?_⟩
    have rG : ∀ r, gBad og words many = some r → resG og words many = some [.str "groups", r, .bl true] := fun r e => by
      unfold resG
      rw [e]
      rfl
    cases og with
    | none =>
      obtain ⟨n, ht, h1⟩ := hv.ty
      refine ⟨_, rfl, _, _, _, _, false, rfl, .ty "list", ht, kit_ty h1, _, rfl, iteT (iteT ⟨(by show 3 ≤ sizeLine; decide), fun p hp => ?_⟩)⟩
      rw [rG .non rfl] at q
      exact q _ _ (same_new hp _) ⟨p, rfl, upd_same⟩
    | some os =>
      cases hv with
      | @lst a xs _ ha hn ht =>
        refine ⟨_, rfl, _, _, _, _, true, rfl, .ty "list", .base (.lst ha), kit_ty (by decide +kernel), _, rfl, iteF ?_⟩
        refine ⟨_, rfl, a, xs, rfl, .inl (SqL.of ha), _, rfl, rfl, _, rfl, ?_⟩
        by_cases hlen : os.length = words
        rotate_left
        · rw [decide_eq_false (fun z => hlen (by have := V.int.inj z; have := ht.1; omega))]
          refine iteT ⟨(by show 3 ≤ sizeLine; decide), fun p hp => ?_⟩
          rw [rG .non (by show (if os.length = words then _ else _) = _; rw [if_neg hlen])] at q
          exact q _ _ (same_new hp _) ⟨p, rfl, upd_same⟩
        rw [decide_eq_true (show V.int (xs.length : Int) = V.int (words : Int) by rw [ht.1, hlen])]
        refine iteF ?_
        have gb : gBad (some os) words many = (firstBad many os 0).map fun i => V.int (i : Nat) := by
          show (if os.length = words then _ else _) = _
          rw [if_pos hlen]
        refine ⟨_, rfl, a, _, rfl, SqL.of ha, for_it (walk_enum (K := K) (a := a) (xs := xs)) (fun i σ H' => ∃ y3 y4 : Option V, σ = [some (.ref a), some (.int (words : Int)), some (.int (many : Int)), y3, y4] ∧ Same H H' ∧ firstBad many os 0 = firstBad many (os.drop i) i)
          ⟨none, none, rfl, Same.refl _, by rw [List.drop_zero]⟩ (fun i σ H' _ ⟨_, _, _, s5, _⟩ => SqL.of (s5 _ _ ha)) ?_ ?_⟩
        · rintro i x σ H1 H2 hi ⟨y3, y4, rfl, s5, fb⟩ ⟨TT, u, vv, rfl, nT, rfl, e1, e2⟩
          cases (Option.some.inj e1)
          obtain ⟨o, d, f1, f2⟩ := ht.2 i vv e2
          have sT := same_new nT (.tup [V.int (i : Nat), vv])
          have f2' := f2.same (s5.trans sT)
          rw [firstBad_drop f1] at fb
          refine ⟨TT, _, rfl, SqT.of upd_same, rfl, _, _, rfl, _, _, rfl, rfl, ?_⟩
          have bad : inR o 0 ((many : Int) - 1) = false → ∃ x, ([some (V.ref a), some (.int (words : Int)), some (.int (many : Int)), some (V.int (i : Nat)), some vv] : L2.St)[3]? = some (some x) ∧ (3 ≤ sizeLine ∧ ∀ p : Addr, (upd H1 TT (.tup [V.int (i : Nat), vv])) p = none → Q (.ref p) (upd (upd H1 TT (.tup [V.int (i : Nat), vv])) p (.lst [.str "groups", x, .bl true]))) := by
            intro c
            rw [if_neg (by rw [c]; decide)] at fb
            rw [rG (V.int (i : Nat)) (by rw [gb, fb]; rfl)] at q
            exact ⟨_, rfl, by decide, fun p hp => q _ _ (s5.trans (sT.trans (same_new hp _))) ⟨p, rfl, upd_same⟩⟩
          obtain ⟨n, b1, b2, hty, h1, h2, e⟩ := f2'.ty
          refine ⟨_, rfl, _, _, _, _, b1, rfl, .ty "int", hty, kit_ty h1, _, rfl, ?_⟩
          cases b1 with
          | false =>
            refine iteT (iteT (bad ?_))
            cases o with
            | none => rfl
            | some j => cases e
          | true =>
            refine iteF ?_
            refine ⟨_, rfl, _, _, _, _, b2, rfl, .ty "bool", hty, kit_ty (h2 rfl), _, rfl, ?_⟩
            cases b2 with
            | true =>
              refine iteT (iteT (bad ?_))
              cases o with
              | none => rfl
              | some j => cases e
            | false =>
              refine iteF ?_
              cases o with
              | none => cases e
              | some j =>
                have ev := f2.some_
                subst ev
                refine ⟨_, rfl, 0, j, rfl, rfl, _, rfl, ?_⟩
                by_cases c1 : 0 ≤ j
                · rw [decide_eq_true c1]
                  refine iteT ⟨_, rfl, j, (many : Int), rfl, rfl, _, rfl, ?_⟩
                  by_cases c2 : j < (many : Int)
                  · rw [decide_eq_true c2]
                    refine iteF ?_
                    rw [if_pos (by show (decide (0 ≤ j) && decide (j ≤ (many : Int) - 1)) = true; rw [decide_eq_true c1, decide_eq_true (by omega)]; rfl)] at fb
                    exact ⟨_, _, rfl, s5.trans sT, fb⟩
                  · rw [decide_eq_false c2]
                    exact iteT (bad (by show (decide (0 ≤ j) && decide (j ≤ (many : Int) - 1)) = false; rw [decide_eq_false (show ¬ j ≤ (many : Int) - 1 by omega), Bool.and_false]))
                · rw [decide_eq_false c1]
                  exact iteF ⟨_, rfl, iteT (bad (by show (decide (0 ≤ j) && decide (j ≤ (many : Int) - 1)) = false; rw [decide_eq_false c1, Bool.false_and]))⟩
        · rintro σ H1 ⟨y3, y4, rfl, s5, fb⟩
          rw [ht.1, List.drop_length] at fb
          have er : resG (some os) words many = none := by
            unfold resG
            rw [gb, fb]
            rfl
          rw [er] at q
          exact q .non H1 s5 rfl
theorem scOdd : FnScope ["_law_left_here", "_law_upto"] ["_law_left_here", "_law_upto"] (defScope sOdd) := ⟨rfl, rfl, rfl, by decide +kernel, rfl, by decide +kernel, by decide +kernel⟩
theorem ok_Odd {f fD : Addr} {fd fdD : FuncData} {k : Nat} (F : Fun K "_law_odd" "_law_odd" sOdd f fd) (GD : FnOk P w K mg base CX0 k fD fdD ["_law_left_here", "_law_many"] spDigit) (kD : PySem.W.keepIn K (.ref fD) = true) (bD : Binds K fdD ["_law_left_here", "_law_many"] []) (gD : mg "_law_digit" = some (.ref fD)) : FnOk P w K mg base CX0 (k + 1) f fd ["_law_left_here", "_law_upto"] (spOdd K) := by
  refine F.ok scOdd (fun vs H Q E h => ?_) (fun cdv A outer s H vs Q E hr h => ?_)
  · obtain ⟨l, z, upto, rfl, _⟩ := h
    rfl
  · obtain ⟨l, z, upto, rfl, hl, u0, u30, q⟩ := h
    refine ⟨_, pss_one (ps_ret (pe_ix ix_list (pe_lst (pa_cons pe_int (pa_cons (pe_op op_add (pv 1) pe_int) (pa_cons (pe_un un_neg pe_int) (pa_cons pe_non (pa_cons pe_bl (pa_cons pe_bl (pa_cons pe_str (pa_cons (pe_lst (pa_cons pe_int pa_nil)) (pa_cons (pe_tup (pa_cons pe_int pa_nil)) (pa_cons (pe_op op_pow pe_int pe_int) (pa_cons pe_dnewK pa_nil)))))))))))) (pe_call GD hr (by rfl) gD kD bD .nil pass0 (pa_cons (pv 0) (pa_cons pe_int pa_nil))) (fun _ _ => rfl))), ?_⟩
    refine ⟨_, rfl, upto, 1, rfl, rfl, _, rfl, (by show 1 ≤ sizeLine; decide), fun pl hpl => ⟨(by show 1 ≤ sizeLine; decide), fun pt hpt => ⟨10, 20, rfl, rfl, ⟨by decide, by decide, by decide⟩, ?_⟩⟩⟩
    intro pd hpd
    refine ⟨(by show 11 ≤ sizeLine; decide), fun pz hpz => ?_⟩
    have t4 := same_new hpl (.lst [V.int 1])
    have t5 := same_new hpt (.tup [V.int 1])
    have t6 := same_new hpd (.dK [])
    have t7 := same_new hpz (.lst [V.int 0, V.int (upto + 1), V.int (-1), V.non, V.bl true, V.bl false, V.str "2", V.ref pl, V.ref pt, V.int (10 ^ (20 : Int).toNat), V.ref pd])
    have ta := t4.trans (t5.trans (t6.trans t7))
    have n0 : ∀ {p : Addr}, H p = none → p ≠ l := fun {p} e z => by
      rw [z, hl] at e
      cases e
    have hpl' : pl ≠ l := n0 hpl
    have hpt' : pt ≠ l := n0 (t4.free hpt)
    have hpd' : pd ≠ l := n0 ((t4.trans t5).free hpd)
    have hpz' : pz ≠ l := n0 ((t4.trans (t5.trans t6)).free hpz)
    refine ⟨_, rfl, l, z, 11, rfl, ta _ _ hl, by decide, by decide, fun d n3 d0 d11 => ?_⟩
    have at_ : ∀ {b : Addr} {u : HO}, b ≠ l → ∀ {H1 : Hp}, H1 b = some u → (upd H1 l (.lst [.int n3])) b = some u := fun {b u} hb {H1} e => by rw [upd_ne hb]; exact e
    have fin : SameB l H _ := (SameB.of ta).trans (SameB.upd (o := .lst [.int n3]))
    have dd : d = 0 ∨ d = 1 ∨ d = 2 ∨ d = 3 ∨ d = 4 ∨ d = 5 ∨ d = 6 ∨ d = 7 ∨ d = 8 ∨ d = 9 ∨ d = 10 := by omega
    rcases dd with rfl | rfl | rfl | rfl | rfl | rfl | rfl | rfl | rfl | rfl | rfl
    · exact ⟨pz, _, 0, _, rfl, rfl, SqL.of (at_ hpz' upd_same), atI_nat (j := 0) rfl, q _ _ _ n3 _ fin upd_same (.int 0 (.inl ⟨by decide, by decide⟩))⟩
    · exact ⟨pz, _, 1, _, rfl, rfl, SqL.of (at_ hpz' upd_same), atI_nat (j := 1) rfl, q _ _ _ n3 _ fin upd_same (.int _ (.inl ⟨by omega, by omega⟩))⟩
    · exact ⟨pz, _, 2, _, rfl, rfl, SqL.of (at_ hpz' upd_same), atI_nat (j := 2) rfl, q _ _ _ n3 _ fin upd_same (.int (-1) (.inl ⟨by decide, by decide⟩))⟩
    · exact ⟨pz, _, 3, _, rfl, rfl, SqL.of (at_ hpz' upd_same), atI_nat (j := 3) rfl, q _ _ _ n3 _ fin upd_same .non⟩
    · exact ⟨pz, _, 4, _, rfl, rfl, SqL.of (at_ hpz' upd_same), atI_nat (j := 4) rfl, q _ _ _ n3 _ fin upd_same (.bl true)⟩
    · exact ⟨pz, _, 5, _, rfl, rfl, SqL.of (at_ hpz' upd_same), atI_nat (j := 5) rfl, q _ _ _ n3 _ fin upd_same (.bl false)⟩
    · exact ⟨pz, _, 6, _, rfl, rfl, SqL.of (at_ hpz' upd_same), atI_nat (j := 6) rfl, q _ _ _ n3 _ fin upd_same .str⟩
    · exact ⟨pz, _, 7, _, rfl, rfl, SqL.of (at_ hpz' upd_same), atI_nat (j := 7) rfl, q _ _ _ n3 _ fin upd_same (.lst (at_ hpl' ((t5.trans (t6.trans t7)) _ _ upd_same)) hpl')⟩
    · exact ⟨pz, _, 8, _, rfl, rfl, SqL.of (at_ hpz' upd_same), atI_nat (j := 8) rfl, q _ _ _ n3 _ fin upd_same (.tup (SqT.of (at_ hpt' ((t6.trans t7) _ _ upd_same))))⟩
    · exact ⟨pz, _, 9, _, rfl, rfl, SqL.of (at_ hpz' upd_same), atI_nat (j := 9) rfl, q _ _ _ n3 _ fin upd_same (.int _ (.inr (by decide)))⟩
    · exact ⟨pz, _, 10, _, rfl, rfl, SqL.of (at_ hpz' upd_same), atI_nat (j := 10) rfl, q _ _ _ n3 _ fin upd_same (.dct (at_ hpd' (t7 _ _ upd_same)))⟩
end
end K13

set_option Elab.async false
set_option linter.all false
set_option maxRecDepth 100000
set_option maxHeartbeats 16000000
namespace K13
open PySem PySem.Spec PyProof.Rows L2 BX EXB Co Ru
open Fr (Bd)
def spLaw (K : PySem.W.Frag) : Sp := fun vs H Q _ => ∃ (a : Addr) (ns : List Int), vs = [.ref a] ∧ SqL K H a (ns.map V.int) ∧ ns.length ≤ 63 ∧ ∀ H', Q (.bl true) H'
theorem tYes_of {σ : L2.St} {H : Hp} {A B : Hp → Prop} (h : A H) : tYes σ H (fun b H3 => if b = true then A H3 else B H3) := by
  show (if true = true then A H else B H)
  rw [if_pos rfl]
  exact h
/-! ### answers as data -/
def dV : V → PyData
  | .str s => .str s
  | .int i => .int i
  | .bl b => .bool b
  | _ => .none
def datR : Rsp → PyData
  | none => .none
  | some ws => .list (ws.map dV)
def Flat (v : V) : Prop := ((∃ s, v = .str s) ∨ (∃ i, v = .int i) ∨ (∃ b, v = .bl b) ∨ v = .non) ∧ (dV v).canLay0 = true
def Okr : Rsp → Prop
  | none => True
  | some ws => ∀ v ∈ ws, Flat v
theorem flat_dp {K : PySem.W.Frag} {H : Hp} {v : V} (h : Flat v) : Dp K H v (dV v) := by
  rcases h.1 with ⟨s, rfl⟩ | ⟨i, rfl⟩ | ⟨b, rfl⟩ | rfl
  · exact .str _
  · exact .int _
  · exact .bl _
  · exact .non
theorem flats_dp {K : PySem.W.Frag} {H : Hp} : ∀ ws : List V, (∀ v ∈ ws, Flat v) → DpAll K H ws (ws.map dV)
  | [], _ => .nil
  | v :: ws, h => .cons (flat_dp (h v (List.mem_cons_self ..))) (flats_dp ws fun x hx => h x (List.mem_cons_of_mem _ hx))
theorem flats_lay : ∀ ws : List V, (∀ v ∈ ws, Flat v) → PyData.canLayAll0 (ws.map dV) = true
  | [], _ => rfl
  | v :: ws, h => by
    show (PyData.canLay0 (dV v) && PyData.canLayAll0 (ws.map dV)) = true
    rw [(h v (List.mem_cons_self ..)).2, flats_lay ws fun x hx => h x (List.mem_cons_of_mem _ hx)]
    rfl
theorem flats_dep : ∀ ws : List V, PyData.depthAll (ws.map dV) ≤ 1
  | [] => by decide
  | v :: ws => by
    have h := flats_dep ws
    show max (PyData.depth (dV v)) (PyData.depthAll (ws.map dV)) ≤ 1
    have : PyData.depth (dV v) = 0 := by cases v <;> rfl
    omega
theorem Rv.dp {K : PySem.W.Frag} {H : Hp} {v : V} {r : Rsp} (ok : Okr r) (h : Rv H v r) : Dp K H v (datR r) := by
  cases r with
  | none => cases (show v = .non from h); exact .non
  | some ws =>
    obtain ⟨p, rfl, hp⟩ := h
    exact .lst (SqL.of hp) (flats_dp ws ok)
theorem datR_lay {r : Rsp} (ok : Okr r) : (datR r).canLay0 = true := by
  cases r with
  | none => rfl
  | some ws => exact flats_lay ws ok
theorem datR_sh {r : Rsp} (ok : Okr r) : SeqAt.shaped (datR r) = true := by
  unfold SeqAt.shaped
  rw [datR_lay ok, Bool.true_and]
  refine decide_eq_true ?_
  cases r with
  | none => decide
  | some ws =>
    have := flats_dep ws
    show PyData.depthAll (ws.map dV) + 1 ≤ 64
    omega
theorem fl_str {s : Str} (h : (PyData.str s).canLay0 = true) : Flat (.str s) := ⟨.inl ⟨s, rfl⟩, h⟩
theorem fl_int (i : Int) : Flat (.int i) := ⟨.inr (.inl ⟨i, rfl⟩), rfl⟩
theorem fl_bl (b : Bool) : Flat (.bl b) := ⟨.inr (.inr (.inl ⟨b, rfl⟩)), rfl⟩
theorem fl_non : Flat .non := ⟨.inr (.inr (.inr rfl)), rfl⟩
theorem okr3 {a b c : V} (ha : Flat a) (hb : Flat b) (hc : Flat c) : Okr (some [a, b, c]) := by
  intro v hv
  rcases List.mem_cons.mp hv with rfl | hv
  · exact ha
  rcases List.mem_cons.mp hv with rfl | hv
  · exact hb
  rw [List.mem_singleton.mp hv]
  exact hc
theorem okr_N {o : Option Int} {d : PyData} {hi : Int} (ok : OddOk d) : Okr (resN o d hi) := by
  unfold resN
  split
  · trivial
  · exact okr3 (fl_str (by decide +kernel)) (fl_str ok.tx) (fl_bl _)
theorem okr_B {r1 r2 : List (List Rat)} {m1 m2 : Nat} : Okr (resB r1 r2 m1 m2) := by
  unfold resB
  split
  · split
    · trivial
    · exact okr3 (fl_str (by decide +kernel)) (fl_int _) (fl_bl _)
  · exact okr3 (fl_str (by decide +kernel)) (fl_int _) (fl_int _)
theorem gBad_flat {og : Option (List (Option Int))} {words many : Nat} {r : V} (h : gBad og words many = some r) : Flat r := by
  cases og with
  | none => cases h; exact fl_non
  | some os =>
    have h' : (if os.length = words then (firstBad many os 0).map fun i => V.int (i : Nat) else some V.non) = some r := h
    split at h'
    · obtain ⟨i, _, e⟩ := Option.map_eq_some_iff.mp h'
      rw [← e]
      exact fl_int _
    · cases h'
      exact fl_non
theorem okr_G {og : Option (List (Option Int))} {words many : Nat} : Okr (resG og words many) := by
  unfold resG
  cases e : gBad og words many with
  | none => trivial
  | some r => exact okr3 (fl_str (by decide +kernel)) (gBad_flat e) (fl_bl _)
theorem okr_3 {ot : Option Int} {dt : PyData} {og : Option (List (Option Int))} {words : Nat} (ok : OddOk dt) : Okr (res3 ot dt og words) := by
  unfold res3
  split
  · exact okr_G
  · exact okr3 (fl_str (by decide +kernel)) (fl_str ok.tx) (fl_bl _)
/-! ### lists of things -/
def ThA (K : PySem.W.Frag) (H : Hp) (l : Addr) (xs : List V) : Prop := ∀ v ∈ xs, ∃ o d, Th K H l v o d
theorem ThA.gp {K : PySem.W.Frag} {H : Hp} {l a : Addr} {xs : List V} (h : ThA K H l xs) (ha : H a = some (.lst xs)) (hn : a ≠ l) : ∃ og, Gp K H l (.ref a) og := by
  have : ∃ os, ThL K H l xs os := by
    clear ha
    induction xs with
    | nil => exact ⟨[], rfl, fun i v e => by simp at e⟩
    | cons x xs ih =>
      obtain ⟨os, h1, h2⟩ := ih fun v hv => h v (List.mem_cons_of_mem _ hv)
      obtain ⟨o, d, ht⟩ := h x (List.mem_cons_self ..)
      refine ⟨o :: os, by rw [List.length_cons, List.length_cons, h1], fun i v e => ?_⟩
      cases i with
      | zero =>
        cases (Option.some.inj e)
        exact ⟨o, d, rfl, ht⟩
      | succ i => exact h2 i v e
  obtain ⟨os, ht⟩ := this
  exact ⟨_, .lst ha hn ht⟩
theorem ThA.app {K : PySem.W.Frag} {H : Hp} {l : Addr} {xs ys : List V} (h1 : ThA K H l xs) (h2 : ThA K H l ys) : ThA K H l (xs ++ ys) := fun v hv => by
  rcases List.mem_append.mp hv with hv | hv
  · exact h1 v hv
  · exact h2 v hv
theorem ThA.cut {K : PySem.W.Frag} {H : Hp} {l : Addr} {xs : List V} {lo hi : Option Int} (h : ThA K H l xs) : ThA K H l (cutV xs lo hi) := fun v hv => h v (cut_mem hv)
theorem ThA.one {K : PySem.W.Frag} {H : Hp} {l : Addr} {v : V} {o : Option Int} {d : PyData} (h : Th K H l v o d) : ThA K H l [v] := fun x hx => by
  rw [List.mem_singleton.mp hx]
  exact ⟨o, d, h⟩
theorem ThA.same {K : PySem.W.Frag} {H H' : Hp} {l : Addr} {xs : List V} (h : ThA K H l xs) (s : Same H H') : ThA K H' l xs := fun v hv => let ⟨o, d, t⟩ := h v hv; ⟨o, d, t.same s⟩
theorem ThA.but {K : PySem.W.Frag} {H H' : Hp} {l : Addr} {z : Int} {xs : List V} (h : ThA K H l xs) (hl : H l = some (.lst [.int z])) (s : SameB l H H') : ThA K H' l xs := fun v hv => let ⟨o, d, t⟩ := h v hv; ⟨o, d, t.but hl s⟩
theorem tha_gv {K : PySem.W.Frag} {H : Hp} {l : Addr} {gs : List Nat} {many : Nat} (h : ∀ g ∈ gs, g < many) (hm : many ≤ 30) : ThA K H l (gv gs) := fun v hv => by
  obtain ⟨g, hg, rfl⟩ := List.mem_map.mp hv
  have := h g hg
  exact ⟨_, _, .int _ (.inl ⟨by omega, by omega⟩)⟩
theorem cut_len {xs : List V} {n : Nat} {lo hi : Option Int} (h : xs.length ≤ n) : (cutV xs lo hi).length ≤ n := Nat.le_trans (cutV_length xs lo hi) h
/-- what stays in a turn -/
structure Bas (K : PySem.W.Frag) (H : Hp) (C l L : Addr) (xs : List V) (RH D1 D2 x1 x2 : Addr) (rs1 : List Addr) (r1 r2 : List (List Rat)) : Prop where
  hL : H L = some (.lst xs)
  nL : L ≠ l
  hRH : H RH = some (.lst [.ref D1, .ref D2])
  W1 : RwL K H D1 rs1 r1 8
  R1 : IsRule K H C x1 r1 8
  R2 : IsRule K H C x2 r2 8
theorem Bas.same {K : PySem.W.Frag} {H H' : Hp} {C l L : Addr} {xs : List V} {RH D1 D2 x1 x2 : Addr} {rs1 : List Addr} {r1 r2 : List (List Rat)} (h : Bas K H C l L xs RH D1 D2 x1 x2 rs1 r1 r2) (s : Same H H') : Bas K H' C l L xs RH D1 D2 x1 x2 rs1 r1 r2 :=
  ⟨s _ _ h.hL, h.nL, s _ _ h.hRH, h.W1.same s, h.R1.same s, h.R2.same s⟩
theorem Bas.but {K : PySem.W.Frag} {H H' : Hp} {C l L : Addr} {z : Int} {xs : List V} {RH D1 D2 x1 x2 : Addr} {rs1 : List Addr} {r1 r2 : List (List Rat)} (h : Bas K H C l L xs RH D1 D2 x1 x2 rs1 r1 r2) (hl : H l = some (.lst [.int z])) (s : SameB l H H') : Bas K H' C l L xs RH D1 D2 x1 x2 rs1 r1 r2 :=
  ⟨s _ _ h.nL h.hL, h.nL, s _ _ (ne_of h.hRH hl (by intro w; cases w)) h.hRH, RwL.keepB h.W1 hl s, IsRule.keepB h.R1 hl s, IsRule.keepB h.R2 hl s⟩
theorem tab2 {d : Int} (h0 : 0 ≤ d) (h2 : d < 2) : ∃ v : Nat, atI [V.int 6, V.int 30] d = some (V.int (v : Int)) ∧ 1 ≤ v ∧ v ≤ 30 := by
  have : d = 0 ∨ d = 1 := by omega
  rcases this with rfl | rfl
  · exact ⟨6, atI_nat (j := 0) rfl, by decide, by decide⟩
  · exact ⟨30, atI_nat (j := 1) rfl, by decide, by decide⟩
section
variable {P : Program} {w : World} {K : PySem.W.Frag} {mg : Str → Option Value} {base : Heap} {C fI fRo fWo fLe fEq CN fN CG fG CU fU CM fM : Addr}
/-- Rule(rows) of good rows -/
theorem mk_ruleP {H : Hp} {a : Addr} {rs : List Addr} {rss : List (List Rat)} {n m : Nat} {Q : Addr → Hp → Prop} (hw : RwL K H a rs rss n) (hg : Good rss m) (hn : n ≤ 280) (q : ∀ x H', Same H H' → H x = none → IsRule K H' C x rss n → Q x H') :
    ∀ x dx, H x = none → H dx = none → dx ≠ x → spInit K C [.ref x, .ref a] (upd (upd H dx (.own x)) x (.ins C dx [])) (fun v H2 => v = .non ∧ Q x H2) E0 := by
  intro x dx hx hdx hne
  have s1 := same_new hdx (.own x)
  have hx1 : (upd H dx (.own x)) x = none := by rw [upd_ne (Ne.symm hne)]; exact hx
  have s2 := same_new hx1 (.ins C dx [])
  refine ⟨x, a, dx, rs, rss, n, m, rfl, upd_same, hw.same (s1.trans s2), hg, hn, fun ra rs' H' kp hx' hw' => ⟨rfl, q x H' (fun b o e => ?_) hx ⟨dx, ra, rs', hx', hw'⟩⟩⟩
  exact kp b o (ne_of_none e hx) ((s1.trans s2) _ _ e)
structure Defs (P : Program) (w : World) (K : PySem.W.Frag) (mg : Str → Option Value) (base : Heap) (C fI fRo fWo fLe fEq : Addr) (k : Nat) : Prop where
  ru : RuD P w K mg base C fI fRo fWo fLe fEq k
  left : ∃ f fd, FnOk P w K mg base CX0 k f fd ["_law_cell"] spLeft ∧ PySem.W.keepIn K (.ref f) = true ∧ Binds K fd ["_law_cell"] [] ∧ mg "_law_left" = some (.ref f)
  dig : ∃ f fd, FnOk P w K mg base CX0 k f fd ["_law_left_here", "_law_many"] spDigit ∧ PySem.W.keepIn K (.ref f) = true ∧ Binds K fd ["_law_left_here", "_law_many"] [] ∧ mg "_law_digit" = some (.ref f)
  rows : ∃ f fd, FnOk P w K mg base CX0 k f fd ["_law_left_here", "_law_worlds", "_law_upto"] (spRowsL K) ∧ PySem.W.keepIn K (.ref f) = true ∧ Binds K fd ["_law_left_here", "_law_worlds", "_law_upto"] [] ∧ mg "_law_rows" = some (.ref f)
  told : ∃ f fd, FnOkG P w K mg base CX0 k f fd ["_law_way", "_law_one", "_law_other", "_law_third"] (spTold K C) ∧ PySem.W.keepIn K (.ref f) = true ∧ Binds K fd ["_law_way", "_law_one", "_law_other", "_law_third"] [] ∧ mg "_law_told" = some (.ref f)
  ndue : ∃ f fd, FnOkG P w K mg base CX0 k f fd ["_law_thing", "_law_upto"] (spNumDue K) ∧ PySem.W.keepIn K (.ref f) = true ∧ Binds K fd ["_law_thing", "_law_upto"] [] ∧ mg "_law_number_due" = some (.ref f)
  gdue : ∃ f fd, FnOk P w K mg base CX0 k f fd ["_law_groups", "_law_words", "_law_many"] (spGrpDue K) ∧ PySem.W.keepIn K (.ref f) = true ∧ Binds K fd ["_law_groups", "_law_words", "_law_many"] [] ∧ mg "_law_groups_due" = some (.ref f)
  odd : ∃ f fd, FnOk P w K mg base CX0 k f fd ["_law_left_here", "_law_upto"] (spOdd K) ∧ PySem.W.keepIn K (.ref f) = true ∧ Binds K fd ["_law_left_here", "_law_upto"] [] ∧ mg "_law_odd" = some (.ref f)
theorem scLaw : FnScope ["_law_script", "_law_cell", "_law_left_here", "_law_rows_here", "_law_one", "_law_other", "_law_way", "_law_thing", "_law_due", "_law_many", "_law_good", "_law_at", "_law_bent", "_law_groups", "_law_size", "_law_turn", "_law_word"] ["_law_script"] (defScope sLaw) := ⟨rfl, rfl, rfl, by decide +kernel, rfl, by decide +kernel, by decide +kernel⟩
theorem ok_law {f : Addr} {fd : FuncData} {k : Nat} (F : Fun K "law" "law" sLaw f fd) (D : Defs P w K mg base C fI fRo fWo fLe fEq k) (B : Blt mg) : FnOkG P w K mg base CX0 (k + 2) f fd ["_law_script"] (spLaw K) := by
  obtain ⟨fdI, GI, bI⟩ := D.ru.init
  obtain ⟨fdW, GW, bW⟩ := D.ru.worlds
  obtain ⟨fdL, GL, bL⟩ := D.ru.len
  obtain ⟨f1, fd1, G1, k1, b1, g1⟩ := D.left
  obtain ⟨f2, fd2, G2, k2, b2, g2⟩ := D.dig
  obtain ⟨f3, fd3, G3, k3, b3, g3⟩ := D.rows
  obtain ⟨f4, fd4, G4, k4, b4, g4⟩ := D.told
  obtain ⟨f5, fd5, G5, k5, b5, g5⟩ := D.ndue
  obtain ⟨f6, fd6, G6, k6, b6, g6⟩ := D.gdue
  obtain ⟨f7, fd7, G7, k7, b7, g7⟩ := D.odd
  refine okG F scLaw (fun vs H Q E h => ?_) (fun cdv A outer s H vs Q E hr hgd h => ?_)
  · obtain ⟨a, ns, rfl, _⟩ := h
    rfl
  · obtain ⟨a, ns, rfl, hS, hlen, q⟩ := h
    have hk : Room k _ := hr.mono (by omega)
    refine ⟨_, (pss_cons (ps_for PassesOwn.never rfl (pi_list (pe_op op_cat (pe_slice sl_list (pv 0) po_none (po_some pe_int)) (pe_lst (pa_cons pe_int pa_nil)))) (pg_name (i := 1) scLaw.nd rfl (.inl rfl)) (pss_cons (ps_set (i := 2) scLaw.nd rfl (.inr rfl) (pe_call G1 hk (by rfl) g1 k1 b1 .nil pass0 (pa_cons (pv 1) pa_nil)))
        (pss_cons (ps_setLc (i := 3) (own := [("_law_turn", 15)]) (g := gName 15) (tt := tYes) (te := tCall (spRowsL K) [] E0 (tCons (tVar 2) (tCons (tOp (rI0 fun i j => .int (i + j)) (tC (.int 1)) (tCall spDigit [] E0 (tCons (tVar 2) (tCons (tC (.int 3)) tNil)))) (tCons (tOp (rIxL K) (tLst (tCons (tC (.int 6)) (tCons (tC (.int 30)) tNil))) (tCall spDigit [] E0 (tCons (tVar 2) (tCons (tC (.int 2)) tNil)))) tNil)))) rfl scLaw.nd rfl rfl (sw_true rfl rfl rfl rfl) (pi_range1 (by rfl) B.range_ (pa_cons pe_int pa_nil))
        (blkOk_by (N := ["_law_script", "_law_cell", "_law_left_here", "_law_rows_here", "_law_one", "_law_other", "_law_way", "_law_thing", "_law_due", "_law_many", "_law_good", "_law_at", "_law_bent", "_law_groups", "_law_size", "_law_turn", "_law_word"]) (sc := defScope sLaw) (by decide +kernel)) (fun _ _ _ _ _ => pg_name (i := 15) scLaw.nd rfl (Or.inl rfl)) (fun _ _ _ _ _ => pts_nil)
        (fun _ _ _ _ _ => (pe_call G3 hk (by rfl) g3 k3 b3 .nil pass0 (pa_cons (pv 2) (pa_cons (pe_op op_add pe_int (pe_call G2 hk (by rfl) g2 k2 b2 .nil pass0 (pa_cons (pv 2) (pa_cons pe_int pa_nil)))) (pa_cons (pe_ix ix_list (pe_lst (pa_cons pe_int (pa_cons pe_int pa_nil))) (pe_call G2 hk (by rfl) g2 k2 b2 .nil pass0 (pa_cons (pv 2) (pa_cons pe_int pa_nil))) (fun _ _ => rfl)) pa_nil))))))
        (pss_cons (ps_set (i := 4) scLaw.nd rfl (.inl rfl) (pe_make D.ru.T.mkC GI hr (by rfl) D.ru.T.gC bI .nil pass0 (pa_cons (pe_ix ix_list (pv 3) pe_int (fun _ _ => rfl)) pa_nil)))
        (pss_cons (ps_set (i := 5) scLaw.nd rfl (.inl rfl) (pe_make D.ru.T.mkC GI hr (by rfl) D.ru.T.gC bI .nil pass0 (pa_cons (pe_ix ix_list (pv 3) pe_int (fun _ _ => rfl)) pa_nil)))
        (pss_cons (ps_for PassesOwn.never rfl (pi_range1 (by rfl) B.range_ (pa_cons pe_int pa_nil)) (pg_name (i := 6) scLaw.nd rfl (.inl rfl)) (pss_one (ps_for PassesOwn.never rfl (pi_list (pe_lst (pa_cons (pe_op op_add pe_int (pe_call G2 hk (by rfl) g2 k2 b2 .nil pass0 (pa_cons (pv 2) (pa_cons pe_int pa_nil)))) (pa_cons (pe_call G7 hk (by rfl) g7 k7 b7 .nil pass0 (pa_cons (pv 2) (pa_cons pe_int pa_nil))) pa_nil)))) (pg_name (i := 7) scLaw.nd rfl (.inl rfl)) (pss_one (ps_if (pt_cmpR (op_neD hk.units) (pe_callG G4 hk hgd (by rfl) g4 k4 b4 .nil pass0 (pa_cons (pv 6) (pa_cons (pv 7) (pa_cons pe_non (pa_cons pe_non pa_nil))))) (pe_callG G5 hk hgd (by rfl) g5 k5 b5 .nil pass0 (pa_cons (pv 7) (pa_cons pe_int pa_nil))) (nomark _)) (pss_one (ps_ret pe_bl)) pss_nil)))))
        (pss_cons (ps_set (i := 8) scLaw.nd rfl (.inl rfl) pe_non)
        (pss_cons (ps_if (pt_cmpR op_gt (pe_op op_mul (pe_callB (call_lenO D.ru.T.lL D.ru.T.fnL GL hr bL) (by rfl) B.len_ PySem.boot_len (pa_cons (pv 4) pa_nil)) (pe_callB (call_lenO D.ru.T.lL D.ru.T.fnL GL hr bL) (by rfl) B.len_ PySem.boot_len (pa_cons (pv 5) pa_nil))) pe_int (nomark _)) (pss_one (ps_set (i := 8) scLaw.nd rfl (.inl rfl) (pe_lst (pa_cons pe_str (pa_cons (pe_op op_mul (pe_callB (call_lenO D.ru.T.lL D.ru.T.fnL GL hr bL) (by rfl) B.len_ PySem.boot_len (pa_cons (pv 4) pa_nil)) (pe_callB (call_lenO D.ru.T.lL D.ru.T.fnL GL hr bL) (by rfl) B.len_ PySem.boot_len (pa_cons (pv 5) pa_nil))) (pa_cons pe_bl pa_nil)))))) pss_nil)
        (pss_cons (ps_if (pt_cmpR op_ne (pe_meth0 (pv 4) D.ru.T.cl D.ru.T.mW GW hk bW .nil pass0) (pe_meth0 (pv 5) D.ru.T.cl D.ru.T.mW GW hk bW .nil pass0) (nomark _)) (pss_one (ps_set (i := 8) scLaw.nd rfl (.inl rfl) (pe_lst (pa_cons pe_str (pa_cons (pe_meth0 (pv 4) D.ru.T.cl D.ru.T.mW GW hk bW .nil pass0) (pa_cons (pe_meth0 (pv 5) D.ru.T.cl D.ru.T.mW GW hk bW .nil pass0) pa_nil)))))) pss_nil)
        (pss_cons (ps_if (pt_cmpR (op_neD hk.units) (pe_callG G4 hk hgd (by rfl) g4 k4 b4 .nil pass0 (pa_cons pe_int (pa_cons (pv 4) (pa_cons (pv 5) (pa_cons pe_non pa_nil))))) (pv 8) (nomark _)) (pss_one (ps_ret pe_bl)) pss_nil)
        (pss_cons (ps_set (i := 9) scLaw.nd rfl (.inr rfl) (pe_op op_add pe_int (pe_call G2 hk (by rfl) g2 k2 b2 .nil pass0 (pa_cons (pv 2) (pa_cons pe_int pa_nil)))))
        (pss_cons (ps_setLc (i := 10) (own := [("_law_word", 16)]) (g := gName 16) (tt := tYes) (te := tCall spDigit [] E0 (tCons (tVar 2) (tCons (tVar 9) tNil))) rfl scLaw.nd rfl rfl (sw_true rfl rfl rfl rfl) (pi_list (pe_ix ix_list (pe_ix ix_list (pv 3) pe_int (fun _ _ => rfl)) pe_int (fun _ _ => rfl)))
        (blkOk_by (N := ["_law_script", "_law_cell", "_law_left_here", "_law_rows_here", "_law_one", "_law_other", "_law_way", "_law_thing", "_law_due", "_law_many", "_law_good", "_law_at", "_law_bent", "_law_groups", "_law_size", "_law_turn", "_law_word"]) (sc := defScope sLaw) (by decide +kernel)) (fun _ _ _ _ _ => pg_name (i := 16) scLaw.nd rfl (Or.inl rfl)) (fun _ _ _ _ _ => pts_nil) (fun _ _ _ _ _ => (pe_call G2 hk (by rfl) g2 k2 b2 .nil pass0 (pa_cons (pv 2) (pa_cons (pv 9) pa_nil)))))
        (pss_cons (ps_set (i := 11) scLaw.nd rfl (.inl rfl) (pe_call G2 hk (by rfl) g2 k2 b2 .nil pass0 (pa_cons (pv 2) (pa_cons (pe_callB call_len_seq (by rfl) B.len_ PySem.boot_len (pa_cons (pv 10) pa_nil)) pa_nil))))
        (pss_cons (ps_set (i := 12) scLaw.nd rfl (.inl rfl) (pe_op op_cat (pe_op op_cat (pe_slice sl_list (pv 10) po_none (po_some (pv 11))) (pe_lst (pa_cons (pe_call G7 hk (by rfl) g7 k7 b7 .nil pass0 (pa_cons (pv 2) (pa_cons (pe_op op_sub (pv 9) pe_int) pa_nil))) pa_nil))) (pe_slice sl_list (pv 10) (po_some (pe_op op_add (pv 11) pe_int)) po_none)))
        (pss_one (ps_for PassesOwn.never rfl (pi_list (pe_lst (pa_cons (pv 10) (pa_cons (pv 12) (pa_cons (pe_op op_cat (pe_slice sl_list (pv 12) po_none (po_some (pe_un un_neg pe_int))) (pe_lst (pa_cons pe_non pa_nil))) (pa_cons (pe_slice sl_list (pv 10) (po_some pe_int) po_none) (pa_cons (pe_op op_cat (pv 10) (pe_lst (pa_cons pe_int pa_nil))) (pa_cons (pe_callTy call_tuple_of (by rfl) B.tuple_ (by decide +kernel) (pa_cons (pv 10) pa_nil)) (pa_cons pe_non pa_nil))))))))) (pg_name (i := 13) scLaw.nd rfl (.inl rfl)) (pss_one (ps_for PassesOwn.never rfl (pi_list (pe_lst (pa_cons (pv 9) (pa_cons (pe_call G7 hk (by rfl) g7 k7 b7 .nil pass0 (pa_cons (pv 2) (pa_cons pe_int pa_nil))) pa_nil)))) (pg_name (i := 14) scLaw.nd rfl (.inl rfl)) (pss_cons (ps_set (i := 8) scLaw.nd rfl (.inl rfl) (pe_callG G5 hk hgd (by rfl) g5 k5 b5 .nil pass0 (pa_cons (pv 14) (pa_cons pe_int pa_nil))))
        (pss_cons (ps_if (pt_cmpR op_isN (pv 8) pe_non (nomark _)) (pss_one (ps_set (i := 8) scLaw.nd rfl (.inl rfl) (pe_call G6 hk (by rfl) g6 k6 b6 .nil pass0 (pa_cons (pv 13) (pa_cons (pe_callB (call_lenO D.ru.T.lL D.ru.T.fnL GL hr bL) (by rfl) B.len_ PySem.boot_len (pa_cons (pv 4) pa_nil)) (pa_cons (pv 14) pa_nil)))))) pss_nil)
        (pss_one (ps_if (pt_cmpR (op_neD hk.units) (pe_callG G4 hk hgd (by rfl) g4 k4 b4 .nil pass0 (pa_cons pe_int (pa_cons (pv 4) (pa_cons (pv 13) (pa_cons (pv 14) pa_nil))))) (pv 8) (nomark _)) (pss_one (ps_ret pe_bl)) pss_nil))))))))))))))))))))))
        (pss_one (ps_ret pe_bl))), ?_⟩
    refine ⟨.ref a, rfl, 16, rfl, a, ns.map V.int, rfl, hS, fun p8 n8 => ?_⟩
    have z8 := same_new n8 (.lst (cutV (ns.map V.int) none (some 16)))
    refine ⟨(by show 1 ≤ sizeLine; decide), fun p9 n9 => ?_⟩
    have z9 := same_new n9 (.lst [V.int 4])
    refine ⟨p8, p9, _, _, rfl, rfl, z9 _ _ upd_same, upd_same, ?_, fun L nL => ?_⟩
    · have h1 := cutV_length (ns.map V.int) none (some 16)
      rw [List.length_map] at h1
      rw [List.length_singleton]
      exact Nat.le_of_lt (small1000 (by omega))
    refine ⟨L, rfl, ⟨_, SqL.of upd_same⟩, for_list (K := K) (a := L) (xs := cutV (ns.map V.int) none (some 16) ++ [V.int 4]) (fun i σ H' => ∃ y1 y2 y3 y4 y5 y6 y7 y8 y9 y10 y11 y12 y13 y14 : Option V, σ = [some (.ref a), y1, y2, y3, y4, y5, y6, y7, y8, y9, y10, y11, y12, y13, y14, none, none] ∧ H' L = some (.lst (cutV (ns.map V.int) none (some 16) ++ [V.int 4])))
      ⟨_, _, _, _, _, _, _, _, _, _, _, _, _, _, rfl, upd_same⟩ (fun i σ H' _ ⟨_, _, _, _, _, _, _, _, _, _, _, _, _, _, _, e⟩ => SqL.of e) ?_ ?_⟩
    rotate_left
    · rintro σ H1 ⟨y1, y2, y3, y4, y5, y6, y7, y8, y9, y10, y11, y12, y13, y14, rfl, _⟩
      exact q _
    rintro i xx σ H0 hi ⟨y1, y2, y3, y4, y5, y6, y7, y8, y9, y10, y11, y12, y13, y14, rfl, hL⟩
    obtain ⟨c, rfl⟩ := int_of hi
    clear hi
    generalize cutV (ns.map V.int) none (some 16) ++ [V.int 4] = xs at hL ⊢
    refine ⟨_, rfl, c, rfl, fun l n nl => ?_⟩
    have hLl : L ≠ l := ne_of_none hL nl
    have hl0 : (upd H0 l (.lst [.int n])) l = some (.lst [.int n]) := upd_same
    have hL0 : (upd H0 l (.lst [.int n])) L = some (.lst xs) := by rw [upd_ne hLl]; exact hL
    generalize upd H0 l (.lst [.int n]) = H1 at hl0 hL0 ⊢
    clear hL nl
    -- rows
    refine ⟨2, rfl, by decide, by decide, fun RH nRH => ?_⟩
    have hRl : RH ≠ l := fun e => by
      rw [e, hl0] at nRH
      cases nRH
    have hRL : RH ≠ L := fun e => by
      rw [e, hL0] at nRH
      cases nRH
    refine lc_range (lo := 0) (n := (2 : Int).toNat) (fun j H' => ∃ (Ds : List Addr) (z : Int), H' RH = some (.lst (Ds.map V.ref)) ∧ Ds.length = j ∧ H' l = some (.lst [.int z]) ∧ H' L = some (.lst xs) ∧ ∀ D ∈ Ds, ∃ rs rss m, RwL K H' D rs rss 8 ∧ Good rss m ∧ D ≠ RH ∧ RH ∉ rs)
      ⟨[], n, upd_same, rfl, by rw [upd_ne (Ne.symm hRl)]; exact hl0, by rw [upd_ne (Ne.symm hRL)]; exact hL0, fun D hD => by simp at hD⟩ ?_ ?_
    · rintro j H' hj ⟨Ds, z, hRH, hlD, hl', hL', hDs⟩
      refine ⟨rfl, tYes_of ?_⟩
      refine ⟨_, rfl, _, rfl, l, z, 3, rfl, hl', by decide, by decide, fun d1 z1 a0 a3 => ?_⟩
      refine ⟨1, d1, rfl, rfl, ?_⟩
      obtain ⟨ww, ew⟩ : ∃ ww : Nat, (1 + d1 : Int) = (ww : Int) := ⟨(1 + d1).toNat, by omega⟩
      rw [show ((fun i j => V.int (i + j)) 1 d1 : V) = V.int (ww : Int) from congrArg V.int ew]
      refine ⟨(by show 2 ≤ sizeLine; decide), fun p np => ?_⟩
      have v1 := same_new np (.lst [V.int 6, V.int 30])
      have hpl : p ≠ l := fun e => by
        rw [e, upd_same] at np
        cases np
      refine ⟨_, rfl, l, z1, 2, rfl, v1 _ _ upd_same, by decide, by decide, fun d2 z2 b0 b2 => ?_⟩
      obtain ⟨up, eu, u1, u30⟩ := tab2 b0 b2
      refine ⟨p, _, d2, .int (up : Int), rfl, rfl, SqL.of (by rw [upd_ne hpl, upd_same]), eu, ?_⟩
      have sb : SameB l H' (upd (upd (upd H' l (.lst [.int z1])) p (.lst [V.int 6, V.int 30])) l (.lst [.int z2])) := (SameB.upd.trans (SameB.of v1)).trans SameB.upd
      have hl2 : (upd (upd (upd H' l (.lst [.int z1])) p (.lst [V.int 6, V.int 30])) l (.lst [.int z2])) l = some (.lst [.int z2]) := upd_same
      generalize upd (upd (upd H' l (.lst [.int z1])) p (.lst [V.int 6, V.int 30])) l (.lst [.int z2]) = H2 at sb hl2 ⊢
      refine ⟨l, z2, ww, up, rfl, hl2, by omega, by omega, u1, u30, fun D rs rss m z3 H3 N hDl hl3 hg hlen3 hm3 => ?_⟩
      have sb2 := sb.trans N.keep
      have hRH3 := sb2 _ _ hRl hRH
      have hDR : D ≠ RH := fun e => by
        have := N.fD
        rw [e, sb _ _ hRl hRH] at this
        cases this
      have hRr : RH ∉ rs := fun hm => by
        have := N.fresh RH hm
        rw [sb _ _ hRl hRH] at this
        cases this
      have kp : ∀ {Dm : Addr} {rs : List Addr} {rss : List (List Rat)}, RwL K H3 Dm rs rss 8 → Dm ≠ RH → RH ∉ rs → RwL K (upd H3 RH (.lst (Ds.map V.ref ++ [V.ref D]))) Dm rs rss 8 := fun W h1 h2 => ⟨by rw [upd_ne h1]; exact W.1, W.2.keep SameB.upd hRH3 h2⟩
      refine ⟨_, hRH3, ?_, Ds ++ [D], z3, ?_, ?_, ?_, ?_, ?_⟩
      · rw [List.length_map, hlD]
        have : j < 2 := hj
        exact small1000 (by omega)
      · rw [upd_same, List.map_append]
        rfl
      · rw [List.length_append, hlD]
        rfl
      · rw [upd_ne (Ne.symm hRl)]
        exact hl3
      · rw [upd_ne (Ne.symm hRL)]
        exact sb2 _ _ hLl hL'
      · intro D' hD'
        rcases List.mem_append.mp hD' with hD' | hD'
        · obtain ⟨rs', rss', m', e1, e2, e3, e4⟩ := hDs D' hD'
          exact ⟨rs', rss', m', kp (RwL.keepB e1 hl' sb2) e3 e4, e2, e3, e4⟩
        · rw [List.mem_singleton.mp hD']
          exact ⟨rs, rss, m, kp N.rwl hDR hRr, hg, hDR, hRr⟩
    rintro H2 ⟨Ds, z0, hRH, hlD, hl2, hL2, hDs⟩
    obtain ⟨D1, D2, rfl⟩ : ∃ D1 D2, Ds = [D1, D2] := by
      match Ds, hlD with
      | [D1, D2], _ => exact ⟨D1, D2, rfl⟩
    obtain ⟨rs1, r1, m1, W1, g1, _, _⟩ := hDs D1 (List.mem_cons_self ..)
    obtain ⟨rs2, r2, m2, W2, g2, _, _⟩ := hDs D2 (List.mem_cons_of_mem _ (List.mem_cons_self ..))
    clear hDs hlD nRH hL0 hl0
    -- the rules
    refine ⟨_, rfl, RH, _, 0, .ref D1, rfl, rfl, SqL.of hRH, atI_nat (j := 0) rfl, ?_⟩
    dsimp only [tNil]
    refine mk_ruleP W1 g1 (by decide) fun x1 H3 u3 hx1 R1 => ?_
    refine ⟨_, rfl, RH, _, 1, .ref D2, rfl, rfl, SqL.of (u3 _ _ hRH), atI_nat (j := 1) rfl, ?_⟩
    dsimp only [tNil]
    refine mk_ruleP (W2.same u3) g2 (by decide) fun x2 H4 u4 hx2 R2 => ?_
    have B4 : Bas K H4 C l L xs RH D1 D2 x1 x2 rs1 r1 r2 := ⟨(u3.trans u4) _ _ hL2, hLl, (u3.trans u4) _ _ hRH, W1.same (u3.trans u4), R1.same u4, R2⟩
    have hl4 := (u3.trans u4) _ _ hl2
    clear u3 u4 hx1 hx2 R1 R2 W1 W2 hRH hl2 hL2 hRl hRL
    have b1 := g1.m30
    have b2 := g2.m30
    -- silence, all told
    refine ⟨2, rfl, by decide, by decide, for_range (lo := 0) (n := (2 : Int).toNat) (fun i σ H' => ∃ w6 w7 : Option V, σ = [some (.ref a), some (.int c), some (.ref l), some (.ref RH), some (.ref x1), some (.ref x2), w6, w7, y8, y9, y10, y11, y12, y13, y14, none, none] ∧ ∃ z, H' l = some (.lst [.int z]) ∧ Bas K H' C l L xs RH D1 D2 x1 x2 rs1 r1 r2) ⟨_, _, rfl, z0, hl4, B4⟩ ?_ ?_⟩
    · rintro j σ H5 hj ⟨w6, w7, rfl, z, hl5, B5⟩
      obtain ⟨wi, ewi, hwi⟩ : ∃ wi : Int, (0 + (j : Int) : Int) = wi ∧ (wi = 0 ∨ wi = 1) := ⟨_, rfl, by have : j < 2 := hj; omega⟩
      rw [ewi]
      refine ⟨_, rfl, l, z, 5, rfl, hl5, by decide, by decide, fun d1 z1 a0 a5 => ?_⟩
      refine ⟨1, d1, rfl, rfl, ?_⟩
      refine ⟨_, rfl, l, z1, 5, rfl, upd_same, by decide, by decide, fun vo oo do_ z2 H6 sb6 hl6 th6 => ?_⟩
      have B6 := (B5.but hl5 (SameB.upd (o := .lst [.int z1]))).but upd_same sb6
      refine ⟨(by show 2 ≤ sizeLine; decide), fun TL nTL => ?_⟩
      have sTL := same_new nTL (.lst [V.int (1 + d1), vo])
      have hTL : (upd H6 TL (.lst [V.int (1 + d1), vo])) TL = some (.lst [V.int (1 + d1), vo]) := upd_same
      have B7 := B6.same sTL
      have hl7 := sTL _ _ hl6
      have ths : ∀ x ∈ [V.int (1 + d1), vo], ∃ o d, Th K (upd H6 TL (.lst [V.int (1 + d1), vo])) l x o d := fun x hx => by
        rcases List.mem_cons.mp hx with rfl | hx
        · exact ⟨_, _, .int _ (.inl ⟨by omega, by omega⟩)⟩
        · rw [List.mem_singleton.mp hx]
          exact ⟨_, _, th6.same sTL⟩
      generalize upd H6 TL (.lst [V.int (1 + d1), vo]) = H7 at hTL B7 hl7 ths ⊢
      refine ⟨TL, rfl, ⟨_, SqL.of hTL⟩, for_list (K := K) (a := TL) (xs := [V.int (1 + d1), vo]) (fun i σ H' => ∃ w7 : Option V, σ = [some (.ref a), some (.int c), some (.ref l), some (.ref RH), some (.ref x1), some (.ref x2), some (.int wi), w7, y8, y9, y10, y11, y12, y13, y14, none, none] ∧ Same H7 H') ⟨_, rfl, Same.refl _⟩ (fun i σ H' _ ⟨_, _, s⟩ => SqL.of (s _ _ hTL)) ?_ ?_⟩
      · rintro t x σ H8 hx ⟨w7, rfl, s8⟩
        obtain ⟨o, d, th⟩ := ths x (List.mem_of_getElem? hx)
        replace th := th.same s8
        have ok := th.odd
        have as : Asked K H8 C l [.int wi, x, .non, .non] (resN o d 5) := by
          rcases hwi with rfl | rfl
          · exact .way0 th
          · exact .way1 th
        refine ⟨_, rfl, _, rfl, l, _, as, fun v1 H9 s9 rv1 => ?_⟩
        refine ⟨_, rfl, l, x, o, d, 5, rfl, th.same s9, fun v2 H10 s10 rv2 => ?_⟩
        refine ⟨_, _, (rv1.same s10).dp (okr_N ok), rv2.dp (okr_N ok), datR_sh (okr_N ok), datR_sh (okr_N ok), _, rfl, ?_⟩
        rw [SeqAt.eqv_refl _ (datR_lay (okr_N ok))]
        exact iteF ⟨_, rfl, s8.trans (s9.trans s10)⟩
      · rintro σ H8 ⟨w7, rfl, s8⟩
        exact ⟨_, _, rfl, z2, s8 _ _ hl7, B7.same s8⟩
    rintro σ Hb ⟨w6, w7, rfl, zb, hlb, Bb⟩
    clear hl4 B4
    have BR1 := Bb.R1
    have BR2 := Bb.R2
    obtain ⟨dx1, ra1, rsa1, ex1, _⟩ := id BR1
    obtain ⟨dx2, ra2, rsa2, ex2, _⟩ := id BR2
    -- what is due of both
    refine ⟨_, rfl, x1, dx1, _, rfl, ex1, x1, r1, 8, m1, rfl, BR1, g1, m1, rfl, by omega, _, rfl, x2, dx2, _, rfl, ex2, x2, r2, 8, m2, rfl, BR2, g2, m2, rfl, by omega, _, _, rfl, rfl, .inl ⟨by omega, by omega⟩, ?_⟩
    refine ⟨_, _, rfl, rfl, _, rfl, ?_⟩
    by_cases hm : m1 * m2 ≤ 30
    · have hmz : ¬ (30 : Int) < (m1 : Int) * (m2 : Int) := by
        rw [← Int.natCast_mul]
        omega
      rw [decide_eq_false hmz]
      refine iteF ?_
      refine ⟨_, rfl, x1, dx1, _, rfl, ex1, rfl, x1, r1, 8, rfl, BR1, _, rfl, x2, dx2, _, rfl, ex2, rfl, x2, r2, 8, rfl, BR2, rfl, _, rfl, ?_⟩
      by_cases hw : r1.length = r2.length
      · rw [decide_eq_true (show V.int (r1.length : Int) = V.int (r2.length : Int) by rw [hw])]
        refine iteF ?_
        have rv8 : Rv Hb V.non (resB r1 r2 m1 m2) := (by rw [show resB r1 r2 m1 m2 = none from (if_pos hw).trans (if_pos hm)]; rfl)
        have Bx := Bb.same (Same.refl _)
        have hlx := hlb
        generalize Hb = Hx at rv8 Bx hlx ⊢
        refine ⟨_, rfl, _, rfl, l, _, .way2 Bx.R1 Bx.R2 g1 g2, fun v1 H9 s9 rv1 => ?_⟩
        refine ⟨_, rfl, _, _, rv1.dp okr_B, (rv8.same s9).dp okr_B, datR_sh okr_B, datR_sh okr_B, _, rfl, ?_⟩
        rw [SeqAt.eqv_refl _ (datR_lay okr_B)]
        refine iteF ?_
        replace Bx := Bx.same s9
        replace hlx := s9 _ _ hlx
        clear rv8 rv1
        -- many
        refine ⟨_, rfl, l, zb, 30, rfl, hlx, by decide, by decide, fun dm zm a0 a30 => ?_⟩
        refine ⟨1, dm, rfl, rfl, ?_⟩
        obtain ⟨many, em⟩ : ∃ many : Nat, (1 + dm : Int) = (many : Int) := ⟨(1 + dm).toNat, by omega⟩
        have mn1 : 1 ≤ many := by omega
        have mn30 : many ≤ 30 := by omega
        rw [show ((fun i j => V.int (i + j)) 1 dm : V) = V.int (many : Int) from congrArg V.int em]
        replace Bx := Bx.but hlx (SameB.upd (o := .lst [.int zm]))
        replace hlx : (upd H9 l (.lst [.int zm])) l = some (.lst [.int zm]) := upd_same
        generalize upd H9 l (.lst [.int zm]) = Hm at Bx hlx ⊢
        -- good
        have W1 := Bx.W1
        have h01 : 0 < rs1.length := by rw [W1.2.1]; have := g1.w1; omega
        have er : rs1[0]? = some rs1[0] := List.getElem?_eq_getElem h01
        obtain ⟨cs1, qs1, o1, o2, o3⟩ := W1.2.2 0 _ er
        have lq : qs1.length = m1 := (g1.row qs1 (List.mem_of_getElem? o1)).1
        have lc1 : cs1.length = m1 := by rw [o3.len, lq]
        have m11 := g1.m1
        have hrl : rs1[0] ≠ l := fun e => nr_num hlx W1.2 (by rw [← e]; exact List.getElem_mem _)
        refine ⟨_, rfl, RH, _, 0, .ref D1, rfl, rfl, SqL.of Bx.hRH, atI_nat (j := 0) rfl, D1, _, 0, .ref rs1[0], rfl, rfl, SqL.of W1.1, atI_nat (j := 0) (by rw [List.getElem?_map, er]; rfl), rs1[0], rfl, ⟨_, SqL.of o2⟩, fun G nG => ?_⟩
        have hGl : G ≠ l := fun e => by
          rw [e, hlx] at nG
          cases nG
        refine lc_list (K := K) (a := rs1[0]) (xs := cs1) (fun j H' => ∃ (gs : List Nat) (z' : Int), H' G = some (.lst (gv gs)) ∧ gs.length = j ∧ (∀ g ∈ gs, g < many) ∧ SameB l Hm H' ∧ H' l = some (.lst [.int z']))
          ⟨[], zm, upd_same, rfl, fun g hg => by simp at hg, SameB.of (same_new nG _), by rw [upd_ne (Ne.symm hGl)]; exact hlx⟩ (fun i H' _ ⟨_, _, _, _, _, sb, _⟩ => SqL.of (sb _ _ hrl o2)) ?_ ?_
        · rintro j x H' hj ⟨gs, z', hG, hgl, hgm, sb, hl'⟩
          have hj1 : j < cs1.length := (List.getElem?_eq_some_iff.mp hj).1
          refine ⟨rfl, tYes_of ?_⟩
          refine ⟨_, rfl, _, rfl, l, z', (many : Int), rfl, hl', by omega, Nat.lt_of_le_of_lt (by omega : ((many : Int)).natAbs ≤ 30) (by decide), fun dd zz dd0 ddm => ?_⟩
          have ed : V.int dd = V.int ((dd.toNat : Nat) : Int) := by rw [Int.toNat_of_nonneg dd0]
          refine ⟨gv gs, by rw [upd_ne hGl]; exact hG, ?_, gs ++ [dd.toNat], zz, ?_, ?_, ?_, ?_, ?_⟩
          · rw [show (gv gs).length = gs.length from List.length_map _, hgl]
            exact small1000 (by omega)
          · rw [upd_same, ed]
            show _ = some (HO.lst ((gs ++ [dd.toNat]).map fun (g : Nat) => V.int (g : Int)))
            rw [List.map_append]
            rfl
          · rw [List.length_append, hgl]
            rfl
          · intro g hg
            rcases List.mem_append.mp hg with hg | hg
            · exact hgm g hg
            · rw [List.mem_singleton.mp hg]
              omega
          · intro b u hb e
            rw [upd_ne (ne_of_none e nG), upd_ne hb]
            exact sb b u hb e
          · rw [upd_ne (Ne.symm hGl), upd_same]
        rintro Hg ⟨gs, zg, hG, hgl, hgm, sbg, hlg⟩
        rw [lc1] at hgl
        replace Bx := Bx.but hlx sbg
        have lgv : (gv gs).length = m1 := by rw [show (gv gs).length = gs.length from List.length_map _, hgl]
        have thg : ThA K Hg l (gv gs) := tha_gv hgm mn30
        clear o1 o2 o3 lq lc1 sbg hlx nG W1
        -- at
        refine ⟨_, rfl, _, rfl, G, gv gs, rfl, .inl (SqL.of hG), l, zg, _, rfl, hlg, by rw [lgv]; omega, Nat.lt_of_le_of_lt (by rw [lgv]; omega : (((gv gs).length : Nat) : Int).natAbs ≤ 30) (by decide), fun at_ za at0 atm => ?_⟩
        rw [lgv] at atm
        replace Bx := Bx.but hlg (SameB.upd (o := .lst [.int za]))
        replace hG : (upd Hg l (.lst [.int za])) G = some (.lst (gv gs)) := by rw [upd_ne hGl]; exact hG
        replace thg := thg.but hlg (SameB.upd (o := .lst [.int za]))
        replace hlg : (upd Hg l (.lst [.int za])) l = some (.lst [.int za]) := upd_same
        generalize upd Hg l (.lst [.int za]) = Ha at Bx hG thg hlg ⊢
        -- bent
        refine ⟨_, rfl, _, rfl, at_, rfl, G, gv gs, rfl, SqL.of hG, fun c1 nc1 => ?_⟩
        have sc1 := same_new nc1 (.lst (cutV (gv gs) none (some at_)))
        have hc1l : c1 ≠ l := fun e => by
          rw [e, hlg] at nc1
          cases nc1
        have hc1 : (upd Ha c1 (.lst (cutV (gv gs) none (some at_)))) c1 = some (.lst (cutV (gv gs) none (some at_))) := upd_same
        replace Bx := Bx.same sc1
        replace hG := sc1 _ _ hG
        replace thg := thg.same sc1
        replace hlg := sc1 _ _ hlg
        generalize upd Ha c1 (.lst (cutV (gv gs) none (some at_))) = Hc at hc1 Bx hG thg hlg ⊢
        refine ⟨_, rfl, _, rfl, (many : Int), 1, rfl, rfl, l, za, (many : Int) - 1, rfl, hlg, by omega, by omega, fun vb ob db zo Ho sbo hlo thb => ?_⟩
        replace Bx := Bx.but hlg sbo
        replace hG := sbo _ _ hGl hG
        replace hc1 := sbo _ _ hc1l hc1
        replace thg := thg.but hlg sbo
        clear hlg sbo
        refine ⟨(by show 1 ≤ sizeLine; decide), fun c2 nc2 => ?_⟩
        have sc2 := same_new nc2 (.lst [vb])
        refine ⟨c1, c2, _, _, rfl, rfl, sc2 _ _ hc1, upd_same, ?_, fun c3 nc3 => ?_⟩
        · have := cut_len (n := m1) (lo := none) (hi := some at_) (Nat.le_of_eq lgv)
          rw [List.length_singleton]
          exact Nat.le_of_lt (small1000 (by omega))
        have sc3 := same_new nc3 (.lst (cutV (gv gs) none (some at_) ++ [vb]))
        have sc23 := sc2.trans sc3
        have hc3 : (upd (upd Ho c2 (.lst [vb])) c3 (.lst (cutV (gv gs) none (some at_) ++ [vb]))) c3 = some (.lst (cutV (gv gs) none (some at_) ++ [vb])) := upd_same
        replace Bx := Bx.same sc23
        replace hG := sc23 _ _ hG
        replace thg := thg.same sc23
        replace hlo := sc23 _ _ hlo
        replace thb := thb.same sc23
        generalize upd (upd Ho c2 (.lst [vb])) c3 (.lst (cutV (gv gs) none (some at_) ++ [vb])) = Hd at hc3 Bx hG thg hlo thb ⊢
        refine ⟨_, rfl, _, rfl, at_, 1, rfl, rfl, at_ + 1, rfl, G, gv gs, rfl, SqL.of hG, fun c4 nc4 => ?_⟩
        have sc4 := same_new nc4 (.lst (cutV (gv gs) (some (at_ + 1)) none))
        have l4 := cut_len (n := m1) (lo := some (at_ + 1)) (hi := none) (Nat.le_of_eq lgv)
        have l3 := cut_len (n := m1) (lo := none) (hi := some at_) (Nat.le_of_eq lgv)
        refine ⟨c3, c4, _, _, rfl, rfl, sc4 _ _ hc3, upd_same, ?_, fun BA nBA => ?_⟩
        · rw [List.length_append, List.length_singleton]
          exact Nat.le_of_lt (small1000 (by omega))
        have sc5 := same_new nBA (.lst (cutV (gv gs) none (some at_) ++ [vb] ++ cutV (gv gs) (some (at_ + 1)) none))
        have sc45 := sc4.trans sc5
        have hBA : (upd (upd Hd c4 (.lst (cutV (gv gs) (some (at_ + 1)) none))) BA (.lst (cutV (gv gs) none (some at_) ++ [vb] ++ cutV (gv gs) (some (at_ + 1)) none))) BA = some (.lst (cutV (gv gs) none (some at_) ++ [vb] ++ cutV (gv gs) (some (at_ + 1)) none)) := upd_same
        have hBAl : BA ≠ l := fun e => by
          rw [e] at nBA
          rw [sc4 _ _ hlo] at nBA
          cases nBA
        replace Bx := Bx.same sc45
        replace hG := sc45 _ _ hG
        replace thg := thg.same sc45
        replace hlo := sc45 _ _ hlo
        replace thb := thb.same sc45
        have thB : ThA K _ l (cutV (gv gs) none (some at_) ++ [vb] ++ cutV (gv gs) (some (at_ + 1)) none) := (thg.cut.app (.one thb)).app thg.cut
        have lB : (cutV (gv gs) none (some at_) ++ [vb] ++ cutV (gv gs) (some (at_ + 1)) none).length ≤ 61 := by
          rw [List.length_append, List.length_append, List.length_singleton]
          omega
        generalize upd (upd Hd c4 (.lst (cutV (gv gs) (some (at_ + 1)) none))) BA (.lst (cutV (gv gs) none (some at_) ++ [vb] ++ cutV (gv gs) (some (at_ + 1)) none)) = He at hBA Bx hG thg hlo thB ⊢
        generalize cutV (gv gs) none (some at_) ++ [vb] ++ cutV (gv gs) (some (at_ + 1)) none = bent at hBA thB lB ⊢
        clear l3 l4 sc4 sc5 sc45 nBA nc4 hc3 sc2 sc3 sc23 nc3 nc2 hc1 thb sc1 nc1
        -- the seven
        have n0 : ∀ {H' : Hp} {p : Addr}, Same He H' → H' p = none → p ≠ l := fun {H' p} s e z => by
          rw [z, s _ _ hlo] at e
          cases e
        refine ⟨_, rfl, _, rfl, _, rfl, 1, rfl, -1, rfl, BA, bent, rfl, SqL.of hBA, fun e1 ne1 => ?_⟩
        have t1 := same_new ne1 (.lst (cutV bent none (some (-1))))
        refine ⟨(by show 1 ≤ sizeLine; decide), fun e2 ne2 => ?_⟩
        have t2 := same_new ne2 (.lst [V.non])
        have le1 := cut_len (n := 61) (lo := none) (hi := some (-1)) lB
        refine ⟨e1, e2, _, _, rfl, rfl, t2 _ _ upd_same, upd_same, by rw [List.length_singleton]; exact Nat.le_of_lt (small1000 (by omega)), fun e3 ne3 => ?_⟩
        have t3 := same_new ne3 (.lst (cutV bent none (some (-1)) ++ [V.non]))
        have u3 := t1.trans (t2.trans t3)
        refine ⟨_, rfl, 1, rfl, G, gv gs, rfl, SqL.of (u3 _ _ hG), fun e4 ne4 => ?_⟩
        have t4 := same_new ne4 (.lst (cutV (gv gs) (some 1) none))
        have u4 := u3.trans t4
        refine ⟨_, rfl, (by show 1 ≤ sizeLine; decide), fun e5 ne5 => ?_⟩
        have t5 := same_new ne5 (.lst [V.int 0])
        have u5 := u4.trans t5
        refine ⟨G, e5, _, _, rfl, rfl, u5 _ _ hG, upd_same, by rw [List.length_singleton, lgv]; exact Nat.le_of_lt (small1000 (by omega)), fun e6 ne6 => ?_⟩
        have t6 := same_new ne6 (.lst (gv gs ++ [V.int 0]))
        have u6 := u5.trans t6
        refine ⟨_, rfl, G, gv gs, rfl, .inl ⟨SqL.of (u6 _ _ hG), fun e7 ne7 => ?_⟩⟩
        have t7 := same_new ne7 (.tup (gv gs))
        have u7 := u6.trans t7
        refine ⟨(by show 7 ≤ sizeLine; decide), fun LG nLG => ?_⟩
        have t8 := same_new nLG (.lst [V.ref G, V.ref BA, V.ref e3, V.ref e4, V.ref e6, V.ref e7, V.non])
        have u8 := u7.trans t8
        have hLG : (upd (upd (upd (upd (upd (upd (upd (upd He e1 (.lst (cutV bent none (some (-1))))) e2 (.lst [V.non])) e3 (.lst (cutV bent none (some (-1)) ++ [V.non]))) e4 (.lst (cutV (gv gs) (some 1) none))) e5 (.lst [V.int 0])) e6 (.lst (gv gs ++ [V.int 0]))) e7 (.tup (gv gs))) LG (.lst [V.ref G, V.ref BA, V.ref e3, V.ref e4, V.ref e6, V.ref e7, V.non])) LG = some (.lst [V.ref G, V.ref BA, V.ref e3, V.ref e4, V.ref e6, V.ref e7, V.non]) := upd_same
        have hLGl : LG ≠ l := n0 u7 nLG
        have gps : ∀ v ∈ [V.ref G, V.ref BA, V.ref e3, V.ref e4, V.ref e6, V.ref e7, V.non], ∃ og, Gp K (upd (upd (upd (upd (upd (upd (upd (upd He e1 (.lst (cutV bent none (some (-1))))) e2 (.lst [V.non])) e3 (.lst (cutV bent none (some (-1)) ++ [V.non]))) e4 (.lst (cutV (gv gs) (some 1) none))) e5 (.lst [V.int 0])) e6 (.lst (gv gs ++ [V.int 0]))) e7 (.tup (gv gs))) LG (.lst [V.ref G, V.ref BA, V.ref e3, V.ref e4, V.ref e6, V.ref e7, V.non])) l v og := by
          have tg := thg.same u8
          have tb := thB.same u8
          intro v hv
          rcases List.mem_cons.mp hv with rfl | hv
          · exact tg.gp (u8 _ _ hG) hGl
          rcases List.mem_cons.mp hv with rfl | hv
          · exact tb.gp (u8 _ _ hBA) hBAl
          rcases List.mem_cons.mp hv with rfl | hv
          · exact (tb.cut.app (.one .non)).gp ((t4.trans (t5.trans (t6.trans (t7.trans t8)))) _ _ upd_same) (n0 (t1.trans t2) ne3)
          rcases List.mem_cons.mp hv with rfl | hv
          · exact tg.cut.gp ((t5.trans (t6.trans (t7.trans t8))) _ _ upd_same) (n0 u3 ne4)
          rcases List.mem_cons.mp hv with rfl | hv
          · exact (tg.app (.one (.int 0 (.inl ⟨by decide, by decide⟩)))).gp ((t7.trans t8) _ _ upd_same) (n0 u5 ne6)
          rcases List.mem_cons.mp hv with rfl | hv
          · exact ⟨none, .tup (SqT.of (t8 _ _ upd_same))⟩
          rw [List.mem_singleton.mp hv]
          exact ⟨none, .non⟩
        replace Bx := Bx.same u8
        replace hlo := u8 _ _ hlo
        generalize upd (upd (upd (upd (upd (upd (upd (upd He e1 (.lst (cutV bent none (some (-1))))) e2 (.lst [V.non])) e3 (.lst (cutV bent none (some (-1)) ++ [V.non]))) e4 (.lst (cutV (gv gs) (some 1) none))) e5 (.lst [V.int 0])) e6 (.lst (gv gs ++ [V.int 0]))) e7 (.tup (gv gs))) LG (.lst [V.ref G, V.ref BA, V.ref e3, V.ref e4, V.ref e6, V.ref e7, V.non]) = Hf at hLG gps Bx hlo ⊢
        generalize [V.ref G, V.ref BA, V.ref e3, V.ref e4, V.ref e6, V.ref e7, V.non] = sev at hLG gps ⊢
        clear t1 t2 t3 u3 t4 u4 t5 u5 t6 u6 t7 u7 t8 u8 ne1 ne2 ne3 ne4 ne5 ne6 ne7 nLG n0 thg thB hG hBA
        refine ⟨LG, rfl, ⟨_, SqL.of hLG⟩, for_list (K := K) (a := LG) (xs := sev) (fun i σ H' => ∃ w8 w13 w14 : Option V, σ = [some (.ref a), some (.int c), some (.ref l), some (.ref RH), some (.ref x1), some (.ref x2), w6, w7, w8, some (.int (many : Int)), some (.ref G), some (.int at_), some (.ref BA), w13, w14, none, none] ∧ H' LG = some (.lst sev) ∧ (∃ z, H' l = some (.lst [.int z])) ∧ Bas K H' C l L xs RH D1 D2 x1 x2 rs1 r1 r2 ∧ ∀ v ∈ sev, ∃ og, Gp K H' l v og)
          ⟨_, _, _, rfl, hLG, ⟨_, hlo⟩, Bx, gps⟩ (fun i σ H' _ ⟨_, _, _, _, h, _⟩ => SqL.of h) ?_ ?_⟩
        · rintro i g σ Hh hgi ⟨w8, w13, w14, rfl, hLG', ⟨zh, hlh⟩, Bh, gph⟩
          refine ⟨_, rfl, _, rfl, l, zh, 30, rfl, hlh, by decide, by decide, fun vo oo do_ zi Hi sbi hli thi => ?_⟩
          replace Bh := Bh.but hlh sbi
          replace hLG' := sbi _ _ hLGl hLG'
          have gph2 : ∀ v ∈ sev, ∃ og, Gp K Hi l v og := fun v hv => let ⟨og, z⟩ := gph v hv; ⟨og, z.but hlh sbi⟩
          refine ⟨(by show 2 ≤ sizeLine; decide), fun TS nTS => ?_⟩
          have sTS := same_new nTS (.lst [V.int (many : Int), vo])
          have hTS : (upd Hi TS (.lst [V.int (many : Int), vo])) TS = some (.lst [V.int (many : Int), vo]) := upd_same
          have Bj := Bh.same sTS
          have hlj := sTS _ _ hli
          have hLGj := sTS _ _ hLG'
          have gpj : ∀ v ∈ sev, ∃ og, Gp K (upd Hi TS (.lst [V.int (many : Int), vo])) l v og := fun v hv => let ⟨og, z⟩ := gph2 v hv; ⟨og, z.same sTS⟩
          have ths : ∀ x ∈ [V.int (many : Int), vo], ∃ o d, Th K (upd Hi TS (.lst [V.int (many : Int), vo])) l x o d := fun x hx => by
            rcases List.mem_cons.mp hx with rfl | hx
            · exact ⟨_, _, .int _ (.inl ⟨by omega, by omega⟩)⟩
            · rw [List.mem_singleton.mp hx]
              exact ⟨_, _, thi.same sTS⟩
          generalize upd Hi TS (.lst [V.int (many : Int), vo]) = Hj at hTS Bj hlj hLGj gpj ths ⊢
          obtain ⟨og, gpg⟩ := gpj g (List.mem_of_getElem? hgi)
          refine ⟨TS, rfl, ⟨_, SqL.of hTS⟩, for_list (K := K) (a := TS) (xs := [V.int (many : Int), vo]) (fun i σ H' => ∃ w8 w14 : Option V, σ = [some (.ref a), some (.int c), some (.ref l), some (.ref RH), some (.ref x1), some (.ref x2), w6, w7, w8, some (.int (many : Int)), some (.ref G), some (.int at_), some (.ref BA), some g, w14, none, none] ∧ Same Hj H') ⟨_, _, rfl, Same.refl _⟩ (fun i σ H' _ ⟨_, _, _, s⟩ => SqL.of (s _ _ hTS)) ?_ ?_⟩
          · rintro t x σ Hk hx ⟨w8, w14, rfl, sk⟩
            obtain ⟨o, d, th⟩ := ths x (List.mem_of_getElem? hx)
            have ok := th.odd
            refine ⟨_, rfl, l, x, o, d, 30, rfl, th.same sk, fun v1 H10 s10 rv1 => ?_⟩
            have s11 := sk.trans s10
            have okr : Okr (res3 o d og m1) := okr_3 ok
            cases cin : inR o 1 30 with
            | true =>
              have e1 : resN o d 30 = none := if_pos cin
              rw [e1] at rv1
              cases (show v1 = .non from rv1)
              refine ⟨_, rfl, rfl, _, rfl, iteT ?_⟩
              obtain ⟨ii, rfl, i1, i30⟩ := inR_some cin
              obtain ⟨mi, rfl⟩ : ∃ mi : Nat, ii = (mi : Int) := ⟨ii.toNat, by omega⟩
              have ev := th.some_
              subst ev
              have BJ := Bj.same s11
              obtain ⟨dj, raj, rsj, ej, _⟩ := id BJ.R1
              refine ⟨_, rfl, _, rfl, x1, dj, _, rfl, ej, x1, r1, 8, m1, rfl, BJ.R1, g1, m1, rfl, by omega, _, rfl, l, g, og, m1, mi, rfl, gpg.same s11, fun v2 H12 s12 rv2 => ?_⟩
              have e3 : res3 (some (mi : Int)) d og m1 = resG og m1 mi := (if_pos cin).trans (by rw [show ((some (mi : Int)).getD 0).toNat = mi from Int.toNat_natCast mi])
              rw [← e3] at rv2
              have s13 := s11.trans s12
              refine ⟨_, rfl, _, rfl, _, rfl, l, _, .way3 (Bj.R1.same s13) g1 (gpg.same s13) (th.same s13), fun v3 H14 s14 rv3 => ?_⟩
              refine ⟨_, rfl, _, _, rv3.dp okr, (rv2.same s14).dp okr, datR_sh okr, datR_sh okr, _, rfl, ?_⟩
              rw [SeqAt.eqv_refl _ (datR_lay okr)]
              exact iteF ⟨_, _, rfl, s13.trans s14⟩
            | false =>
              have e1 : resN o d 30 = some [.str "number", .str d.shown, .bl true] := if_neg (by rw [cin]; decide)
              rw [e1] at rv1
              obtain ⟨pv, rfl, hpv⟩ := rv1
              refine ⟨_, rfl, rfl, _, rfl, iteF ?_⟩
              have e3 : res3 o d og m1 = some [.str "number", .str d.shown, .bl true] := if_neg (by rw [cin]; decide)
              refine ⟨_, rfl, _, rfl, _, rfl, l, _, .way3 (Bj.R1.same s11) g1 (gpg.same s11) (th.same s11), fun v3 H14 s14 rv3 => ?_⟩
              have rv2 : Rv H14 (V.ref pv) (res3 o d og m1) := by
                rw [e3]
                exact ⟨pv, rfl, s14 _ _ hpv⟩
              refine ⟨_, rfl, _, _, rv3.dp okr, rv2.dp okr, datR_sh okr, datR_sh okr, _, rfl, ?_⟩
              rw [SeqAt.eqv_refl _ (datR_lay okr)]
              exact iteF ⟨_, _, rfl, s11.trans s14⟩
          · rintro σ Hk ⟨w8, w14, rfl, sk⟩
            exact ⟨_, _, _, rfl, sk _ _ hLGj, ⟨zi, sk _ _ hlj⟩, Bj.same sk, fun v hv => let ⟨og, z⟩ := gpj v hv; ⟨og, z.same sk⟩⟩
        · rintro σ Hk ⟨w8, w13, w14, rfl, _, _, Bk, _⟩
          exact ⟨_, _, _, _, _, _, _, _, _, _, _, _, _, _, rfl, Bk.hL⟩
      · rw [decide_eq_false (fun z => hw (by have := V.int.inj z; omega))]
        refine iteT ?_
        refine ⟨_, rfl, x1, dx1, _, rfl, ex1, rfl, x1, r1, 8, rfl, BR1, _, rfl, x2, dx2, _, rfl, ex2, rfl, x2, r2, 8, rfl, BR2, (by show 3 ≤ sizeLine; decide), fun pw npw => ?_⟩
        have sw := same_new npw (.lst [V.str "unlike", V.int (r1.length : Int), V.int (r2.length : Int)])
        have rv8 : Rv (upd Hb pw (.lst [V.str "unlike", V.int (r1.length : Int), V.int (r2.length : Int)])) (V.ref pw) (resB r1 r2 m1 m2) := by
          rw [show resB r1 r2 m1 m2 = some [.str "unlike", .int (r1.length : Int), .int (r2.length : Int)] from if_neg hw]
          exact ⟨pw, rfl, upd_same⟩
        have Bx := Bb.same (sw)
        have hlx := (sw) _ _ hlb
        generalize (upd Hb pw (.lst [V.str "unlike", V.int (r1.length : Int), V.int (r2.length : Int)])) = Hx at rv8 Bx hlx ⊢
        refine ⟨_, rfl, _, rfl, l, _, .way2 Bx.R1 Bx.R2 g1 g2, fun v1 H9 s9 rv1 => ?_⟩
        refine ⟨_, rfl, _, _, rv1.dp okr_B, (rv8.same s9).dp okr_B, datR_sh okr_B, datR_sh okr_B, _, rfl, ?_⟩
        rw [SeqAt.eqv_refl _ (datR_lay okr_B)]
        refine iteF ?_
        replace Bx := Bx.same s9
        replace hlx := s9 _ _ hlx
        clear rv8 rv1
        -- many
        refine ⟨_, rfl, l, zb, 30, rfl, hlx, by decide, by decide, fun dm zm a0 a30 => ?_⟩
        refine ⟨1, dm, rfl, rfl, ?_⟩
        obtain ⟨many, em⟩ : ∃ many : Nat, (1 + dm : Int) = (many : Int) := ⟨(1 + dm).toNat, by omega⟩
        have mn1 : 1 ≤ many := by omega
        have mn30 : many ≤ 30 := by omega
        rw [show ((fun i j => V.int (i + j)) 1 dm : V) = V.int (many : Int) from congrArg V.int em]
        replace Bx := Bx.but hlx (SameB.upd (o := .lst [.int zm]))
        replace hlx : (upd H9 l (.lst [.int zm])) l = some (.lst [.int zm]) := upd_same
        generalize upd H9 l (.lst [.int zm]) = Hm at Bx hlx ⊢
        -- good
        have W1 := Bx.W1
        have h01 : 0 < rs1.length := by rw [W1.2.1]; have := g1.w1; omega
        have er : rs1[0]? = some rs1[0] := List.getElem?_eq_getElem h01
        obtain ⟨cs1, qs1, o1, o2, o3⟩ := W1.2.2 0 _ er
        have lq : qs1.length = m1 := (g1.row qs1 (List.mem_of_getElem? o1)).1
        have lc1 : cs1.length = m1 := by rw [o3.len, lq]
        have m11 := g1.m1
        have hrl : rs1[0] ≠ l := fun e => nr_num hlx W1.2 (by rw [← e]; exact List.getElem_mem _)
        refine ⟨_, rfl, RH, _, 0, .ref D1, rfl, rfl, SqL.of Bx.hRH, atI_nat (j := 0) rfl, D1, _, 0, .ref rs1[0], rfl, rfl, SqL.of W1.1, atI_nat (j := 0) (by rw [List.getElem?_map, er]; rfl), rs1[0], rfl, ⟨_, SqL.of o2⟩, fun G nG => ?_⟩
        have hGl : G ≠ l := fun e => by
          rw [e, hlx] at nG
          cases nG
        refine lc_list (K := K) (a := rs1[0]) (xs := cs1) (fun j H' => ∃ (gs : List Nat) (z' : Int), H' G = some (.lst (gv gs)) ∧ gs.length = j ∧ (∀ g ∈ gs, g < many) ∧ SameB l Hm H' ∧ H' l = some (.lst [.int z']))
          ⟨[], zm, upd_same, rfl, fun g hg => by simp at hg, SameB.of (same_new nG _), by rw [upd_ne (Ne.symm hGl)]; exact hlx⟩ (fun i H' _ ⟨_, _, _, _, _, sb, _⟩ => SqL.of (sb _ _ hrl o2)) ?_ ?_
        · rintro j x H' hj ⟨gs, z', hG, hgl, hgm, sb, hl'⟩
          have hj1 : j < cs1.length := (List.getElem?_eq_some_iff.mp hj).1
          refine ⟨rfl, tYes_of ?_⟩
          refine ⟨_, rfl, _, rfl, l, z', (many : Int), rfl, hl', by omega, Nat.lt_of_le_of_lt (by omega : ((many : Int)).natAbs ≤ 30) (by decide), fun dd zz dd0 ddm => ?_⟩
          have ed : V.int dd = V.int ((dd.toNat : Nat) : Int) := by rw [Int.toNat_of_nonneg dd0]
          refine ⟨gv gs, by rw [upd_ne hGl]; exact hG, ?_, gs ++ [dd.toNat], zz, ?_, ?_, ?_, ?_, ?_⟩
          · rw [show (gv gs).length = gs.length from List.length_map _, hgl]
            exact small1000 (by omega)
          · rw [upd_same, ed]
            show _ = some (HO.lst ((gs ++ [dd.toNat]).map fun (g : Nat) => V.int (g : Int)))
            rw [List.map_append]
            rfl
          · rw [List.length_append, hgl]
            rfl
          · intro g hg
            rcases List.mem_append.mp hg with hg | hg
            · exact hgm g hg
            · rw [List.mem_singleton.mp hg]
              omega
          · intro b u hb e
            rw [upd_ne (ne_of_none e nG), upd_ne hb]
            exact sb b u hb e
          · rw [upd_ne (Ne.symm hGl), upd_same]
        rintro Hg ⟨gs, zg, hG, hgl, hgm, sbg, hlg⟩
        rw [lc1] at hgl
        replace Bx := Bx.but hlx sbg
        have lgv : (gv gs).length = m1 := by rw [show (gv gs).length = gs.length from List.length_map _, hgl]
        have thg : ThA K Hg l (gv gs) := tha_gv hgm mn30
        clear o1 o2 o3 lq lc1 sbg hlx nG W1
        -- at
        refine ⟨_, rfl, _, rfl, G, gv gs, rfl, .inl (SqL.of hG), l, zg, _, rfl, hlg, by rw [lgv]; omega, Nat.lt_of_le_of_lt (by rw [lgv]; omega : (((gv gs).length : Nat) : Int).natAbs ≤ 30) (by decide), fun at_ za at0 atm => ?_⟩
        rw [lgv] at atm
        replace Bx := Bx.but hlg (SameB.upd (o := .lst [.int za]))
        replace hG : (upd Hg l (.lst [.int za])) G = some (.lst (gv gs)) := by rw [upd_ne hGl]; exact hG
        replace thg := thg.but hlg (SameB.upd (o := .lst [.int za]))
        replace hlg : (upd Hg l (.lst [.int za])) l = some (.lst [.int za]) := upd_same
        generalize upd Hg l (.lst [.int za]) = Ha at Bx hG thg hlg ⊢
        -- bent
        refine ⟨_, rfl, _, rfl, at_, rfl, G, gv gs, rfl, SqL.of hG, fun c1 nc1 => ?_⟩
        have sc1 := same_new nc1 (.lst (cutV (gv gs) none (some at_)))
        have hc1l : c1 ≠ l := fun e => by
          rw [e, hlg] at nc1
          cases nc1
        have hc1 : (upd Ha c1 (.lst (cutV (gv gs) none (some at_)))) c1 = some (.lst (cutV (gv gs) none (some at_))) := upd_same
        replace Bx := Bx.same sc1
        replace hG := sc1 _ _ hG
        replace thg := thg.same sc1
        replace hlg := sc1 _ _ hlg
        generalize upd Ha c1 (.lst (cutV (gv gs) none (some at_))) = Hc at hc1 Bx hG thg hlg ⊢
        refine ⟨_, rfl, _, rfl, (many : Int), 1, rfl, rfl, l, za, (many : Int) - 1, rfl, hlg, by omega, by omega, fun vb ob db zo Ho sbo hlo thb => ?_⟩
        replace Bx := Bx.but hlg sbo
        replace hG := sbo _ _ hGl hG
        replace hc1 := sbo _ _ hc1l hc1
        replace thg := thg.but hlg sbo
        clear hlg sbo
        refine ⟨(by show 1 ≤ sizeLine; decide), fun c2 nc2 => ?_⟩
        have sc2 := same_new nc2 (.lst [vb])
        refine ⟨c1, c2, _, _, rfl, rfl, sc2 _ _ hc1, upd_same, ?_, fun c3 nc3 => ?_⟩
        · have := cut_len (n := m1) (lo := none) (hi := some at_) (Nat.le_of_eq lgv)
          rw [List.length_singleton]
          exact Nat.le_of_lt (small1000 (by omega))
        have sc3 := same_new nc3 (.lst (cutV (gv gs) none (some at_) ++ [vb]))
        have sc23 := sc2.trans sc3
        have hc3 : (upd (upd Ho c2 (.lst [vb])) c3 (.lst (cutV (gv gs) none (some at_) ++ [vb]))) c3 = some (.lst (cutV (gv gs) none (some at_) ++ [vb])) := upd_same
        replace Bx := Bx.same sc23
        replace hG := sc23 _ _ hG
        replace thg := thg.same sc23
        replace hlo := sc23 _ _ hlo
        replace thb := thb.same sc23
        generalize upd (upd Ho c2 (.lst [vb])) c3 (.lst (cutV (gv gs) none (some at_) ++ [vb])) = Hd at hc3 Bx hG thg hlo thb ⊢
        refine ⟨_, rfl, _, rfl, at_, 1, rfl, rfl, at_ + 1, rfl, G, gv gs, rfl, SqL.of hG, fun c4 nc4 => ?_⟩
        have sc4 := same_new nc4 (.lst (cutV (gv gs) (some (at_ + 1)) none))
        have l4 := cut_len (n := m1) (lo := some (at_ + 1)) (hi := none) (Nat.le_of_eq lgv)
        have l3 := cut_len (n := m1) (lo := none) (hi := some at_) (Nat.le_of_eq lgv)
        refine ⟨c3, c4, _, _, rfl, rfl, sc4 _ _ hc3, upd_same, ?_, fun BA nBA => ?_⟩
        · rw [List.length_append, List.length_singleton]
          exact Nat.le_of_lt (small1000 (by omega))
        have sc5 := same_new nBA (.lst (cutV (gv gs) none (some at_) ++ [vb] ++ cutV (gv gs) (some (at_ + 1)) none))
        have sc45 := sc4.trans sc5
        have hBA : (upd (upd Hd c4 (.lst (cutV (gv gs) (some (at_ + 1)) none))) BA (.lst (cutV (gv gs) none (some at_) ++ [vb] ++ cutV (gv gs) (some (at_ + 1)) none))) BA = some (.lst (cutV (gv gs) none (some at_) ++ [vb] ++ cutV (gv gs) (some (at_ + 1)) none)) := upd_same
        have hBAl : BA ≠ l := fun e => by
          rw [e] at nBA
          rw [sc4 _ _ hlo] at nBA
          cases nBA
        replace Bx := Bx.same sc45
        replace hG := sc45 _ _ hG
        replace thg := thg.same sc45
        replace hlo := sc45 _ _ hlo
        replace thb := thb.same sc45
        have thB : ThA K _ l (cutV (gv gs) none (some at_) ++ [vb] ++ cutV (gv gs) (some (at_ + 1)) none) := (thg.cut.app (.one thb)).app thg.cut
        have lB : (cutV (gv gs) none (some at_) ++ [vb] ++ cutV (gv gs) (some (at_ + 1)) none).length ≤ 61 := by
          rw [List.length_append, List.length_append, List.length_singleton]
          omega
        generalize upd (upd Hd c4 (.lst (cutV (gv gs) (some (at_ + 1)) none))) BA (.lst (cutV (gv gs) none (some at_) ++ [vb] ++ cutV (gv gs) (some (at_ + 1)) none)) = He at hBA Bx hG thg hlo thB ⊢
        generalize cutV (gv gs) none (some at_) ++ [vb] ++ cutV (gv gs) (some (at_ + 1)) none = bent at hBA thB lB ⊢
        clear l3 l4 sc4 sc5 sc45 nBA nc4 hc3 sc2 sc3 sc23 nc3 nc2 hc1 thb sc1 nc1
        -- the seven
        have n0 : ∀ {H' : Hp} {p : Addr}, Same He H' → H' p = none → p ≠ l := fun {H' p} s e z => by
          rw [z, s _ _ hlo] at e
          cases e
        refine ⟨_, rfl, _, rfl, _, rfl, 1, rfl, -1, rfl, BA, bent, rfl, SqL.of hBA, fun e1 ne1 => ?_⟩
        have t1 := same_new ne1 (.lst (cutV bent none (some (-1))))
        refine ⟨(by show 1 ≤ sizeLine; decide), fun e2 ne2 => ?_⟩
        have t2 := same_new ne2 (.lst [V.non])
        have le1 := cut_len (n := 61) (lo := none) (hi := some (-1)) lB
        refine ⟨e1, e2, _, _, rfl, rfl, t2 _ _ upd_same, upd_same, by rw [List.length_singleton]; exact Nat.le_of_lt (small1000 (by omega)), fun e3 ne3 => ?_⟩
        have t3 := same_new ne3 (.lst (cutV bent none (some (-1)) ++ [V.non]))
        have u3 := t1.trans (t2.trans t3)
        refine ⟨_, rfl, 1, rfl, G, gv gs, rfl, SqL.of (u3 _ _ hG), fun e4 ne4 => ?_⟩
        have t4 := same_new ne4 (.lst (cutV (gv gs) (some 1) none))
        have u4 := u3.trans t4
        refine ⟨_, rfl, (by show 1 ≤ sizeLine; decide), fun e5 ne5 => ?_⟩
        have t5 := same_new ne5 (.lst [V.int 0])
        have u5 := u4.trans t5
        refine ⟨G, e5, _, _, rfl, rfl, u5 _ _ hG, upd_same, by rw [List.length_singleton, lgv]; exact Nat.le_of_lt (small1000 (by omega)), fun e6 ne6 => ?_⟩
        have t6 := same_new ne6 (.lst (gv gs ++ [V.int 0]))
        have u6 := u5.trans t6
        refine ⟨_, rfl, G, gv gs, rfl, .inl ⟨SqL.of (u6 _ _ hG), fun e7 ne7 => ?_⟩⟩
        have t7 := same_new ne7 (.tup (gv gs))
        have u7 := u6.trans t7
        refine ⟨(by show 7 ≤ sizeLine; decide), fun LG nLG => ?_⟩
        have t8 := same_new nLG (.lst [V.ref G, V.ref BA, V.ref e3, V.ref e4, V.ref e6, V.ref e7, V.non])
        have u8 := u7.trans t8
        have hLG : (upd (upd (upd (upd (upd (upd (upd (upd He e1 (.lst (cutV bent none (some (-1))))) e2 (.lst [V.non])) e3 (.lst (cutV bent none (some (-1)) ++ [V.non]))) e4 (.lst (cutV (gv gs) (some 1) none))) e5 (.lst [V.int 0])) e6 (.lst (gv gs ++ [V.int 0]))) e7 (.tup (gv gs))) LG (.lst [V.ref G, V.ref BA, V.ref e3, V.ref e4, V.ref e6, V.ref e7, V.non])) LG = some (.lst [V.ref G, V.ref BA, V.ref e3, V.ref e4, V.ref e6, V.ref e7, V.non]) := upd_same
        have hLGl : LG ≠ l := n0 u7 nLG
        have gps : ∀ v ∈ [V.ref G, V.ref BA, V.ref e3, V.ref e4, V.ref e6, V.ref e7, V.non], ∃ og, Gp K (upd (upd (upd (upd (upd (upd (upd (upd He e1 (.lst (cutV bent none (some (-1))))) e2 (.lst [V.non])) e3 (.lst (cutV bent none (some (-1)) ++ [V.non]))) e4 (.lst (cutV (gv gs) (some 1) none))) e5 (.lst [V.int 0])) e6 (.lst (gv gs ++ [V.int 0]))) e7 (.tup (gv gs))) LG (.lst [V.ref G, V.ref BA, V.ref e3, V.ref e4, V.ref e6, V.ref e7, V.non])) l v og := by
          have tg := thg.same u8
          have tb := thB.same u8
          intro v hv
          rcases List.mem_cons.mp hv with rfl | hv
          · exact tg.gp (u8 _ _ hG) hGl
          rcases List.mem_cons.mp hv with rfl | hv
          · exact tb.gp (u8 _ _ hBA) hBAl
          rcases List.mem_cons.mp hv with rfl | hv
          · exact (tb.cut.app (.one .non)).gp ((t4.trans (t5.trans (t6.trans (t7.trans t8)))) _ _ upd_same) (n0 (t1.trans t2) ne3)
          rcases List.mem_cons.mp hv with rfl | hv
          · exact tg.cut.gp ((t5.trans (t6.trans (t7.trans t8))) _ _ upd_same) (n0 u3 ne4)
          rcases List.mem_cons.mp hv with rfl | hv
          · exact (tg.app (.one (.int 0 (.inl ⟨by decide, by decide⟩)))).gp ((t7.trans t8) _ _ upd_same) (n0 u5 ne6)
          rcases List.mem_cons.mp hv with rfl | hv
          · exact ⟨none, .tup (SqT.of (t8 _ _ upd_same))⟩
          rw [List.mem_singleton.mp hv]
          exact ⟨none, .non⟩
        replace Bx := Bx.same u8
        replace hlo := u8 _ _ hlo
        generalize upd (upd (upd (upd (upd (upd (upd (upd He e1 (.lst (cutV bent none (some (-1))))) e2 (.lst [V.non])) e3 (.lst (cutV bent none (some (-1)) ++ [V.non]))) e4 (.lst (cutV (gv gs) (some 1) none))) e5 (.lst [V.int 0])) e6 (.lst (gv gs ++ [V.int 0]))) e7 (.tup (gv gs))) LG (.lst [V.ref G, V.ref BA, V.ref e3, V.ref e4, V.ref e6, V.ref e7, V.non]) = Hf at hLG gps Bx hlo ⊢
        generalize [V.ref G, V.ref BA, V.ref e3, V.ref e4, V.ref e6, V.ref e7, V.non] = sev at hLG gps ⊢
        clear t1 t2 t3 u3 t4 u4 t5 u5 t6 u6 t7 u7 t8 u8 ne1 ne2 ne3 ne4 ne5 ne6 ne7 nLG n0 thg thB hG hBA
        refine ⟨LG, rfl, ⟨_, SqL.of hLG⟩, for_list (K := K) (a := LG) (xs := sev) (fun i σ H' => ∃ w8 w13 w14 : Option V, σ = [some (.ref a), some (.int c), some (.ref l), some (.ref RH), some (.ref x1), some (.ref x2), w6, w7, w8, some (.int (many : Int)), some (.ref G), some (.int at_), some (.ref BA), w13, w14, none, none] ∧ H' LG = some (.lst sev) ∧ (∃ z, H' l = some (.lst [.int z])) ∧ Bas K H' C l L xs RH D1 D2 x1 x2 rs1 r1 r2 ∧ ∀ v ∈ sev, ∃ og, Gp K H' l v og)
          ⟨_, _, _, rfl, hLG, ⟨_, hlo⟩, Bx, gps⟩ (fun i σ H' _ ⟨_, _, _, _, h, _⟩ => SqL.of h) ?_ ?_⟩
        · rintro i g σ Hh hgi ⟨w8, w13, w14, rfl, hLG', ⟨zh, hlh⟩, Bh, gph⟩
          refine ⟨_, rfl, _, rfl, l, zh, 30, rfl, hlh, by decide, by decide, fun vo oo do_ zi Hi sbi hli thi => ?_⟩
          replace Bh := Bh.but hlh sbi
          replace hLG' := sbi _ _ hLGl hLG'
          have gph2 : ∀ v ∈ sev, ∃ og, Gp K Hi l v og := fun v hv => let ⟨og, z⟩ := gph v hv; ⟨og, z.but hlh sbi⟩
          refine ⟨(by show 2 ≤ sizeLine; decide), fun TS nTS => ?_⟩
          have sTS := same_new nTS (.lst [V.int (many : Int), vo])
          have hTS : (upd Hi TS (.lst [V.int (many : Int), vo])) TS = some (.lst [V.int (many : Int), vo]) := upd_same
          have Bj := Bh.same sTS
          have hlj := sTS _ _ hli
          have hLGj := sTS _ _ hLG'
          have gpj : ∀ v ∈ sev, ∃ og, Gp K (upd Hi TS (.lst [V.int (many : Int), vo])) l v og := fun v hv => let ⟨og, z⟩ := gph2 v hv; ⟨og, z.same sTS⟩
          have ths : ∀ x ∈ [V.int (many : Int), vo], ∃ o d, Th K (upd Hi TS (.lst [V.int (many : Int), vo])) l x o d := fun x hx => by
            rcases List.mem_cons.mp hx with rfl | hx
            · exact ⟨_, _, .int _ (.inl ⟨by omega, by omega⟩)⟩
            · rw [List.mem_singleton.mp hx]
              exact ⟨_, _, thi.same sTS⟩
          generalize upd Hi TS (.lst [V.int (many : Int), vo]) = Hj at hTS Bj hlj hLGj gpj ths ⊢
          obtain ⟨og, gpg⟩ := gpj g (List.mem_of_getElem? hgi)
          refine ⟨TS, rfl, ⟨_, SqL.of hTS⟩, for_list (K := K) (a := TS) (xs := [V.int (many : Int), vo]) (fun i σ H' => ∃ w8 w14 : Option V, σ = [some (.ref a), some (.int c), some (.ref l), some (.ref RH), some (.ref x1), some (.ref x2), w6, w7, w8, some (.int (many : Int)), some (.ref G), some (.int at_), some (.ref BA), some g, w14, none, none] ∧ Same Hj H') ⟨_, _, rfl, Same.refl _⟩ (fun i σ H' _ ⟨_, _, _, s⟩ => SqL.of (s _ _ hTS)) ?_ ?_⟩
          · rintro t x σ Hk hx ⟨w8, w14, rfl, sk⟩
            obtain ⟨o, d, th⟩ := ths x (List.mem_of_getElem? hx)
            have ok := th.odd
            refine ⟨_, rfl, l, x, o, d, 30, rfl, th.same sk, fun v1 H10 s10 rv1 => ?_⟩
            have s11 := sk.trans s10
            have okr : Okr (res3 o d og m1) := okr_3 ok
            cases cin : inR o 1 30 with
            | true =>
              have e1 : resN o d 30 = none := if_pos cin
              rw [e1] at rv1
              cases (show v1 = .non from rv1)
              refine ⟨_, rfl, rfl, _, rfl, iteT ?_⟩
              obtain ⟨ii, rfl, i1, i30⟩ := inR_some cin
              obtain ⟨mi, rfl⟩ : ∃ mi : Nat, ii = (mi : Int) := ⟨ii.toNat, by omega⟩
              have ev := th.some_
              subst ev
              have BJ := Bj.same s11
              obtain ⟨dj, raj, rsj, ej, _⟩ := id BJ.R1
              refine ⟨_, rfl, _, rfl, x1, dj, _, rfl, ej, x1, r1, 8, m1, rfl, BJ.R1, g1, m1, rfl, by omega, _, rfl, l, g, og, m1, mi, rfl, gpg.same s11, fun v2 H12 s12 rv2 => ?_⟩
              have e3 : res3 (some (mi : Int)) d og m1 = resG og m1 mi := (if_pos cin).trans (by rw [show ((some (mi : Int)).getD 0).toNat = mi from Int.toNat_natCast mi])
              rw [← e3] at rv2
              have s13 := s11.trans s12
              refine ⟨_, rfl, _, rfl, _, rfl, l, _, .way3 (Bj.R1.same s13) g1 (gpg.same s13) (th.same s13), fun v3 H14 s14 rv3 => ?_⟩
              refine ⟨_, rfl, _, _, rv3.dp okr, (rv2.same s14).dp okr, datR_sh okr, datR_sh okr, _, rfl, ?_⟩
              rw [SeqAt.eqv_refl _ (datR_lay okr)]
              exact iteF ⟨_, _, rfl, s13.trans s14⟩
            | false =>
              have e1 : resN o d 30 = some [.str "number", .str d.shown, .bl true] := if_neg (by rw [cin]; decide)
              rw [e1] at rv1
              obtain ⟨pv, rfl, hpv⟩ := rv1
              refine ⟨_, rfl, rfl, _, rfl, iteF ?_⟩
              have e3 : res3 o d og m1 = some [.str "number", .str d.shown, .bl true] := if_neg (by rw [cin]; decide)
              refine ⟨_, rfl, _, rfl, _, rfl, l, _, .way3 (Bj.R1.same s11) g1 (gpg.same s11) (th.same s11), fun v3 H14 s14 rv3 => ?_⟩
              have rv2 : Rv H14 (V.ref pv) (res3 o d og m1) := by
                rw [e3]
                exact ⟨pv, rfl, s14 _ _ hpv⟩
              refine ⟨_, rfl, _, _, rv3.dp okr, rv2.dp okr, datR_sh okr, datR_sh okr, _, rfl, ?_⟩
              rw [SeqAt.eqv_refl _ (datR_lay okr)]
              exact iteF ⟨_, _, rfl, s11.trans s14⟩
          · rintro σ Hk ⟨w8, w14, rfl, sk⟩
            exact ⟨_, _, _, rfl, sk _ _ hLGj, ⟨zi, sk _ _ hlj⟩, Bj.same sk, fun v hv => let ⟨og, z⟩ := gpj v hv; ⟨og, z.same sk⟩⟩
        · rintro σ Hk ⟨w8, w13, w14, rfl, _, _, Bk, _⟩
          exact ⟨_, _, _, _, _, _, _, _, _, _, _, _, _, _, rfl, Bk.hL⟩
    · have hmz : (30 : Int) < (m1 : Int) * (m2 : Int) := by
        rw [← Int.natCast_mul]
        omega
      rw [decide_eq_true hmz]
      refine iteT ?_
      refine ⟨_, rfl, x1, dx1, _, rfl, ex1, x1, r1, 8, m1, rfl, BR1, g1, m1, rfl, by omega, _, rfl, x2, dx2, _, rfl, ex2, x2, r2, 8, m2, rfl, BR2, g2, m2, rfl, by omega, _, _, rfl, rfl, .inl ⟨by omega, by omega⟩, (by show 3 ≤ sizeLine; decide), fun pm npm => ?_⟩
      have sm := same_new npm (.lst [V.str "many", V.int ((m1 : Int) * (m2 : Int)), V.bl true])
      refine ⟨_, rfl, x1, dx1, _, rfl, (sm _ _ ex1), rfl, x1, r1, 8, rfl, (BR1.same sm), _, rfl, x2, dx2, _, rfl, (sm _ _ ex2), rfl, x2, r2, 8, rfl, (BR2.same sm), rfl, _, rfl, ?_⟩
      by_cases hw : r1.length = r2.length
      · rw [decide_eq_true (show V.int (r1.length : Int) = V.int (r2.length : Int) by rw [hw])]
        refine iteF ?_
        have rv8 : Rv (upd Hb pm (.lst [V.str "many", V.int ((m1 : Int) * (m2 : Int)), V.bl true])) (V.ref pm) (resB r1 r2 m1 m2) := (by rw [show resB r1 r2 m1 m2 = some [.str "many", .int ((m1 : Int) * (m2 : Int)), .bl true] from (if_pos hw).trans (if_neg hm)]; exact ⟨pm, rfl, upd_same⟩)
        have Bx := Bb.same sm
        have hlx := sm _ _ hlb
        generalize (upd Hb pm (.lst [V.str "many", V.int ((m1 : Int) * (m2 : Int)), V.bl true])) = Hx at rv8 Bx hlx ⊢
        refine ⟨_, rfl, _, rfl, l, _, .way2 Bx.R1 Bx.R2 g1 g2, fun v1 H9 s9 rv1 => ?_⟩
        refine ⟨_, rfl, _, _, rv1.dp okr_B, (rv8.same s9).dp okr_B, datR_sh okr_B, datR_sh okr_B, _, rfl, ?_⟩
        rw [SeqAt.eqv_refl _ (datR_lay okr_B)]
        refine iteF ?_
        replace Bx := Bx.same s9
        replace hlx := s9 _ _ hlx
        clear rv8 rv1
        -- many
        refine ⟨_, rfl, l, zb, 30, rfl, hlx, by decide, by decide, fun dm zm a0 a30 => ?_⟩
        refine ⟨1, dm, rfl, rfl, ?_⟩
        obtain ⟨many, em⟩ : ∃ many : Nat, (1 + dm : Int) = (many : Int) := ⟨(1 + dm).toNat, by omega⟩
        have mn1 : 1 ≤ many := by omega
        have mn30 : many ≤ 30 := by omega
        rw [show ((fun i j => V.int (i + j)) 1 dm : V) = V.int (many : Int) from congrArg V.int em]
        replace Bx := Bx.but hlx (SameB.upd (o := .lst [.int zm]))
        replace hlx : (upd H9 l (.lst [.int zm])) l = some (.lst [.int zm]) := upd_same
        generalize upd H9 l (.lst [.int zm]) = Hm at Bx hlx ⊢
        -- good
        have W1 := Bx.W1
        have h01 : 0 < rs1.length := by rw [W1.2.1]; have := g1.w1; omega
        have er : rs1[0]? = some rs1[0] := List.getElem?_eq_getElem h01
        obtain ⟨cs1, qs1, o1, o2, o3⟩ := W1.2.2 0 _ er
        have lq : qs1.length = m1 := (g1.row qs1 (List.mem_of_getElem? o1)).1
        have lc1 : cs1.length = m1 := by rw [o3.len, lq]
        have m11 := g1.m1
        have hrl : rs1[0] ≠ l := fun e => nr_num hlx W1.2 (by rw [← e]; exact List.getElem_mem _)
        refine ⟨_, rfl, RH, _, 0, .ref D1, rfl, rfl, SqL.of Bx.hRH, atI_nat (j := 0) rfl, D1, _, 0, .ref rs1[0], rfl, rfl, SqL.of W1.1, atI_nat (j := 0) (by rw [List.getElem?_map, er]; rfl), rs1[0], rfl, ⟨_, SqL.of o2⟩, fun G nG => ?_⟩
        have hGl : G ≠ l := fun e => by
          rw [e, hlx] at nG
          cases nG
        refine lc_list (K := K) (a := rs1[0]) (xs := cs1) (fun j H' => ∃ (gs : List Nat) (z' : Int), H' G = some (.lst (gv gs)) ∧ gs.length = j ∧ (∀ g ∈ gs, g < many) ∧ SameB l Hm H' ∧ H' l = some (.lst [.int z']))
          ⟨[], zm, upd_same, rfl, fun g hg => by simp at hg, SameB.of (same_new nG _), by rw [upd_ne (Ne.symm hGl)]; exact hlx⟩ (fun i H' _ ⟨_, _, _, _, _, sb, _⟩ => SqL.of (sb _ _ hrl o2)) ?_ ?_
        · rintro j x H' hj ⟨gs, z', hG, hgl, hgm, sb, hl'⟩
          have hj1 : j < cs1.length := (List.getElem?_eq_some_iff.mp hj).1
          refine ⟨rfl, tYes_of ?_⟩
          refine ⟨_, rfl, _, rfl, l, z', (many : Int), rfl, hl', by omega, Nat.lt_of_le_of_lt (by omega : ((many : Int)).natAbs ≤ 30) (by decide), fun dd zz dd0 ddm => ?_⟩
          have ed : V.int dd = V.int ((dd.toNat : Nat) : Int) := by rw [Int.toNat_of_nonneg dd0]
          refine ⟨gv gs, by rw [upd_ne hGl]; exact hG, ?_, gs ++ [dd.toNat], zz, ?_, ?_, ?_, ?_, ?_⟩
          · rw [show (gv gs).length = gs.length from List.length_map _, hgl]
            exact small1000 (by omega)
          · rw [upd_same, ed]
            show _ = some (HO.lst ((gs ++ [dd.toNat]).map fun (g : Nat) => V.int (g : Int)))
            rw [List.map_append]
            rfl
          · rw [List.length_append, hgl]
            rfl
          · intro g hg
            rcases List.mem_append.mp hg with hg | hg
            · exact hgm g hg
            · rw [List.mem_singleton.mp hg]
              omega
          · intro b u hb e
            rw [upd_ne (ne_of_none e nG), upd_ne hb]
            exact sb b u hb e
          · rw [upd_ne (Ne.symm hGl), upd_same]
        rintro Hg ⟨gs, zg, hG, hgl, hgm, sbg, hlg⟩
        rw [lc1] at hgl
        replace Bx := Bx.but hlx sbg
        have lgv : (gv gs).length = m1 := by rw [show (gv gs).length = gs.length from List.length_map _, hgl]
        have thg : ThA K Hg l (gv gs) := tha_gv hgm mn30
        clear o1 o2 o3 lq lc1 sbg hlx nG W1
        -- at
        refine ⟨_, rfl, _, rfl, G, gv gs, rfl, .inl (SqL.of hG), l, zg, _, rfl, hlg, by rw [lgv]; omega, Nat.lt_of_le_of_lt (by rw [lgv]; omega : (((gv gs).length : Nat) : Int).natAbs ≤ 30) (by decide), fun at_ za at0 atm => ?_⟩
        rw [lgv] at atm
        replace Bx := Bx.but hlg (SameB.upd (o := .lst [.int za]))
        replace hG : (upd Hg l (.lst [.int za])) G = some (.lst (gv gs)) := by rw [upd_ne hGl]; exact hG
        replace thg := thg.but hlg (SameB.upd (o := .lst [.int za]))
        replace hlg : (upd Hg l (.lst [.int za])) l = some (.lst [.int za]) := upd_same
        generalize upd Hg l (.lst [.int za]) = Ha at Bx hG thg hlg ⊢
        -- bent
        refine ⟨_, rfl, _, rfl, at_, rfl, G, gv gs, rfl, SqL.of hG, fun c1 nc1 => ?_⟩
        have sc1 := same_new nc1 (.lst (cutV (gv gs) none (some at_)))
        have hc1l : c1 ≠ l := fun e => by
          rw [e, hlg] at nc1
          cases nc1
        have hc1 : (upd Ha c1 (.lst (cutV (gv gs) none (some at_)))) c1 = some (.lst (cutV (gv gs) none (some at_))) := upd_same
        replace Bx := Bx.same sc1
        replace hG := sc1 _ _ hG
        replace thg := thg.same sc1
        replace hlg := sc1 _ _ hlg
        generalize upd Ha c1 (.lst (cutV (gv gs) none (some at_))) = Hc at hc1 Bx hG thg hlg ⊢
        refine ⟨_, rfl, _, rfl, (many : Int), 1, rfl, rfl, l, za, (many : Int) - 1, rfl, hlg, by omega, by omega, fun vb ob db zo Ho sbo hlo thb => ?_⟩
        replace Bx := Bx.but hlg sbo
        replace hG := sbo _ _ hGl hG
        replace hc1 := sbo _ _ hc1l hc1
        replace thg := thg.but hlg sbo
        clear hlg sbo
        refine ⟨(by show 1 ≤ sizeLine; decide), fun c2 nc2 => ?_⟩
        have sc2 := same_new nc2 (.lst [vb])
        refine ⟨c1, c2, _, _, rfl, rfl, sc2 _ _ hc1, upd_same, ?_, fun c3 nc3 => ?_⟩
        · have := cut_len (n := m1) (lo := none) (hi := some at_) (Nat.le_of_eq lgv)
          rw [List.length_singleton]
          exact Nat.le_of_lt (small1000 (by omega))
        have sc3 := same_new nc3 (.lst (cutV (gv gs) none (some at_) ++ [vb]))
        have sc23 := sc2.trans sc3
        have hc3 : (upd (upd Ho c2 (.lst [vb])) c3 (.lst (cutV (gv gs) none (some at_) ++ [vb]))) c3 = some (.lst (cutV (gv gs) none (some at_) ++ [vb])) := upd_same
        replace Bx := Bx.same sc23
        replace hG := sc23 _ _ hG
        replace thg := thg.same sc23
        replace hlo := sc23 _ _ hlo
        replace thb := thb.same sc23
        generalize upd (upd Ho c2 (.lst [vb])) c3 (.lst (cutV (gv gs) none (some at_) ++ [vb])) = Hd at hc3 Bx hG thg hlo thb ⊢
        refine ⟨_, rfl, _, rfl, at_, 1, rfl, rfl, at_ + 1, rfl, G, gv gs, rfl, SqL.of hG, fun c4 nc4 => ?_⟩
        have sc4 := same_new nc4 (.lst (cutV (gv gs) (some (at_ + 1)) none))
        have l4 := cut_len (n := m1) (lo := some (at_ + 1)) (hi := none) (Nat.le_of_eq lgv)
        have l3 := cut_len (n := m1) (lo := none) (hi := some at_) (Nat.le_of_eq lgv)
        refine ⟨c3, c4, _, _, rfl, rfl, sc4 _ _ hc3, upd_same, ?_, fun BA nBA => ?_⟩
        · rw [List.length_append, List.length_singleton]
          exact Nat.le_of_lt (small1000 (by omega))
        have sc5 := same_new nBA (.lst (cutV (gv gs) none (some at_) ++ [vb] ++ cutV (gv gs) (some (at_ + 1)) none))
        have sc45 := sc4.trans sc5
        have hBA : (upd (upd Hd c4 (.lst (cutV (gv gs) (some (at_ + 1)) none))) BA (.lst (cutV (gv gs) none (some at_) ++ [vb] ++ cutV (gv gs) (some (at_ + 1)) none))) BA = some (.lst (cutV (gv gs) none (some at_) ++ [vb] ++ cutV (gv gs) (some (at_ + 1)) none)) := upd_same
        have hBAl : BA ≠ l := fun e => by
          rw [e] at nBA
          rw [sc4 _ _ hlo] at nBA
          cases nBA
        replace Bx := Bx.same sc45
        replace hG := sc45 _ _ hG
        replace thg := thg.same sc45
        replace hlo := sc45 _ _ hlo
        replace thb := thb.same sc45
        have thB : ThA K _ l (cutV (gv gs) none (some at_) ++ [vb] ++ cutV (gv gs) (some (at_ + 1)) none) := (thg.cut.app (.one thb)).app thg.cut
        have lB : (cutV (gv gs) none (some at_) ++ [vb] ++ cutV (gv gs) (some (at_ + 1)) none).length ≤ 61 := by
          rw [List.length_append, List.length_append, List.length_singleton]
          omega
        generalize upd (upd Hd c4 (.lst (cutV (gv gs) (some (at_ + 1)) none))) BA (.lst (cutV (gv gs) none (some at_) ++ [vb] ++ cutV (gv gs) (some (at_ + 1)) none)) = He at hBA Bx hG thg hlo thB ⊢
        generalize cutV (gv gs) none (some at_) ++ [vb] ++ cutV (gv gs) (some (at_ + 1)) none = bent at hBA thB lB ⊢
        clear l3 l4 sc4 sc5 sc45 nBA nc4 hc3 sc2 sc3 sc23 nc3 nc2 hc1 thb sc1 nc1
        -- the seven
        have n0 : ∀ {H' : Hp} {p : Addr}, Same He H' → H' p = none → p ≠ l := fun {H' p} s e z => by
          rw [z, s _ _ hlo] at e
          cases e
        refine ⟨_, rfl, _, rfl, _, rfl, 1, rfl, -1, rfl, BA, bent, rfl, SqL.of hBA, fun e1 ne1 => ?_⟩
        have t1 := same_new ne1 (.lst (cutV bent none (some (-1))))
        refine ⟨(by show 1 ≤ sizeLine; decide), fun e2 ne2 => ?_⟩
        have t2 := same_new ne2 (.lst [V.non])
        have le1 := cut_len (n := 61) (lo := none) (hi := some (-1)) lB
        refine ⟨e1, e2, _, _, rfl, rfl, t2 _ _ upd_same, upd_same, by rw [List.length_singleton]; exact Nat.le_of_lt (small1000 (by omega)), fun e3 ne3 => ?_⟩
        have t3 := same_new ne3 (.lst (cutV bent none (some (-1)) ++ [V.non]))
        have u3 := t1.trans (t2.trans t3)
        refine ⟨_, rfl, 1, rfl, G, gv gs, rfl, SqL.of (u3 _ _ hG), fun e4 ne4 => ?_⟩
        have t4 := same_new ne4 (.lst (cutV (gv gs) (some 1) none))
        have u4 := u3.trans t4
        refine ⟨_, rfl, (by show 1 ≤ sizeLine; decide), fun e5 ne5 => ?_⟩
        have t5 := same_new ne5 (.lst [V.int 0])
        have u5 := u4.trans t5
        refine ⟨G, e5, _, _, rfl, rfl, u5 _ _ hG, upd_same, by rw [List.length_singleton, lgv]; exact Nat.le_of_lt (small1000 (by omega)), fun e6 ne6 => ?_⟩
        have t6 := same_new ne6 (.lst (gv gs ++ [V.int 0]))
        have u6 := u5.trans t6
        refine ⟨_, rfl, G, gv gs, rfl, .inl ⟨SqL.of (u6 _ _ hG), fun e7 ne7 => ?_⟩⟩
        have t7 := same_new ne7 (.tup (gv gs))
        have u7 := u6.trans t7
        refine ⟨(by show 7 ≤ sizeLine; decide), fun LG nLG => ?_⟩
        have t8 := same_new nLG (.lst [V.ref G, V.ref BA, V.ref e3, V.ref e4, V.ref e6, V.ref e7, V.non])
        have u8 := u7.trans t8
        have hLG : (upd (upd (upd (upd (upd (upd (upd (upd He e1 (.lst (cutV bent none (some (-1))))) e2 (.lst [V.non])) e3 (.lst (cutV bent none (some (-1)) ++ [V.non]))) e4 (.lst (cutV (gv gs) (some 1) none))) e5 (.lst [V.int 0])) e6 (.lst (gv gs ++ [V.int 0]))) e7 (.tup (gv gs))) LG (.lst [V.ref G, V.ref BA, V.ref e3, V.ref e4, V.ref e6, V.ref e7, V.non])) LG = some (.lst [V.ref G, V.ref BA, V.ref e3, V.ref e4, V.ref e6, V.ref e7, V.non]) := upd_same
        have hLGl : LG ≠ l := n0 u7 nLG
        have gps : ∀ v ∈ [V.ref G, V.ref BA, V.ref e3, V.ref e4, V.ref e6, V.ref e7, V.non], ∃ og, Gp K (upd (upd (upd (upd (upd (upd (upd (upd He e1 (.lst (cutV bent none (some (-1))))) e2 (.lst [V.non])) e3 (.lst (cutV bent none (some (-1)) ++ [V.non]))) e4 (.lst (cutV (gv gs) (some 1) none))) e5 (.lst [V.int 0])) e6 (.lst (gv gs ++ [V.int 0]))) e7 (.tup (gv gs))) LG (.lst [V.ref G, V.ref BA, V.ref e3, V.ref e4, V.ref e6, V.ref e7, V.non])) l v og := by
          have tg := thg.same u8
          have tb := thB.same u8
          intro v hv
          rcases List.mem_cons.mp hv with rfl | hv
          · exact tg.gp (u8 _ _ hG) hGl
          rcases List.mem_cons.mp hv with rfl | hv
          · exact tb.gp (u8 _ _ hBA) hBAl
          rcases List.mem_cons.mp hv with rfl | hv
          · exact (tb.cut.app (.one .non)).gp ((t4.trans (t5.trans (t6.trans (t7.trans t8)))) _ _ upd_same) (n0 (t1.trans t2) ne3)
          rcases List.mem_cons.mp hv with rfl | hv
          · exact tg.cut.gp ((t5.trans (t6.trans (t7.trans t8))) _ _ upd_same) (n0 u3 ne4)
          rcases List.mem_cons.mp hv with rfl | hv
          · exact (tg.app (.one (.int 0 (.inl ⟨by decide, by decide⟩)))).gp ((t7.trans t8) _ _ upd_same) (n0 u5 ne6)
          rcases List.mem_cons.mp hv with rfl | hv
          · exact ⟨none, .tup (SqT.of (t8 _ _ upd_same))⟩
          rw [List.mem_singleton.mp hv]
          exact ⟨none, .non⟩
        replace Bx := Bx.same u8
        replace hlo := u8 _ _ hlo
        generalize upd (upd (upd (upd (upd (upd (upd (upd He e1 (.lst (cutV bent none (some (-1))))) e2 (.lst [V.non])) e3 (.lst (cutV bent none (some (-1)) ++ [V.non]))) e4 (.lst (cutV (gv gs) (some 1) none))) e5 (.lst [V.int 0])) e6 (.lst (gv gs ++ [V.int 0]))) e7 (.tup (gv gs))) LG (.lst [V.ref G, V.ref BA, V.ref e3, V.ref e4, V.ref e6, V.ref e7, V.non]) = Hf at hLG gps Bx hlo ⊢
        generalize [V.ref G, V.ref BA, V.ref e3, V.ref e4, V.ref e6, V.ref e7, V.non] = sev at hLG gps ⊢
        clear t1 t2 t3 u3 t4 u4 t5 u5 t6 u6 t7 u7 t8 u8 ne1 ne2 ne3 ne4 ne5 ne6 ne7 nLG n0 thg thB hG hBA
        refine ⟨LG, rfl, ⟨_, SqL.of hLG⟩, for_list (K := K) (a := LG) (xs := sev) (fun i σ H' => ∃ w8 w13 w14 : Option V, σ = [some (.ref a), some (.int c), some (.ref l), some (.ref RH), some (.ref x1), some (.ref x2), w6, w7, w8, some (.int (many : Int)), some (.ref G), some (.int at_), some (.ref BA), w13, w14, none, none] ∧ H' LG = some (.lst sev) ∧ (∃ z, H' l = some (.lst [.int z])) ∧ Bas K H' C l L xs RH D1 D2 x1 x2 rs1 r1 r2 ∧ ∀ v ∈ sev, ∃ og, Gp K H' l v og)
          ⟨_, _, _, rfl, hLG, ⟨_, hlo⟩, Bx, gps⟩ (fun i σ H' _ ⟨_, _, _, _, h, _⟩ => SqL.of h) ?_ ?_⟩
        · rintro i g σ Hh hgi ⟨w8, w13, w14, rfl, hLG', ⟨zh, hlh⟩, Bh, gph⟩
          refine ⟨_, rfl, _, rfl, l, zh, 30, rfl, hlh, by decide, by decide, fun vo oo do_ zi Hi sbi hli thi => ?_⟩
          replace Bh := Bh.but hlh sbi
          replace hLG' := sbi _ _ hLGl hLG'
          have gph2 : ∀ v ∈ sev, ∃ og, Gp K Hi l v og := fun v hv => let ⟨og, z⟩ := gph v hv; ⟨og, z.but hlh sbi⟩
          refine ⟨(by show 2 ≤ sizeLine; decide), fun TS nTS => ?_⟩
          have sTS := same_new nTS (.lst [V.int (many : Int), vo])
          have hTS : (upd Hi TS (.lst [V.int (many : Int), vo])) TS = some (.lst [V.int (many : Int), vo]) := upd_same
          have Bj := Bh.same sTS
          have hlj := sTS _ _ hli
          have hLGj := sTS _ _ hLG'
          have gpj : ∀ v ∈ sev, ∃ og, Gp K (upd Hi TS (.lst [V.int (many : Int), vo])) l v og := fun v hv => let ⟨og, z⟩ := gph2 v hv; ⟨og, z.same sTS⟩
          have ths : ∀ x ∈ [V.int (many : Int), vo], ∃ o d, Th K (upd Hi TS (.lst [V.int (many : Int), vo])) l x o d := fun x hx => by
            rcases List.mem_cons.mp hx with rfl | hx
            · exact ⟨_, _, .int _ (.inl ⟨by omega, by omega⟩)⟩
            · rw [List.mem_singleton.mp hx]
              exact ⟨_, _, thi.same sTS⟩
          generalize upd Hi TS (.lst [V.int (many : Int), vo]) = Hj at hTS Bj hlj hLGj gpj ths ⊢
          obtain ⟨og, gpg⟩ := gpj g (List.mem_of_getElem? hgi)
          refine ⟨TS, rfl, ⟨_, SqL.of hTS⟩, for_list (K := K) (a := TS) (xs := [V.int (many : Int), vo]) (fun i σ H' => ∃ w8 w14 : Option V, σ = [some (.ref a), some (.int c), some (.ref l), some (.ref RH), some (.ref x1), some (.ref x2), w6, w7, w8, some (.int (many : Int)), some (.ref G), some (.int at_), some (.ref BA), some g, w14, none, none] ∧ Same Hj H') ⟨_, _, rfl, Same.refl _⟩ (fun i σ H' _ ⟨_, _, _, s⟩ => SqL.of (s _ _ hTS)) ?_ ?_⟩
          · rintro t x σ Hk hx ⟨w8, w14, rfl, sk⟩
            obtain ⟨o, d, th⟩ := ths x (List.mem_of_getElem? hx)
            have ok := th.odd
            refine ⟨_, rfl, l, x, o, d, 30, rfl, th.same sk, fun v1 H10 s10 rv1 => ?_⟩
            have s11 := sk.trans s10
            have okr : Okr (res3 o d og m1) := okr_3 ok
            cases cin : inR o 1 30 with
            | true =>
              have e1 : resN o d 30 = none := if_pos cin
              rw [e1] at rv1
              cases (show v1 = .non from rv1)
              refine ⟨_, rfl, rfl, _, rfl, iteT ?_⟩
              obtain ⟨ii, rfl, i1, i30⟩ := inR_some cin
              obtain ⟨mi, rfl⟩ : ∃ mi : Nat, ii = (mi : Int) := ⟨ii.toNat, by omega⟩
              have ev := th.some_
              subst ev
              have BJ := Bj.same s11
              obtain ⟨dj, raj, rsj, ej, _⟩ := id BJ.R1
              refine ⟨_, rfl, _, rfl, x1, dj, _, rfl, ej, x1, r1, 8, m1, rfl, BJ.R1, g1, m1, rfl, by omega, _, rfl, l, g, og, m1, mi, rfl, gpg.same s11, fun v2 H12 s12 rv2 => ?_⟩
              have e3 : res3 (some (mi : Int)) d og m1 = resG og m1 mi := (if_pos cin).trans (by rw [show ((some (mi : Int)).getD 0).toNat = mi from Int.toNat_natCast mi])
              rw [← e3] at rv2
              have s13 := s11.trans s12
              refine ⟨_, rfl, _, rfl, _, rfl, l, _, .way3 (Bj.R1.same s13) g1 (gpg.same s13) (th.same s13), fun v3 H14 s14 rv3 => ?_⟩
              refine ⟨_, rfl, _, _, rv3.dp okr, (rv2.same s14).dp okr, datR_sh okr, datR_sh okr, _, rfl, ?_⟩
              rw [SeqAt.eqv_refl _ (datR_lay okr)]
              exact iteF ⟨_, _, rfl, s13.trans s14⟩
            | false =>
              have e1 : resN o d 30 = some [.str "number", .str d.shown, .bl true] := if_neg (by rw [cin]; decide)
              rw [e1] at rv1
              obtain ⟨pv, rfl, hpv⟩ := rv1
              refine ⟨_, rfl, rfl, _, rfl, iteF ?_⟩
              have e3 : res3 o d og m1 = some [.str "number", .str d.shown, .bl true] := if_neg (by rw [cin]; decide)
              refine ⟨_, rfl, _, rfl, _, rfl, l, _, .way3 (Bj.R1.same s11) g1 (gpg.same s11) (th.same s11), fun v3 H14 s14 rv3 => ?_⟩
              have rv2 : Rv H14 (V.ref pv) (res3 o d og m1) := by
                rw [e3]
                exact ⟨pv, rfl, s14 _ _ hpv⟩
              refine ⟨_, rfl, _, _, rv3.dp okr, rv2.dp okr, datR_sh okr, datR_sh okr, _, rfl, ?_⟩
              rw [SeqAt.eqv_refl _ (datR_lay okr)]
              exact iteF ⟨_, _, rfl, s11.trans s14⟩
          · rintro σ Hk ⟨w8, w14, rfl, sk⟩
            exact ⟨_, _, _, rfl, sk _ _ hLGj, ⟨zi, sk _ _ hlj⟩, Bj.same sk, fun v hv => let ⟨og, z⟩ := gpj v hv; ⟨og, z.same sk⟩⟩
        · rintro σ Hk ⟨w8, w13, w14, rfl, _, _, Bk, _⟩
          exact ⟨_, _, _, _, _, _, _, _, _, _, _, _, _, _, rfl, Bk.hL⟩
      · rw [decide_eq_false (fun z => hw (by have := V.int.inj z; omega))]
        refine iteT ?_
        refine ⟨_, rfl, x1, dx1, _, rfl, (sm _ _ ex1), rfl, x1, r1, 8, rfl, (BR1.same sm), _, rfl, x2, dx2, _, rfl, (sm _ _ ex2), rfl, x2, r2, 8, rfl, (BR2.same sm), (by show 3 ≤ sizeLine; decide), fun pw npw => ?_⟩
        have sw := same_new npw (.lst [V.str "unlike", V.int (r1.length : Int), V.int (r2.length : Int)])
        have rv8 : Rv (upd (upd Hb pm (.lst [V.str "many", V.int ((m1 : Int) * (m2 : Int)), V.bl true])) pw (.lst [V.str "unlike", V.int (r1.length : Int), V.int (r2.length : Int)])) (V.ref pw) (resB r1 r2 m1 m2) := by
          rw [show resB r1 r2 m1 m2 = some [.str "unlike", .int (r1.length : Int), .int (r2.length : Int)] from if_neg hw]
          exact ⟨pw, rfl, upd_same⟩
        have Bx := Bb.same (sm.trans sw)
        have hlx := (sm.trans sw) _ _ hlb
        generalize (upd (upd Hb pm (.lst [V.str "many", V.int ((m1 : Int) * (m2 : Int)), V.bl true])) pw (.lst [V.str "unlike", V.int (r1.length : Int), V.int (r2.length : Int)])) = Hx at rv8 Bx hlx ⊢
        refine ⟨_, rfl, _, rfl, l, _, .way2 Bx.R1 Bx.R2 g1 g2, fun v1 H9 s9 rv1 => ?_⟩
        refine ⟨_, rfl, _, _, rv1.dp okr_B, (rv8.same s9).dp okr_B, datR_sh okr_B, datR_sh okr_B, _, rfl, ?_⟩
        rw [SeqAt.eqv_refl _ (datR_lay okr_B)]
        refine iteF ?_
        replace Bx := Bx.same s9
        replace hlx := s9 _ _ hlx
        clear rv8 rv1
        -- many
        refine ⟨_, rfl, l, zb, 30, rfl, hlx, by decide, by decide, fun dm zm a0 a30 => ?_⟩
        refine ⟨1, dm, rfl, rfl, ?_⟩
        obtain ⟨many, em⟩ : ∃ many : Nat, (1 + dm : Int) = (many : Int) := ⟨(1 + dm).toNat, by omega⟩
        have mn1 : 1 ≤ many := by omega
        have mn30 : many ≤ 30 := by omega
        rw [show ((fun i j => V.int (i + j)) 1 dm : V) = V.int (many : Int) from congrArg V.int em]
        replace Bx := Bx.but hlx (SameB.upd (o := .lst [.int zm]))
        replace hlx : (upd H9 l (.lst [.int zm])) l = some (.lst [.int zm]) := upd_same
        generalize upd H9 l (.lst [.int zm]) = Hm at Bx hlx ⊢
        -- good
        have W1 := Bx.W1
        have h01 : 0 < rs1.length := by rw [W1.2.1]; have := g1.w1; omega
        have er : rs1[0]? = some rs1[0] := List.getElem?_eq_getElem h01
        obtain ⟨cs1, qs1, o1, o2, o3⟩ := W1.2.2 0 _ er
        have lq : qs1.length = m1 := (g1.row qs1 (List.mem_of_getElem? o1)).1
        have lc1 : cs1.length = m1 := by rw [o3.len, lq]
        have m11 := g1.m1
        have hrl : rs1[0] ≠ l := fun e => nr_num hlx W1.2 (by rw [← e]; exact List.getElem_mem _)
        refine ⟨_, rfl, RH, _, 0, .ref D1, rfl, rfl, SqL.of Bx.hRH, atI_nat (j := 0) rfl, D1, _, 0, .ref rs1[0], rfl, rfl, SqL.of W1.1, atI_nat (j := 0) (by rw [List.getElem?_map, er]; rfl), rs1[0], rfl, ⟨_, SqL.of o2⟩, fun G nG => ?_⟩
        have hGl : G ≠ l := fun e => by
          rw [e, hlx] at nG
          cases nG
        refine lc_list (K := K) (a := rs1[0]) (xs := cs1) (fun j H' => ∃ (gs : List Nat) (z' : Int), H' G = some (.lst (gv gs)) ∧ gs.length = j ∧ (∀ g ∈ gs, g < many) ∧ SameB l Hm H' ∧ H' l = some (.lst [.int z']))
          ⟨[], zm, upd_same, rfl, fun g hg => by simp at hg, SameB.of (same_new nG _), by rw [upd_ne (Ne.symm hGl)]; exact hlx⟩ (fun i H' _ ⟨_, _, _, _, _, sb, _⟩ => SqL.of (sb _ _ hrl o2)) ?_ ?_
        · rintro j x H' hj ⟨gs, z', hG, hgl, hgm, sb, hl'⟩
          have hj1 : j < cs1.length := (List.getElem?_eq_some_iff.mp hj).1
          refine ⟨rfl, tYes_of ?_⟩
          refine ⟨_, rfl, _, rfl, l, z', (many : Int), rfl, hl', by omega, Nat.lt_of_le_of_lt (by omega : ((many : Int)).natAbs ≤ 30) (by decide), fun dd zz dd0 ddm => ?_⟩
          have ed : V.int dd = V.int ((dd.toNat : Nat) : Int) := by rw [Int.toNat_of_nonneg dd0]
          refine ⟨gv gs, by rw [upd_ne hGl]; exact hG, ?_, gs ++ [dd.toNat], zz, ?_, ?_, ?_, ?_, ?_⟩
          · rw [show (gv gs).length = gs.length from List.length_map _, hgl]
            exact small1000 (by omega)
          · rw [upd_same, ed]
            show _ = some (HO.lst ((gs ++ [dd.toNat]).map fun (g : Nat) => V.int (g : Int)))
            rw [List.map_append]
            rfl
          · rw [List.length_append, hgl]
            rfl
          · intro g hg
            rcases List.mem_append.mp hg with hg | hg
            · exact hgm g hg
            · rw [List.mem_singleton.mp hg]
              omega
          · intro b u hb e
            rw [upd_ne (ne_of_none e nG), upd_ne hb]
            exact sb b u hb e
          · rw [upd_ne (Ne.symm hGl), upd_same]
        rintro Hg ⟨gs, zg, hG, hgl, hgm, sbg, hlg⟩
        rw [lc1] at hgl
        replace Bx := Bx.but hlx sbg
        have lgv : (gv gs).length = m1 := by rw [show (gv gs).length = gs.length from List.length_map _, hgl]
        have thg : ThA K Hg l (gv gs) := tha_gv hgm mn30
        clear o1 o2 o3 lq lc1 sbg hlx nG W1
        -- at
        refine ⟨_, rfl, _, rfl, G, gv gs, rfl, .inl (SqL.of hG), l, zg, _, rfl, hlg, by rw [lgv]; omega, Nat.lt_of_le_of_lt (by rw [lgv]; omega : (((gv gs).length : Nat) : Int).natAbs ≤ 30) (by decide), fun at_ za at0 atm => ?_⟩
        rw [lgv] at atm
        replace Bx := Bx.but hlg (SameB.upd (o := .lst [.int za]))
        replace hG : (upd Hg l (.lst [.int za])) G = some (.lst (gv gs)) := by rw [upd_ne hGl]; exact hG
        replace thg := thg.but hlg (SameB.upd (o := .lst [.int za]))
        replace hlg : (upd Hg l (.lst [.int za])) l = some (.lst [.int za]) := upd_same
        generalize upd Hg l (.lst [.int za]) = Ha at Bx hG thg hlg ⊢
        -- bent
        refine ⟨_, rfl, _, rfl, at_, rfl, G, gv gs, rfl, SqL.of hG, fun c1 nc1 => ?_⟩
        have sc1 := same_new nc1 (.lst (cutV (gv gs) none (some at_)))
        have hc1l : c1 ≠ l := fun e => by
          rw [e, hlg] at nc1
          cases nc1
        have hc1 : (upd Ha c1 (.lst (cutV (gv gs) none (some at_)))) c1 = some (.lst (cutV (gv gs) none (some at_))) := upd_same
        replace Bx := Bx.same sc1
        replace hG := sc1 _ _ hG
        replace thg := thg.same sc1
        replace hlg := sc1 _ _ hlg
        generalize upd Ha c1 (.lst (cutV (gv gs) none (some at_))) = Hc at hc1 Bx hG thg hlg ⊢
        refine ⟨_, rfl, _, rfl, (many : Int), 1, rfl, rfl, l, za, (many : Int) - 1, rfl, hlg, by omega, by omega, fun vb ob db zo Ho sbo hlo thb => ?_⟩
        replace Bx := Bx.but hlg sbo
        replace hG := sbo _ _ hGl hG
        replace hc1 := sbo _ _ hc1l hc1
        replace thg := thg.but hlg sbo
        clear hlg sbo
        refine ⟨(by show 1 ≤ sizeLine; decide), fun c2 nc2 => ?_⟩
        have sc2 := same_new nc2 (.lst [vb])
        refine ⟨c1, c2, _, _, rfl, rfl, sc2 _ _ hc1, upd_same, ?_, fun c3 nc3 => ?_⟩
        · have := cut_len (n := m1) (lo := none) (hi := some at_) (Nat.le_of_eq lgv)
          rw [List.length_singleton]
          exact Nat.le_of_lt (small1000 (by omega))
        have sc3 := same_new nc3 (.lst (cutV (gv gs) none (some at_) ++ [vb]))
        have sc23 := sc2.trans sc3
        have hc3 : (upd (upd Ho c2 (.lst [vb])) c3 (.lst (cutV (gv gs) none (some at_) ++ [vb]))) c3 = some (.lst (cutV (gv gs) none (some at_) ++ [vb])) := upd_same
        replace Bx := Bx.same sc23
        replace hG := sc23 _ _ hG
        replace thg := thg.same sc23
        replace hlo := sc23 _ _ hlo
        replace thb := thb.same sc23
        generalize upd (upd Ho c2 (.lst [vb])) c3 (.lst (cutV (gv gs) none (some at_) ++ [vb])) = Hd at hc3 Bx hG thg hlo thb ⊢
        refine ⟨_, rfl, _, rfl, at_, 1, rfl, rfl, at_ + 1, rfl, G, gv gs, rfl, SqL.of hG, fun c4 nc4 => ?_⟩
        have sc4 := same_new nc4 (.lst (cutV (gv gs) (some (at_ + 1)) none))
        have l4 := cut_len (n := m1) (lo := some (at_ + 1)) (hi := none) (Nat.le_of_eq lgv)
        have l3 := cut_len (n := m1) (lo := none) (hi := some at_) (Nat.le_of_eq lgv)
        refine ⟨c3, c4, _, _, rfl, rfl, sc4 _ _ hc3, upd_same, ?_, fun BA nBA => ?_⟩
        · rw [List.length_append, List.length_singleton]
          exact Nat.le_of_lt (small1000 (by omega))
        have sc5 := same_new nBA (.lst (cutV (gv gs) none (some at_) ++ [vb] ++ cutV (gv gs) (some (at_ + 1)) none))
        have sc45 := sc4.trans sc5
        have hBA : (upd (upd Hd c4 (.lst (cutV (gv gs) (some (at_ + 1)) none))) BA (.lst (cutV (gv gs) none (some at_) ++ [vb] ++ cutV (gv gs) (some (at_ + 1)) none))) BA = some (.lst (cutV (gv gs) none (some at_) ++ [vb] ++ cutV (gv gs) (some (at_ + 1)) none)) := upd_same
        have hBAl : BA ≠ l := fun e => by
          rw [e] at nBA
          rw [sc4 _ _ hlo] at nBA
          cases nBA
        replace Bx := Bx.same sc45
        replace hG := sc45 _ _ hG
        replace thg := thg.same sc45
        replace hlo := sc45 _ _ hlo
        replace thb := thb.same sc45
        have thB : ThA K _ l (cutV (gv gs) none (some at_) ++ [vb] ++ cutV (gv gs) (some (at_ + 1)) none) := (thg.cut.app (.one thb)).app thg.cut
        have lB : (cutV (gv gs) none (some at_) ++ [vb] ++ cutV (gv gs) (some (at_ + 1)) none).length ≤ 61 := by
          rw [List.length_append, List.length_append, List.length_singleton]
          omega
        generalize upd (upd Hd c4 (.lst (cutV (gv gs) (some (at_ + 1)) none))) BA (.lst (cutV (gv gs) none (some at_) ++ [vb] ++ cutV (gv gs) (some (at_ + 1)) none)) = He at hBA Bx hG thg hlo thB ⊢
        generalize cutV (gv gs) none (some at_) ++ [vb] ++ cutV (gv gs) (some (at_ + 1)) none = bent at hBA thB lB ⊢
        clear l3 l4 sc4 sc5 sc45 nBA nc4 hc3 sc2 sc3 sc23 nc3 nc2 hc1 thb sc1 nc1
        -- the seven
        have n0 : ∀ {H' : Hp} {p : Addr}, Same He H' → H' p = none → p ≠ l := fun {H' p} s e z => by
          rw [z, s _ _ hlo] at e
          cases e
        refine ⟨_, rfl, _, rfl, _, rfl, 1, rfl, -1, rfl, BA, bent, rfl, SqL.of hBA, fun e1 ne1 => ?_⟩
        have t1 := same_new ne1 (.lst (cutV bent none (some (-1))))
        refine ⟨(by show 1 ≤ sizeLine; decide), fun e2 ne2 => ?_⟩
        have t2 := same_new ne2 (.lst [V.non])
        have le1 := cut_len (n := 61) (lo := none) (hi := some (-1)) lB
        refine ⟨e1, e2, _, _, rfl, rfl, t2 _ _ upd_same, upd_same, by rw [List.length_singleton]; exact Nat.le_of_lt (small1000 (by omega)), fun e3 ne3 => ?_⟩
        have t3 := same_new ne3 (.lst (cutV bent none (some (-1)) ++ [V.non]))
        have u3 := t1.trans (t2.trans t3)
        refine ⟨_, rfl, 1, rfl, G, gv gs, rfl, SqL.of (u3 _ _ hG), fun e4 ne4 => ?_⟩
        have t4 := same_new ne4 (.lst (cutV (gv gs) (some 1) none))
        have u4 := u3.trans t4
        refine ⟨_, rfl, (by show 1 ≤ sizeLine; decide), fun e5 ne5 => ?_⟩
        have t5 := same_new ne5 (.lst [V.int 0])
        have u5 := u4.trans t5
        refine ⟨G, e5, _, _, rfl, rfl, u5 _ _ hG, upd_same, by rw [List.length_singleton, lgv]; exact Nat.le_of_lt (small1000 (by omega)), fun e6 ne6 => ?_⟩
        have t6 := same_new ne6 (.lst (gv gs ++ [V.int 0]))
        have u6 := u5.trans t6
        refine ⟨_, rfl, G, gv gs, rfl, .inl ⟨SqL.of (u6 _ _ hG), fun e7 ne7 => ?_⟩⟩
        have t7 := same_new ne7 (.tup (gv gs))
        have u7 := u6.trans t7
        refine ⟨(by show 7 ≤ sizeLine; decide), fun LG nLG => ?_⟩
        have t8 := same_new nLG (.lst [V.ref G, V.ref BA, V.ref e3, V.ref e4, V.ref e6, V.ref e7, V.non])
        have u8 := u7.trans t8
        have hLG : (upd (upd (upd (upd (upd (upd (upd (upd He e1 (.lst (cutV bent none (some (-1))))) e2 (.lst [V.non])) e3 (.lst (cutV bent none (some (-1)) ++ [V.non]))) e4 (.lst (cutV (gv gs) (some 1) none))) e5 (.lst [V.int 0])) e6 (.lst (gv gs ++ [V.int 0]))) e7 (.tup (gv gs))) LG (.lst [V.ref G, V.ref BA, V.ref e3, V.ref e4, V.ref e6, V.ref e7, V.non])) LG = some (.lst [V.ref G, V.ref BA, V.ref e3, V.ref e4, V.ref e6, V.ref e7, V.non]) := upd_same
        have hLGl : LG ≠ l := n0 u7 nLG
        have gps : ∀ v ∈ [V.ref G, V.ref BA, V.ref e3, V.ref e4, V.ref e6, V.ref e7, V.non], ∃ og, Gp K (upd (upd (upd (upd (upd (upd (upd (upd He e1 (.lst (cutV bent none (some (-1))))) e2 (.lst [V.non])) e3 (.lst (cutV bent none (some (-1)) ++ [V.non]))) e4 (.lst (cutV (gv gs) (some 1) none))) e5 (.lst [V.int 0])) e6 (.lst (gv gs ++ [V.int 0]))) e7 (.tup (gv gs))) LG (.lst [V.ref G, V.ref BA, V.ref e3, V.ref e4, V.ref e6, V.ref e7, V.non])) l v og := by
          have tg := thg.same u8
          have tb := thB.same u8
          intro v hv
          rcases List.mem_cons.mp hv with rfl | hv
          · exact tg.gp (u8 _ _ hG) hGl
          rcases List.mem_cons.mp hv with rfl | hv
          · exact tb.gp (u8 _ _ hBA) hBAl
          rcases List.mem_cons.mp hv with rfl | hv
          · exact (tb.cut.app (.one .non)).gp ((t4.trans (t5.trans (t6.trans (t7.trans t8)))) _ _ upd_same) (n0 (t1.trans t2) ne3)
          rcases List.mem_cons.mp hv with rfl | hv
          · exact tg.cut.gp ((t5.trans (t6.trans (t7.trans t8))) _ _ upd_same) (n0 u3 ne4)
          rcases List.mem_cons.mp hv with rfl | hv
          · exact (tg.app (.one (.int 0 (.inl ⟨by decide, by decide⟩)))).gp ((t7.trans t8) _ _ upd_same) (n0 u5 ne6)
          rcases List.mem_cons.mp hv with rfl | hv
          · exact ⟨none, .tup (SqT.of (t8 _ _ upd_same))⟩
          rw [List.mem_singleton.mp hv]
          exact ⟨none, .non⟩
        replace Bx := Bx.same u8
        replace hlo := u8 _ _ hlo
        generalize upd (upd (upd (upd (upd (upd (upd (upd He e1 (.lst (cutV bent none (some (-1))))) e2 (.lst [V.non])) e3 (.lst (cutV bent none (some (-1)) ++ [V.non]))) e4 (.lst (cutV (gv gs) (some 1) none))) e5 (.lst [V.int 0])) e6 (.lst (gv gs ++ [V.int 0]))) e7 (.tup (gv gs))) LG (.lst [V.ref G, V.ref BA, V.ref e3, V.ref e4, V.ref e6, V.ref e7, V.non]) = Hf at hLG gps Bx hlo ⊢
        generalize [V.ref G, V.ref BA, V.ref e3, V.ref e4, V.ref e6, V.ref e7, V.non] = sev at hLG gps ⊢
        clear t1 t2 t3 u3 t4 u4 t5 u5 t6 u6 t7 u7 t8 u8 ne1 ne2 ne3 ne4 ne5 ne6 ne7 nLG n0 thg thB hG hBA
        refine ⟨LG, rfl, ⟨_, SqL.of hLG⟩, for_list (K := K) (a := LG) (xs := sev) (fun i σ H' => ∃ w8 w13 w14 : Option V, σ = [some (.ref a), some (.int c), some (.ref l), some (.ref RH), some (.ref x1), some (.ref x2), w6, w7, w8, some (.int (many : Int)), some (.ref G), some (.int at_), some (.ref BA), w13, w14, none, none] ∧ H' LG = some (.lst sev) ∧ (∃ z, H' l = some (.lst [.int z])) ∧ Bas K H' C l L xs RH D1 D2 x1 x2 rs1 r1 r2 ∧ ∀ v ∈ sev, ∃ og, Gp K H' l v og)
          ⟨_, _, _, rfl, hLG, ⟨_, hlo⟩, Bx, gps⟩ (fun i σ H' _ ⟨_, _, _, _, h, _⟩ => SqL.of h) ?_ ?_⟩
        · rintro i g σ Hh hgi ⟨w8, w13, w14, rfl, hLG', ⟨zh, hlh⟩, Bh, gph⟩
          refine ⟨_, rfl, _, rfl, l, zh, 30, rfl, hlh, by decide, by decide, fun vo oo do_ zi Hi sbi hli thi => ?_⟩
          replace Bh := Bh.but hlh sbi
          replace hLG' := sbi _ _ hLGl hLG'
          have gph2 : ∀ v ∈ sev, ∃ og, Gp K Hi l v og := fun v hv => let ⟨og, z⟩ := gph v hv; ⟨og, z.but hlh sbi⟩
          refine ⟨(by show 2 ≤ sizeLine; decide), fun TS nTS => ?_⟩
          have sTS := same_new nTS (.lst [V.int (many : Int), vo])
          have hTS : (upd Hi TS (.lst [V.int (many : Int), vo])) TS = some (.lst [V.int (many : Int), vo]) := upd_same
          have Bj := Bh.same sTS
          have hlj := sTS _ _ hli
          have hLGj := sTS _ _ hLG'
          have gpj : ∀ v ∈ sev, ∃ og, Gp K (upd Hi TS (.lst [V.int (many : Int), vo])) l v og := fun v hv => let ⟨og, z⟩ := gph2 v hv; ⟨og, z.same sTS⟩
          have ths : ∀ x ∈ [V.int (many : Int), vo], ∃ o d, Th K (upd Hi TS (.lst [V.int (many : Int), vo])) l x o d := fun x hx => by
            rcases List.mem_cons.mp hx with rfl | hx
            · exact ⟨_, _, .int _ (.inl ⟨by omega, by omega⟩)⟩
            · rw [List.mem_singleton.mp hx]
              exact ⟨_, _, thi.same sTS⟩
          generalize upd Hi TS (.lst [V.int (many : Int), vo]) = Hj at hTS Bj hlj hLGj gpj ths ⊢
          obtain ⟨og, gpg⟩ := gpj g (List.mem_of_getElem? hgi)
          refine ⟨TS, rfl, ⟨_, SqL.of hTS⟩, for_list (K := K) (a := TS) (xs := [V.int (many : Int), vo]) (fun i σ H' => ∃ w8 w14 : Option V, σ = [some (.ref a), some (.int c), some (.ref l), some (.ref RH), some (.ref x1), some (.ref x2), w6, w7, w8, some (.int (many : Int)), some (.ref G), some (.int at_), some (.ref BA), some g, w14, none, none] ∧ Same Hj H') ⟨_, _, rfl, Same.refl _⟩ (fun i σ H' _ ⟨_, _, _, s⟩ => SqL.of (s _ _ hTS)) ?_ ?_⟩
          · rintro t x σ Hk hx ⟨w8, w14, rfl, sk⟩
            obtain ⟨o, d, th⟩ := ths x (List.mem_of_getElem? hx)
            have ok := th.odd
            refine ⟨_, rfl, l, x, o, d, 30, rfl, th.same sk, fun v1 H10 s10 rv1 => ?_⟩
            have s11 := sk.trans s10
            have okr : Okr (res3 o d og m1) := okr_3 ok
            cases cin : inR o 1 30 with
            | true =>
              have e1 : resN o d 30 = none := if_pos cin
              rw [e1] at rv1
              cases (show v1 = .non from rv1)
              refine ⟨_, rfl, rfl, _, rfl, iteT ?_⟩
              obtain ⟨ii, rfl, i1, i30⟩ := inR_some cin
              obtain ⟨mi, rfl⟩ : ∃ mi : Nat, ii = (mi : Int) := ⟨ii.toNat, by omega⟩
              have ev := th.some_
              subst ev
              have BJ := Bj.same s11
              obtain ⟨dj, raj, rsj, ej, _⟩ := id BJ.R1
              refine ⟨_, rfl, _, rfl, x1, dj, _, rfl, ej, x1, r1, 8, m1, rfl, BJ.R1, g1, m1, rfl, by omega, _, rfl, l, g, og, m1, mi, rfl, gpg.same s11, fun v2 H12 s12 rv2 => ?_⟩
              have e3 : res3 (some (mi : Int)) d og m1 = resG og m1 mi := (if_pos cin).trans (by rw [show ((some (mi : Int)).getD 0).toNat = mi from Int.toNat_natCast mi])
              rw [← e3] at rv2
              have s13 := s11.trans s12
              refine ⟨_, rfl, _, rfl, _, rfl, l, _, .way3 (Bj.R1.same s13) g1 (gpg.same s13) (th.same s13), fun v3 H14 s14 rv3 => ?_⟩
              refine ⟨_, rfl, _, _, rv3.dp okr, (rv2.same s14).dp okr, datR_sh okr, datR_sh okr, _, rfl, ?_⟩
              rw [SeqAt.eqv_refl _ (datR_lay okr)]
              exact iteF ⟨_, _, rfl, s13.trans s14⟩
            | false =>
              have e1 : resN o d 30 = some [.str "number", .str d.shown, .bl true] := if_neg (by rw [cin]; decide)
              rw [e1] at rv1
              obtain ⟨pv, rfl, hpv⟩ := rv1
              refine ⟨_, rfl, rfl, _, rfl, iteF ?_⟩
              have e3 : res3 o d og m1 = some [.str "number", .str d.shown, .bl true] := if_neg (by rw [cin]; decide)
              refine ⟨_, rfl, _, rfl, _, rfl, l, _, .way3 (Bj.R1.same s11) g1 (gpg.same s11) (th.same s11), fun v3 H14 s14 rv3 => ?_⟩
              have rv2 : Rv H14 (V.ref pv) (res3 o d og m1) := by
                rw [e3]
                exact ⟨pv, rfl, s14 _ _ hpv⟩
              refine ⟨_, rfl, _, _, rv3.dp okr, rv2.dp okr, datR_sh okr, datR_sh okr, _, rfl, ?_⟩
              rw [SeqAt.eqv_refl _ (datR_lay okr)]
              exact iteF ⟨_, _, rfl, s11.trans s14⟩
          · rintro σ Hk ⟨w8, w14, rfl, sk⟩
            exact ⟨_, _, _, rfl, sk _ _ hLGj, ⟨zi, sk _ _ hlj⟩, Bj.same sk, fun v hv => let ⟨og, z⟩ := gpj v hv; ⟨og, z.same sk⟩⟩
        · rintro σ Hk ⟨w8, w13, w14, rfl, _, _, Bk, _⟩
          exact ⟨_, _, _, _, _, _, _, _, _, _, _, _, _, _, rfl, Bk.hL⟩
end
end K13

set_option Elab.async false
set_option linter.all false
set_option maxRecDepth 100000
set_option maxHeartbeats 8000000
namespace K13
open PySem PySem.Spec PyProof.Rows L2 BX EXB Co Ru
theorem all_mk {l : PySem.W.OpenLaw} {w : World} {K : PySem.W.Frag} {h : Heap} {mg : Str → Option Value} {fa C_N f_i_N C_G f_i_G C_U f_i_U C_M f_i_M f_d_is_whole f_d_is_whole_within f_d_is_ratio f_d_plus f_d_times f_d_lowest f_d_divisor f_d_is_list_of f_d_is_share f_d_is_share_row f_d_wrong_row f_d_copied_rows f_d_silence f_d_all_told f_d_beside f_d_grouped f_d_check_worlds f_d_check_groups f_d_told_row f_d_row_beside f_d_grouped_row f_d_law_left f_d_law_digit f_d_law_low f_d_law_shares f_d_law_rows f_d_law_told f_d_law_number_due f_d_law_groups_due f_d_law_odd f_d_law f_d_total T_d_total C_R f_m_R_init f_m_R_rows f_m_R_worlds f_m_R_len : Addr} (X : K.In h) (G : h.Ns mainGlobals mg) (hfa : mg "law" = some (.ref fa)) {nm_N q_N : Str} {N_N : Addr} {bs_N : List Value} {sn_N : List Str} {su_N : List Value} {ab_N : Bool} {co_N : Option Bool} {dd_N : Option Addr} {m0_N m1_N m2_N m3_N m5_N : Option Value} {nm_G q_G : Str} {N_G : Addr} {bs_G : List Value} {sn_G : List Str} {su_G : List Value} {ab_G : Bool} {co_G : Option Bool} {dd_G : Option Addr} {m0_G m1_G m2_G m3_G m5_G : Option Value} {nm_U q_U : Str} {N_U : Addr} {bs_U : List Value} {sn_U : List Str} {su_U : List Value} {ab_U : Bool} {co_U : Option Bool} {dd_U : Option Addr} {m0_U m1_U m2_U m3_U m5_U : Option Value} {nm_M q_M : Str} {N_M : Addr} {bs_M : List Value} {sn_M : List Str} {su_M : List Value} {ab_M : Bool} {co_M : Option Bool} {dd_M : Option Addr} {m0_M m1_M m2_M m3_M m5_M : Option Value} {oT_d_total : Obj} {nT_d_total : Nat} {tk5 tk30 : Tok}
    {od_i_N an_i_N : Option Addr} {sl_i_N : Array (Option Value)} {oc_i_N kV_i_N dc_i_N pm_i_N cd_i_N ct_i_N : Value}
    {od_i_G an_i_G : Option Addr} {sl_i_G : Array (Option Value)} {oc_i_G kV_i_G dc_i_G pm_i_G cd_i_G ct_i_G : Value}
    {od_i_U an_i_U : Option Addr} {sl_i_U : Array (Option Value)} {oc_i_U kV_i_U dc_i_U pm_i_U cd_i_U ct_i_U : Value}
    {od_i_M an_i_M : Option Addr} {sl_i_M : Array (Option Value)} {oc_i_M kV_i_M dc_i_M pm_i_M cd_i_M ct_i_M : Value}
    {od_d_is_whole an_d_is_whole : Option Addr} {sl_d_is_whole : Array (Option Value)} {oc_d_is_whole kV_d_is_whole dc_d_is_whole pm_d_is_whole cd_d_is_whole ct_d_is_whole : Value}
    {od_d_is_whole_within an_d_is_whole_within : Option Addr} {sl_d_is_whole_within : Array (Option Value)} {oc_d_is_whole_within kV_d_is_whole_within dc_d_is_whole_within pm_d_is_whole_within cd_d_is_whole_within ct_d_is_whole_within : Value}
    {od_d_is_ratio an_d_is_ratio : Option Addr} {sl_d_is_ratio : Array (Option Value)} {oc_d_is_ratio kV_d_is_ratio dc_d_is_ratio pm_d_is_ratio cd_d_is_ratio ct_d_is_ratio : Value}
    {od_d_plus an_d_plus : Option Addr} {sl_d_plus : Array (Option Value)} {oc_d_plus kV_d_plus dc_d_plus pm_d_plus cd_d_plus ct_d_plus : Value}
    {od_d_times an_d_times : Option Addr} {sl_d_times : Array (Option Value)} {oc_d_times kV_d_times dc_d_times pm_d_times cd_d_times ct_d_times : Value}
    {od_d_lowest an_d_lowest : Option Addr} {sl_d_lowest : Array (Option Value)} {oc_d_lowest kV_d_lowest dc_d_lowest pm_d_lowest cd_d_lowest ct_d_lowest : Value}
    {od_d_divisor an_d_divisor : Option Addr} {sl_d_divisor : Array (Option Value)} {oc_d_divisor kV_d_divisor dc_d_divisor pm_d_divisor cd_d_divisor ct_d_divisor : Value}
    {od_d_is_list_of an_d_is_list_of : Option Addr} {sl_d_is_list_of : Array (Option Value)} {oc_d_is_list_of kV_d_is_list_of dc_d_is_list_of pm_d_is_list_of cd_d_is_list_of ct_d_is_list_of : Value}
    {od_d_is_share an_d_is_share : Option Addr} {sl_d_is_share : Array (Option Value)} {oc_d_is_share kV_d_is_share dc_d_is_share pm_d_is_share cd_d_is_share ct_d_is_share : Value}
    {od_d_is_share_row an_d_is_share_row : Option Addr} {sl_d_is_share_row : Array (Option Value)} {oc_d_is_share_row kV_d_is_share_row dc_d_is_share_row pm_d_is_share_row cd_d_is_share_row ct_d_is_share_row : Value}
    {od_d_wrong_row an_d_wrong_row : Option Addr} {sl_d_wrong_row : Array (Option Value)} {oc_d_wrong_row kV_d_wrong_row dc_d_wrong_row pm_d_wrong_row cd_d_wrong_row ct_d_wrong_row : Value}
    {od_d_copied_rows an_d_copied_rows : Option Addr} {sl_d_copied_rows : Array (Option Value)} {oc_d_copied_rows kV_d_copied_rows dc_d_copied_rows pm_d_copied_rows cd_d_copied_rows ct_d_copied_rows : Value}
    {od_d_silence an_d_silence : Option Addr} {sl_d_silence : Array (Option Value)} {oc_d_silence kV_d_silence dc_d_silence pm_d_silence cd_d_silence ct_d_silence : Value}
    {od_d_all_told an_d_all_told : Option Addr} {sl_d_all_told : Array (Option Value)} {oc_d_all_told kV_d_all_told dc_d_all_told pm_d_all_told cd_d_all_told ct_d_all_told : Value}
    {od_d_beside an_d_beside : Option Addr} {sl_d_beside : Array (Option Value)} {oc_d_beside kV_d_beside dc_d_beside pm_d_beside cd_d_beside ct_d_beside : Value}
    {od_d_grouped an_d_grouped : Option Addr} {sl_d_grouped : Array (Option Value)} {oc_d_grouped kV_d_grouped dc_d_grouped pm_d_grouped cd_d_grouped ct_d_grouped : Value}
    {od_d_check_worlds an_d_check_worlds : Option Addr} {sl_d_check_worlds : Array (Option Value)} {oc_d_check_worlds kV_d_check_worlds dc_d_check_worlds pm_d_check_worlds cd_d_check_worlds ct_d_check_worlds : Value}
    {od_d_check_groups an_d_check_groups : Option Addr} {sl_d_check_groups : Array (Option Value)} {oc_d_check_groups kV_d_check_groups dc_d_check_groups pm_d_check_groups cd_d_check_groups ct_d_check_groups : Value}
    {od_d_told_row an_d_told_row : Option Addr} {sl_d_told_row : Array (Option Value)} {oc_d_told_row kV_d_told_row dc_d_told_row pm_d_told_row cd_d_told_row ct_d_told_row : Value}
    {od_d_row_beside an_d_row_beside : Option Addr} {sl_d_row_beside : Array (Option Value)} {oc_d_row_beside kV_d_row_beside dc_d_row_beside pm_d_row_beside cd_d_row_beside ct_d_row_beside : Value}
    {od_d_grouped_row an_d_grouped_row : Option Addr} {sl_d_grouped_row : Array (Option Value)} {oc_d_grouped_row kV_d_grouped_row dc_d_grouped_row pm_d_grouped_row cd_d_grouped_row ct_d_grouped_row : Value}
    {od_d_law_left an_d_law_left : Option Addr} {sl_d_law_left : Array (Option Value)} {oc_d_law_left kV_d_law_left dc_d_law_left pm_d_law_left cd_d_law_left ct_d_law_left : Value}
    {od_d_law_digit an_d_law_digit : Option Addr} {sl_d_law_digit : Array (Option Value)} {oc_d_law_digit kV_d_law_digit dc_d_law_digit pm_d_law_digit cd_d_law_digit ct_d_law_digit : Value}
    {od_d_law_low an_d_law_low : Option Addr} {sl_d_law_low : Array (Option Value)} {oc_d_law_low kV_d_law_low dc_d_law_low pm_d_law_low cd_d_law_low ct_d_law_low : Value}
    {od_d_law_shares an_d_law_shares : Option Addr} {sl_d_law_shares : Array (Option Value)} {oc_d_law_shares kV_d_law_shares dc_d_law_shares pm_d_law_shares cd_d_law_shares ct_d_law_shares : Value}
    {od_d_law_rows an_d_law_rows : Option Addr} {sl_d_law_rows : Array (Option Value)} {oc_d_law_rows kV_d_law_rows dc_d_law_rows pm_d_law_rows cd_d_law_rows ct_d_law_rows : Value}
    {od_d_law_told an_d_law_told : Option Addr} {sl_d_law_told : Array (Option Value)} {oc_d_law_told kV_d_law_told dc_d_law_told pm_d_law_told cd_d_law_told ct_d_law_told : Value}
    {od_d_law_number_due an_d_law_number_due : Option Addr} {sl_d_law_number_due : Array (Option Value)} {oc_d_law_number_due kV_d_law_number_due dc_d_law_number_due pm_d_law_number_due cd_d_law_number_due ct_d_law_number_due : Value}
    {od_d_law_groups_due an_d_law_groups_due : Option Addr} {sl_d_law_groups_due : Array (Option Value)} {oc_d_law_groups_due kV_d_law_groups_due dc_d_law_groups_due pm_d_law_groups_due cd_d_law_groups_due ct_d_law_groups_due : Value}
    {od_d_law_odd an_d_law_odd : Option Addr} {sl_d_law_odd : Array (Option Value)} {oc_d_law_odd kV_d_law_odd dc_d_law_odd pm_d_law_odd cd_d_law_odd ct_d_law_odd : Value}
    {od_d_law an_d_law : Option Addr} {sl_d_law : Array (Option Value)} {oc_d_law kV_d_law dc_d_law pm_d_law cd_d_law ct_d_law : Value}
    {od_d_total an_d_total : Option Addr} {sl_d_total : Array (Option Value)} {oc_d_total kV_d_total dc_d_total pm_d_total cd_d_total ct_d_total : Value}
    {od_m_R_init an_m_R_init : Option Addr} {sl_m_R_init : Array (Option Value)} {oc_m_R_init kV_m_R_init dc_m_R_init pm_m_R_init cd_m_R_init ct_m_R_init : Value}
    {od_m_R_rows an_m_R_rows : Option Addr} {sl_m_R_rows : Array (Option Value)} {oc_m_R_rows kV_m_R_rows dc_m_R_rows pm_m_R_rows cd_m_R_rows ct_m_R_rows : Value}
    {od_m_R_worlds an_m_R_worlds : Option Addr} {sl_m_R_worlds : Array (Option Value)} {oc_m_R_worlds kV_m_R_worlds dc_m_R_worlds pm_m_R_worlds cd_m_R_worlds ct_m_R_worlds : Value}
    {od_m_R_len an_m_R_len : Option Addr} {sl_m_R_len : Array (Option Value)} {oc_m_R_len kV_m_R_len dc_m_R_len pm_m_R_len cd_m_R_len ct_m_R_len : Value}
    (aC_N : PySem.W.nsIn K mainGlobals "NoNumber" = some (some (.ref C_N)))
    (xC_N : K.lookup C_N = some (excClassObj nm_N q_N C_N N_N bs_N [.type "ValueError", .type "Exception", .type "BaseException", .type "object"] true sn_N su_N ab_N co_N dd_N m0_N m1_N m2_N m3_N m5_N "ValueError.__new__"))
    (sa_N : PySem.W.findIn K (.ref C_N) "__setattr__" = some (some (.builtin "object.__setattr__")))
    (ga_N : PySem.W.findIn K (.ref C_N) "__getattribute__" = some (some (.builtin "BaseException.__getattribute__")))
    (gg_N : PySem.W.findIn K (.ref C_N) "__getattr__" = some none)
    (cl_N : PySem.W.findIn K (.ref C_N) "__class__" = some (some (.builtin "object.__class__")))
    (mo_N : PySem.W.mroIn K C_N (.type "object") = some true)
    (kC_N : PySem.W.keepIn K (.ref C_N) = true)
    (eC_N : PySem.W.subIn K (.ref C_N) (.type "BaseException") = some true)
    (tC_N : PySem.W.typeIn K (.ref C_N) = some (.type "type"))
    (hd_N : PySem.W.hasDictIn K C_N = true)
    (vV_N : PySem.W.findCls K (.type "ValueError") (.type "type") "__init__" = some (.val (.builtin "ValueError.__init__")))
    (sp_ : PySem.W.specialIn K (.builtin "object.__class__") "__get__" = some (some (.builtin "getset_descriptor.__get__")))
    (tk_ : PySem.W.takesIn K (.builtin "object.__class__") = some true)
    (i_i_N : PySem.W.findIn K (.ref C_N) "__init__" = some (some (.ref f_i_N)))
    (ty_i_N : PySem.W.typeIn K (.ref f_i_N) = some (.type "function"))
    (l_i_N : K.lookup f_i_N = some ⟨oc_i_N, od_i_N, .func (PySem.W.fnOf "__init__" "NoNumber.__init__" (defArgs sNnInit) (defBody sNnInit) (defScope sNnInit) .none kV_i_N dc_i_N pm_i_N an_i_N cd_i_N ct_i_N), sl_i_N⟩)
    (c_i_N : PySem.W.codeIn K cd_i_N "NoNumber.__init__" = true)
    (k_i_N : PySem.W.keepIn K (.ref f_i_N) = true)
    (no_N_number : PySem.W.findIn K (.ref C_N) "number" = some none)
    (aC_G : PySem.W.nsIn K mainGlobals "NoGroups" = some (some (.ref C_G)))
    (xC_G : K.lookup C_G = some (excClassObj nm_G q_G C_G N_G bs_G [.type "ValueError", .type "Exception", .type "BaseException", .type "object"] true sn_G su_G ab_G co_G dd_G m0_G m1_G m2_G m3_G m5_G "ValueError.__new__"))
    (sa_G : PySem.W.findIn K (.ref C_G) "__setattr__" = some (some (.builtin "object.__setattr__")))
    (ga_G : PySem.W.findIn K (.ref C_G) "__getattribute__" = some (some (.builtin "BaseException.__getattribute__")))
    (gg_G : PySem.W.findIn K (.ref C_G) "__getattr__" = some none)
    (cl_G : PySem.W.findIn K (.ref C_G) "__class__" = some (some (.builtin "object.__class__")))
    (mo_G : PySem.W.mroIn K C_G (.type "object") = some true)
    (kC_G : PySem.W.keepIn K (.ref C_G) = true)
    (eC_G : PySem.W.subIn K (.ref C_G) (.type "BaseException") = some true)
    (tC_G : PySem.W.typeIn K (.ref C_G) = some (.type "type"))
    (hd_G : PySem.W.hasDictIn K C_G = true)
    (vV_G : PySem.W.findCls K (.type "ValueError") (.type "type") "__init__" = some (.val (.builtin "ValueError.__init__")))
    (i_i_G : PySem.W.findIn K (.ref C_G) "__init__" = some (some (.ref f_i_G)))
    (ty_i_G : PySem.W.typeIn K (.ref f_i_G) = some (.type "function"))
    (l_i_G : K.lookup f_i_G = some ⟨oc_i_G, od_i_G, .func (PySem.W.fnOf "__init__" "NoGroups.__init__" (defArgs sNgInit) (defBody sNgInit) (defScope sNgInit) .none kV_i_G dc_i_G pm_i_G an_i_G cd_i_G ct_i_G), sl_i_G⟩)
    (c_i_G : PySem.W.codeIn K cd_i_G "NoGroups.__init__" = true)
    (k_i_G : PySem.W.keepIn K (.ref f_i_G) = true)
    (no_G_word : PySem.W.findIn K (.ref C_G) "word" = some none)
    (aC_U : PySem.W.nsIn K mainGlobals "Unlike" = some (some (.ref C_U)))
    (xC_U : K.lookup C_U = some (excClassObj nm_U q_U C_U N_U bs_U [.type "ValueError", .type "Exception", .type "BaseException", .type "object"] true sn_U su_U ab_U co_U dd_U m0_U m1_U m2_U m3_U m5_U "ValueError.__new__"))
    (sa_U : PySem.W.findIn K (.ref C_U) "__setattr__" = some (some (.builtin "object.__setattr__")))
    (ga_U : PySem.W.findIn K (.ref C_U) "__getattribute__" = some (some (.builtin "BaseException.__getattribute__")))
    (gg_U : PySem.W.findIn K (.ref C_U) "__getattr__" = some none)
    (cl_U : PySem.W.findIn K (.ref C_U) "__class__" = some (some (.builtin "object.__class__")))
    (mo_U : PySem.W.mroIn K C_U (.type "object") = some true)
    (kC_U : PySem.W.keepIn K (.ref C_U) = true)
    (eC_U : PySem.W.subIn K (.ref C_U) (.type "BaseException") = some true)
    (tC_U : PySem.W.typeIn K (.ref C_U) = some (.type "type"))
    (hd_U : PySem.W.hasDictIn K C_U = true)
    (vV_U : PySem.W.findCls K (.type "ValueError") (.type "type") "__init__" = some (.val (.builtin "ValueError.__init__")))
    (i_i_U : PySem.W.findIn K (.ref C_U) "__init__" = some (some (.ref f_i_U)))
    (ty_i_U : PySem.W.typeIn K (.ref f_i_U) = some (.type "function"))
    (l_i_U : K.lookup f_i_U = some ⟨oc_i_U, od_i_U, .func (PySem.W.fnOf "__init__" "Unlike.__init__" (defArgs sUnInit) (defBody sUnInit) (defScope sUnInit) .none kV_i_U dc_i_U pm_i_U an_i_U cd_i_U ct_i_U), sl_i_U⟩)
    (c_i_U : PySem.W.codeIn K cd_i_U "Unlike.__init__" = true)
    (k_i_U : PySem.W.keepIn K (.ref f_i_U) = true)
    (no_U_one : PySem.W.findIn K (.ref C_U) "one" = some none)
    (no_U_other : PySem.W.findIn K (.ref C_U) "other" = some none)
    (aC_M : PySem.W.nsIn K mainGlobals "TooMany" = some (some (.ref C_M)))
    (xC_M : K.lookup C_M = some (excClassObj nm_M q_M C_M N_M bs_M [.type "OverflowError", .type "ArithmeticError", .type "Exception", .type "BaseException", .type "object"] true sn_M su_M ab_M co_M dd_M m0_M m1_M m2_M m3_M m5_M "OverflowError.__new__"))
    (sa_M : PySem.W.findIn K (.ref C_M) "__setattr__" = some (some (.builtin "object.__setattr__")))
    (ga_M : PySem.W.findIn K (.ref C_M) "__getattribute__" = some (some (.builtin "BaseException.__getattribute__")))
    (gg_M : PySem.W.findIn K (.ref C_M) "__getattr__" = some none)
    (cl_M : PySem.W.findIn K (.ref C_M) "__class__" = some (some (.builtin "object.__class__")))
    (mo_M : PySem.W.mroIn K C_M (.type "object") = some true)
    (kC_M : PySem.W.keepIn K (.ref C_M) = true)
    (eC_M : PySem.W.subIn K (.ref C_M) (.type "BaseException") = some true)
    (tC_M : PySem.W.typeIn K (.ref C_M) = some (.type "type"))
    (hd_M : PySem.W.hasDictIn K C_M = true)
    (vV_M : PySem.W.findCls K (.type "OverflowError") (.type "type") "__init__" = some (.val (.builtin "OverflowError.__init__")))
    (i_i_M : PySem.W.findIn K (.ref C_M) "__init__" = some (some (.ref f_i_M)))
    (ty_i_M : PySem.W.typeIn K (.ref f_i_M) = some (.type "function"))
    (l_i_M : K.lookup f_i_M = some ⟨oc_i_M, od_i_M, .func (PySem.W.fnOf "__init__" "TooMany.__init__" (defArgs sTmInit) (defBody sTmInit) (defScope sTmInit) .none kV_i_M dc_i_M pm_i_M an_i_M cd_i_M ct_i_M), sl_i_M⟩)
    (c_i_M : PySem.W.codeIn K cd_i_M "TooMany.__init__" = true)
    (k_i_M : PySem.W.keepIn K (.ref f_i_M) = true)
    (no_M_many : PySem.W.findIn K (.ref C_M) "many" = some none)
    (sb_N_N : PySem.W.subIn K (.ref C_N) (.ref C_N) = some true)
    (sb_U_N : PySem.W.subIn K (.ref C_U) (.ref C_N) = some false)
    (sb_U_U : PySem.W.subIn K (.ref C_U) (.ref C_U) = some true)
    (sb_M_N : PySem.W.subIn K (.ref C_M) (.ref C_N) = some false)
    (sb_M_U : PySem.W.subIn K (.ref C_M) (.ref C_U) = some false)
    (sb_M_M : PySem.W.subIn K (.ref C_M) (.ref C_M) = some true)
    (sb_G_N : PySem.W.subIn K (.ref C_G) (.ref C_N) = some false)
    (sb_G_U : PySem.W.subIn K (.ref C_G) (.ref C_U) = some false)
    (sb_G_M : PySem.W.subIn K (.ref C_G) (.ref C_M) = some false)
    (sb_G_G : PySem.W.subIn K (.ref C_G) (.ref C_G) = some true)
    (kt_N_ValueError : PySem.W.kitOne K (.ref C_N) (.type "ValueError") = some true)
    (kt_M_OverflowError : PySem.W.kitOne K (.ref C_M) (.type "OverflowError") = some true)
    (kt_G_ValueError : PySem.W.kitOne K (.ref C_G) (.type "ValueError") = some true)
    (a_d_is_whole : PySem.W.nsIn K mainGlobals "is_whole" = some (some (.ref f_d_is_whole)))
    (l_d_is_whole : K.lookup f_d_is_whole = some ⟨oc_d_is_whole, od_d_is_whole, .func (PySem.W.fnOf "is_whole" "is_whole" (defArgs sWhole) (defBody sWhole) (defScope sWhole) .none kV_d_is_whole dc_d_is_whole pm_d_is_whole an_d_is_whole cd_d_is_whole ct_d_is_whole), sl_d_is_whole⟩)
    (c_d_is_whole : PySem.W.codeIn K cd_d_is_whole "is_whole" = true)
    (k_d_is_whole : PySem.W.keepIn K (.ref f_d_is_whole) = true)
    (a_d_is_whole_within : PySem.W.nsIn K mainGlobals "is_whole_within" = some (some (.ref f_d_is_whole_within)))
    (l_d_is_whole_within : K.lookup f_d_is_whole_within = some ⟨oc_d_is_whole_within, od_d_is_whole_within, .func (PySem.W.fnOf "is_whole_within" "is_whole_within" (defArgs sWithin) (defBody sWithin) (defScope sWithin) .none kV_d_is_whole_within dc_d_is_whole_within pm_d_is_whole_within an_d_is_whole_within cd_d_is_whole_within ct_d_is_whole_within), sl_d_is_whole_within⟩)
    (c_d_is_whole_within : PySem.W.codeIn K cd_d_is_whole_within "is_whole_within" = true)
    (k_d_is_whole_within : PySem.W.keepIn K (.ref f_d_is_whole_within) = true)
    (a_d_is_ratio : PySem.W.nsIn K mainGlobals "is_ratio" = some (some (.ref f_d_is_ratio)))
    (l_d_is_ratio : K.lookup f_d_is_ratio = some ⟨oc_d_is_ratio, od_d_is_ratio, .func (PySem.W.fnOf "is_ratio" "is_ratio" (defArgs sIsR) (defBody sIsR) (defScope sIsR) .none kV_d_is_ratio dc_d_is_ratio pm_d_is_ratio an_d_is_ratio cd_d_is_ratio ct_d_is_ratio), sl_d_is_ratio⟩)
    (c_d_is_ratio : PySem.W.codeIn K cd_d_is_ratio "is_ratio" = true)
    (k_d_is_ratio : PySem.W.keepIn K (.ref f_d_is_ratio) = true)
    (a_d_plus : PySem.W.nsIn K mainGlobals "plus" = some (some (.ref f_d_plus)))
    (l_d_plus : K.lookup f_d_plus = some ⟨oc_d_plus, od_d_plus, .func (PySem.W.fnOf "plus" "plus" (defArgs sPlus) (defBody sPlus) (defScope sPlus) .none kV_d_plus dc_d_plus pm_d_plus an_d_plus cd_d_plus ct_d_plus), sl_d_plus⟩)
    (c_d_plus : PySem.W.codeIn K cd_d_plus "plus" = true)
    (k_d_plus : PySem.W.keepIn K (.ref f_d_plus) = true)
    (a_d_times : PySem.W.nsIn K mainGlobals "times" = some (some (.ref f_d_times)))
    (l_d_times : K.lookup f_d_times = some ⟨oc_d_times, od_d_times, .func (PySem.W.fnOf "times" "times" (defArgs sTimes) (defBody sTimes) (defScope sTimes) .none kV_d_times dc_d_times pm_d_times an_d_times cd_d_times ct_d_times), sl_d_times⟩)
    (c_d_times : PySem.W.codeIn K cd_d_times "times" = true)
    (k_d_times : PySem.W.keepIn K (.ref f_d_times) = true)
    (a_d_lowest : PySem.W.nsIn K mainGlobals "lowest" = some (some (.ref f_d_lowest)))
    (l_d_lowest : K.lookup f_d_lowest = some ⟨oc_d_lowest, od_d_lowest, .func (PySem.W.fnOf "lowest" "lowest" (defArgs sLowest) (defBody sLowest) (defScope sLowest) .none kV_d_lowest dc_d_lowest pm_d_lowest an_d_lowest cd_d_lowest ct_d_lowest), sl_d_lowest⟩)
    (c_d_lowest : PySem.W.codeIn K cd_d_lowest "lowest" = true)
    (k_d_lowest : PySem.W.keepIn K (.ref f_d_lowest) = true)
    (a_d_divisor : PySem.W.nsIn K mainGlobals "divisor" = some (some (.ref f_d_divisor)))
    (l_d_divisor : K.lookup f_d_divisor = some ⟨oc_d_divisor, od_d_divisor, .func (PySem.W.fnOf "divisor" "divisor" (defArgs sDiv) (defBody sDiv) (defScope sDiv) .none kV_d_divisor dc_d_divisor pm_d_divisor an_d_divisor cd_d_divisor ct_d_divisor), sl_d_divisor⟩)
    (c_d_divisor : PySem.W.codeIn K cd_d_divisor "divisor" = true)
    (k_d_divisor : PySem.W.keepIn K (.ref f_d_divisor) = true)
    (a_d_is_list_of : PySem.W.nsIn K mainGlobals "is_list_of" = some (some (.ref f_d_is_list_of)))
    (l_d_is_list_of : K.lookup f_d_is_list_of = some ⟨oc_d_is_list_of, od_d_is_list_of, .func (PySem.W.fnOf "is_list_of" "is_list_of" (defArgs sListOf) (defBody sListOf) (defScope sListOf) .none kV_d_is_list_of dc_d_is_list_of pm_d_is_list_of an_d_is_list_of cd_d_is_list_of ct_d_is_list_of), sl_d_is_list_of⟩)
    (c_d_is_list_of : PySem.W.codeIn K cd_d_is_list_of "is_list_of" = true)
    (k_d_is_list_of : PySem.W.keepIn K (.ref f_d_is_list_of) = true)
    (a_d_is_share : PySem.W.nsIn K mainGlobals "is_share" = some (some (.ref f_d_is_share)))
    (l_d_is_share : K.lookup f_d_is_share = some ⟨oc_d_is_share, od_d_is_share, .func (PySem.W.fnOf "is_share" "is_share" (defArgs sShare) (defBody sShare) (defScope sShare) .none kV_d_is_share dc_d_is_share pm_d_is_share an_d_is_share cd_d_is_share ct_d_is_share), sl_d_is_share⟩)
    (c_d_is_share : PySem.W.codeIn K cd_d_is_share "is_share" = true)
    (k_d_is_share : PySem.W.keepIn K (.ref f_d_is_share) = true)
    (a_d_is_share_row : PySem.W.nsIn K mainGlobals "is_share_row" = some (some (.ref f_d_is_share_row)))
    (l_d_is_share_row : K.lookup f_d_is_share_row = some ⟨oc_d_is_share_row, od_d_is_share_row, .func (PySem.W.fnOf "is_share_row" "is_share_row" (defArgs sShRow) (defBody sShRow) (defScope sShRow) .none kV_d_is_share_row dc_d_is_share_row pm_d_is_share_row an_d_is_share_row cd_d_is_share_row ct_d_is_share_row), sl_d_is_share_row⟩)
    (c_d_is_share_row : PySem.W.codeIn K cd_d_is_share_row "is_share_row" = true)
    (k_d_is_share_row : PySem.W.keepIn K (.ref f_d_is_share_row) = true)
    (a_d_wrong_row : PySem.W.nsIn K mainGlobals "wrong_row" = some (some (.ref f_d_wrong_row)))
    (l_d_wrong_row : K.lookup f_d_wrong_row = some ⟨oc_d_wrong_row, od_d_wrong_row, .func (PySem.W.fnOf "wrong_row" "wrong_row" (defArgs sWrong) (defBody sWrong) (defScope sWrong) .none kV_d_wrong_row dc_d_wrong_row pm_d_wrong_row an_d_wrong_row cd_d_wrong_row ct_d_wrong_row), sl_d_wrong_row⟩)
    (c_d_wrong_row : PySem.W.codeIn K cd_d_wrong_row "wrong_row" = true)
    (k_d_wrong_row : PySem.W.keepIn K (.ref f_d_wrong_row) = true)
    (a_d_copied_rows : PySem.W.nsIn K mainGlobals "copied_rows" = some (some (.ref f_d_copied_rows)))
    (l_d_copied_rows : K.lookup f_d_copied_rows = some ⟨oc_d_copied_rows, od_d_copied_rows, .func (PySem.W.fnOf "copied_rows" "copied_rows" (defArgs sCopied) (defBody sCopied) (defScope sCopied) .none kV_d_copied_rows dc_d_copied_rows pm_d_copied_rows an_d_copied_rows cd_d_copied_rows ct_d_copied_rows), sl_d_copied_rows⟩)
    (c_d_copied_rows : PySem.W.codeIn K cd_d_copied_rows "copied_rows" = true)
    (k_d_copied_rows : PySem.W.keepIn K (.ref f_d_copied_rows) = true)
    (a_d_silence : PySem.W.nsIn K mainGlobals "silence" = some (some (.ref f_d_silence)))
    (l_d_silence : K.lookup f_d_silence = some ⟨oc_d_silence, od_d_silence, .func (PySem.W.fnOf "silence" "silence" (defArgs sSilence) (defBody sSilence) (defScope sSilence) .none kV_d_silence dc_d_silence pm_d_silence an_d_silence cd_d_silence ct_d_silence), sl_d_silence⟩)
    (c_d_silence : PySem.W.codeIn K cd_d_silence "silence" = true)
    (k_d_silence : PySem.W.keepIn K (.ref f_d_silence) = true)
    (a_d_all_told : PySem.W.nsIn K mainGlobals "all_told" = some (some (.ref f_d_all_told)))
    (l_d_all_told : K.lookup f_d_all_told = some ⟨oc_d_all_told, od_d_all_told, .func (PySem.W.fnOf "all_told" "all_told" (defArgs sAllTold) (defBody sAllTold) (defScope sAllTold) .none kV_d_all_told dc_d_all_told pm_d_all_told an_d_all_told cd_d_all_told ct_d_all_told), sl_d_all_told⟩)
    (c_d_all_told : PySem.W.codeIn K cd_d_all_told "all_told" = true)
    (k_d_all_told : PySem.W.keepIn K (.ref f_d_all_told) = true)
    (a_d_beside : PySem.W.nsIn K mainGlobals "beside" = some (some (.ref f_d_beside)))
    (l_d_beside : K.lookup f_d_beside = some ⟨oc_d_beside, od_d_beside, .func (PySem.W.fnOf "beside" "beside" (defArgs sBeside) (defBody sBeside) (defScope sBeside) .none kV_d_beside dc_d_beside pm_d_beside an_d_beside cd_d_beside ct_d_beside), sl_d_beside⟩)
    (c_d_beside : PySem.W.codeIn K cd_d_beside "beside" = true)
    (k_d_beside : PySem.W.keepIn K (.ref f_d_beside) = true)
    (a_d_grouped : PySem.W.nsIn K mainGlobals "grouped" = some (some (.ref f_d_grouped)))
    (l_d_grouped : K.lookup f_d_grouped = some ⟨oc_d_grouped, od_d_grouped, .func (PySem.W.fnOf "grouped" "grouped" (defArgs sGrouped) (defBody sGrouped) (defScope sGrouped) .none kV_d_grouped dc_d_grouped pm_d_grouped an_d_grouped cd_d_grouped ct_d_grouped), sl_d_grouped⟩)
    (c_d_grouped : PySem.W.codeIn K cd_d_grouped "grouped" = true)
    (k_d_grouped : PySem.W.keepIn K (.ref f_d_grouped) = true)
    (a_d_check_worlds : PySem.W.nsIn K mainGlobals "check_worlds" = some (some (.ref f_d_check_worlds)))
    (l_d_check_worlds : K.lookup f_d_check_worlds = some ⟨oc_d_check_worlds, od_d_check_worlds, .func (PySem.W.fnOf "check_worlds" "check_worlds" (defArgs sChkW) (defBody sChkW) (defScope sChkW) .none kV_d_check_worlds dc_d_check_worlds pm_d_check_worlds an_d_check_worlds cd_d_check_worlds ct_d_check_worlds), sl_d_check_worlds⟩)
    (c_d_check_worlds : PySem.W.codeIn K cd_d_check_worlds "check_worlds" = true)
    (k_d_check_worlds : PySem.W.keepIn K (.ref f_d_check_worlds) = true)
    (a_d_check_groups : PySem.W.nsIn K mainGlobals "check_groups" = some (some (.ref f_d_check_groups)))
    (l_d_check_groups : K.lookup f_d_check_groups = some ⟨oc_d_check_groups, od_d_check_groups, .func (PySem.W.fnOf "check_groups" "check_groups" (defArgs sChkG) (defBody sChkG) (defScope sChkG) .none kV_d_check_groups dc_d_check_groups pm_d_check_groups an_d_check_groups cd_d_check_groups ct_d_check_groups), sl_d_check_groups⟩)
    (c_d_check_groups : PySem.W.codeIn K cd_d_check_groups "check_groups" = true)
    (k_d_check_groups : PySem.W.keepIn K (.ref f_d_check_groups) = true)
    (a_d_told_row : PySem.W.nsIn K mainGlobals "told_row" = some (some (.ref f_d_told_row)))
    (l_d_told_row : K.lookup f_d_told_row = some ⟨oc_d_told_row, od_d_told_row, .func (PySem.W.fnOf "told_row" "told_row" (defArgs sToldRow) (defBody sToldRow) (defScope sToldRow) .none kV_d_told_row dc_d_told_row pm_d_told_row an_d_told_row cd_d_told_row ct_d_told_row), sl_d_told_row⟩)
    (c_d_told_row : PySem.W.codeIn K cd_d_told_row "told_row" = true)
    (k_d_told_row : PySem.W.keepIn K (.ref f_d_told_row) = true)
    (a_d_row_beside : PySem.W.nsIn K mainGlobals "row_beside" = some (some (.ref f_d_row_beside)))
    (l_d_row_beside : K.lookup f_d_row_beside = some ⟨oc_d_row_beside, od_d_row_beside, .func (PySem.W.fnOf "row_beside" "row_beside" (defArgs sRowB) (defBody sRowB) (defScope sRowB) .none kV_d_row_beside dc_d_row_beside pm_d_row_beside an_d_row_beside cd_d_row_beside ct_d_row_beside), sl_d_row_beside⟩)
    (c_d_row_beside : PySem.W.codeIn K cd_d_row_beside "row_beside" = true)
    (k_d_row_beside : PySem.W.keepIn K (.ref f_d_row_beside) = true)
    (a_d_grouped_row : PySem.W.nsIn K mainGlobals "grouped_row" = some (some (.ref f_d_grouped_row)))
    (l_d_grouped_row : K.lookup f_d_grouped_row = some ⟨oc_d_grouped_row, od_d_grouped_row, .func (PySem.W.fnOf "grouped_row" "grouped_row" (defArgs sGrpRow) (defBody sGrpRow) (defScope sGrpRow) .none kV_d_grouped_row dc_d_grouped_row pm_d_grouped_row an_d_grouped_row cd_d_grouped_row ct_d_grouped_row), sl_d_grouped_row⟩)
    (c_d_grouped_row : PySem.W.codeIn K cd_d_grouped_row "grouped_row" = true)
    (k_d_grouped_row : PySem.W.keepIn K (.ref f_d_grouped_row) = true)
    (a_d_law_left : PySem.W.nsIn K mainGlobals "_law_left" = some (some (.ref f_d_law_left)))
    (l_d_law_left : K.lookup f_d_law_left = some ⟨oc_d_law_left, od_d_law_left, .func (PySem.W.fnOf "_law_left" "_law_left" (defArgs sLeft) (defBody sLeft) (defScope sLeft) .none kV_d_law_left dc_d_law_left pm_d_law_left an_d_law_left cd_d_law_left ct_d_law_left), sl_d_law_left⟩)
    (c_d_law_left : PySem.W.codeIn K cd_d_law_left "_law_left" = true)
    (k_d_law_left : PySem.W.keepIn K (.ref f_d_law_left) = true)
    (a_d_law_digit : PySem.W.nsIn K mainGlobals "_law_digit" = some (some (.ref f_d_law_digit)))
    (l_d_law_digit : K.lookup f_d_law_digit = some ⟨oc_d_law_digit, od_d_law_digit, .func (PySem.W.fnOf "_law_digit" "_law_digit" (defArgs sDigit) (defBody sDigit) (defScope sDigit) .none kV_d_law_digit dc_d_law_digit pm_d_law_digit an_d_law_digit cd_d_law_digit ct_d_law_digit), sl_d_law_digit⟩)
    (c_d_law_digit : PySem.W.codeIn K cd_d_law_digit "_law_digit" = true)
    (k_d_law_digit : PySem.W.keepIn K (.ref f_d_law_digit) = true)
    (a_d_law_low : PySem.W.nsIn K mainGlobals "_law_low" = some (some (.ref f_d_law_low)))
    (l_d_law_low : K.lookup f_d_law_low = some ⟨oc_d_law_low, od_d_law_low, .func (PySem.W.fnOf "_law_low" "_law_low" (defArgs sLow) (defBody sLow) (defScope sLow) .none kV_d_law_low dc_d_law_low pm_d_law_low an_d_law_low cd_d_law_low ct_d_law_low), sl_d_law_low⟩)
    (c_d_law_low : PySem.W.codeIn K cd_d_law_low "_law_low" = true)
    (k_d_law_low : PySem.W.keepIn K (.ref f_d_law_low) = true)
    (a_d_law_shares : PySem.W.nsIn K mainGlobals "_law_shares" = some (some (.ref f_d_law_shares)))
    (l_d_law_shares : K.lookup f_d_law_shares = some ⟨oc_d_law_shares, od_d_law_shares, .func (PySem.W.fnOf "_law_shares" "_law_shares" (defArgs sShares) (defBody sShares) (defScope sShares) .none kV_d_law_shares dc_d_law_shares pm_d_law_shares an_d_law_shares cd_d_law_shares ct_d_law_shares), sl_d_law_shares⟩)
    (c_d_law_shares : PySem.W.codeIn K cd_d_law_shares "_law_shares" = true)
    (k_d_law_shares : PySem.W.keepIn K (.ref f_d_law_shares) = true)
    (a_d_law_rows : PySem.W.nsIn K mainGlobals "_law_rows" = some (some (.ref f_d_law_rows)))
    (l_d_law_rows : K.lookup f_d_law_rows = some ⟨oc_d_law_rows, od_d_law_rows, .func (PySem.W.fnOf "_law_rows" "_law_rows" (defArgs sRows) (defBody sRows) (defScope sRows) .none kV_d_law_rows dc_d_law_rows pm_d_law_rows an_d_law_rows cd_d_law_rows ct_d_law_rows), sl_d_law_rows⟩)
    (c_d_law_rows : PySem.W.codeIn K cd_d_law_rows "_law_rows" = true)
    (k_d_law_rows : PySem.W.keepIn K (.ref f_d_law_rows) = true)
    (a_d_law_told : PySem.W.nsIn K mainGlobals "_law_told" = some (some (.ref f_d_law_told)))
    (l_d_law_told : K.lookup f_d_law_told = some ⟨oc_d_law_told, od_d_law_told, .func (PySem.W.fnOf "_law_told" "_law_told" (defArgs sTold) (defBody sTold) (defScope sTold) .none kV_d_law_told dc_d_law_told pm_d_law_told an_d_law_told cd_d_law_told ct_d_law_told), sl_d_law_told⟩)
    (c_d_law_told : PySem.W.codeIn K cd_d_law_told "_law_told" = true)
    (k_d_law_told : PySem.W.keepIn K (.ref f_d_law_told) = true)
    (a_d_law_number_due : PySem.W.nsIn K mainGlobals "_law_number_due" = some (some (.ref f_d_law_number_due)))
    (l_d_law_number_due : K.lookup f_d_law_number_due = some ⟨oc_d_law_number_due, od_d_law_number_due, .func (PySem.W.fnOf "_law_number_due" "_law_number_due" (defArgs sNumDue) (defBody sNumDue) (defScope sNumDue) .none kV_d_law_number_due dc_d_law_number_due pm_d_law_number_due an_d_law_number_due cd_d_law_number_due ct_d_law_number_due), sl_d_law_number_due⟩)
    (c_d_law_number_due : PySem.W.codeIn K cd_d_law_number_due "_law_number_due" = true)
    (k_d_law_number_due : PySem.W.keepIn K (.ref f_d_law_number_due) = true)
    (a_d_law_groups_due : PySem.W.nsIn K mainGlobals "_law_groups_due" = some (some (.ref f_d_law_groups_due)))
    (l_d_law_groups_due : K.lookup f_d_law_groups_due = some ⟨oc_d_law_groups_due, od_d_law_groups_due, .func (PySem.W.fnOf "_law_groups_due" "_law_groups_due" (defArgs sGrpDue) (defBody sGrpDue) (defScope sGrpDue) .none kV_d_law_groups_due dc_d_law_groups_due pm_d_law_groups_due an_d_law_groups_due cd_d_law_groups_due ct_d_law_groups_due), sl_d_law_groups_due⟩)
    (c_d_law_groups_due : PySem.W.codeIn K cd_d_law_groups_due "_law_groups_due" = true)
    (k_d_law_groups_due : PySem.W.keepIn K (.ref f_d_law_groups_due) = true)
    (a_d_law_odd : PySem.W.nsIn K mainGlobals "_law_odd" = some (some (.ref f_d_law_odd)))
    (l_d_law_odd : K.lookup f_d_law_odd = some ⟨oc_d_law_odd, od_d_law_odd, .func (PySem.W.fnOf "_law_odd" "_law_odd" (defArgs sOdd) (defBody sOdd) (defScope sOdd) .none kV_d_law_odd dc_d_law_odd pm_d_law_odd an_d_law_odd cd_d_law_odd ct_d_law_odd), sl_d_law_odd⟩)
    (c_d_law_odd : PySem.W.codeIn K cd_d_law_odd "_law_odd" = true)
    (k_d_law_odd : PySem.W.keepIn K (.ref f_d_law_odd) = true)
    (a_d_law : PySem.W.nsIn K mainGlobals "law" = some (some (.ref f_d_law)))
    (l_d_law : K.lookup f_d_law = some ⟨oc_d_law, od_d_law, .func (PySem.W.fnOf "law" "law" (defArgs sLaw) (defBody sLaw) (defScope sLaw) .none kV_d_law dc_d_law pm_d_law an_d_law cd_d_law ct_d_law), sl_d_law⟩)
    (c_d_law : PySem.W.codeIn K cd_d_law "law" = true)
    (k_d_law : PySem.W.keepIn K (.ref f_d_law) = true)
    (a_d_total : PySem.W.nsIn K mainGlobals "total" = some (some (.ref f_d_total)))
    (l_d_total : K.lookup f_d_total = some ⟨oc_d_total, od_d_total, .func (PySem.W.fnOf "total" "total" (defArgs sTotal) (defBody sTotal) (defScope sTotal) (.ref T_d_total) kV_d_total dc_d_total pm_d_total an_d_total cd_d_total ct_d_total), sl_d_total⟩)
    (c_d_total : PySem.W.codeIn K cd_d_total "total" = true)
    (k_d_total : PySem.W.keepIn K (.ref f_d_total) = true)
    (t_d_total : K.lookup T_d_total = some oT_d_total)
    (e_d_total : oT_d_total.data = .seq [Value.none].toArray nT_d_total)
    (aC_R : PySem.W.nsIn K mainGlobals "Rule" = some (some (.ref C_R)))
    (pg_R : PySem.W.plainGet K C_R Str.empty = true)
    (hd_R : PySem.W.hasDictIn K C_R = true)
    (po_R : PySem.W.plainOver K C_R = true)
    (sa_R : PySem.W.findIn K (.ref C_R) "__setattr__" = some (some (.builtin "object.__setattr__")))
    (mk_R : PySem.W.makesIn K C_R = true)
    (kC_R : PySem.W.keepIn K (.ref C_R) = true)
    (i_m_R_init : PySem.W.findIn K (.ref C_R) "__init__" = some (some (.ref f_m_R_init)))
    (fn_m_R_init : PySem.W.isFn K (.ref f_m_R_init) = true)
    (l_m_R_init : K.lookup f_m_R_init = some ⟨oc_m_R_init, od_m_R_init, .func (PySem.W.fnOf "__init__" "Rule.__init__" (defArgs sRInit) (defBody sRInit) (defScope sRInit) .none kV_m_R_init dc_m_R_init pm_m_R_init an_m_R_init cd_m_R_init ct_m_R_init), sl_m_R_init⟩)
    (c_m_R_init : PySem.W.codeIn K cd_m_R_init "Rule.__init__" = true)
    (k_m_R_init : PySem.W.keepIn K (.ref f_m_R_init) = true)
    (i_m_R_rows : PySem.W.findIn K (.ref C_R) "rows" = some (some (.ref f_m_R_rows)))
    (fn_m_R_rows : PySem.W.isFn K (.ref f_m_R_rows) = true)
    (l_m_R_rows : K.lookup f_m_R_rows = some ⟨oc_m_R_rows, od_m_R_rows, .func (PySem.W.fnOf "rows" "Rule.rows" (defArgs sRRows) (defBody sRRows) (defScope sRRows) .none kV_m_R_rows dc_m_R_rows pm_m_R_rows an_m_R_rows cd_m_R_rows ct_m_R_rows), sl_m_R_rows⟩)
    (c_m_R_rows : PySem.W.codeIn K cd_m_R_rows "Rule.rows" = true)
    (k_m_R_rows : PySem.W.keepIn K (.ref f_m_R_rows) = true)
    (i_m_R_worlds : PySem.W.findIn K (.ref C_R) "worlds" = some (some (.ref f_m_R_worlds)))
    (fn_m_R_worlds : PySem.W.isFn K (.ref f_m_R_worlds) = true)
    (l_m_R_worlds : K.lookup f_m_R_worlds = some ⟨oc_m_R_worlds, od_m_R_worlds, .func (PySem.W.fnOf "worlds" "Rule.worlds" (defArgs sRWorlds) (defBody sRWorlds) (defScope sRWorlds) .none kV_m_R_worlds dc_m_R_worlds pm_m_R_worlds an_m_R_worlds cd_m_R_worlds ct_m_R_worlds), sl_m_R_worlds⟩)
    (c_m_R_worlds : PySem.W.codeIn K cd_m_R_worlds "Rule.worlds" = true)
    (k_m_R_worlds : PySem.W.keepIn K (.ref f_m_R_worlds) = true)
    (i_m_R_len : PySem.W.findIn K (.ref C_R) "__len__" = some (some (.ref f_m_R_len)))
    (fn_m_R_len : PySem.W.isFn K (.ref f_m_R_len) = true)
    (l_m_R_len : K.lookup f_m_R_len = some ⟨oc_m_R_len, od_m_R_len, .func (PySem.W.fnOf "__len__" "Rule.__len__" (defArgs sRLen) (defBody sRLen) (defScope sRLen) .none kV_m_R_len dc_m_R_len pm_m_R_len an_m_R_len cd_m_R_len ct_m_R_len), sl_m_R_len⟩)
    (c_m_R_len : PySem.W.codeIn K cd_m_R_len "Rule.__len__" = true)
    (k_m_R_len : PySem.W.keepIn K (.ref f_m_R_len) = true)
    (no_own : PySem.W.findIn K (.ref C_R) "own_rows" = some none)
    (g5_ : PySem.W.nsIn K mainGlobals "MOST_WORLDS" = some (some (.int 5 tk5)))
    (g30_ : PySem.W.nsIn K mainGlobals "MOST_WORDS" = some (some (.int 30 tk30)))
    (z_abs : PySem.W.nsIn K mainGlobals "abs" = some none)
    (z_isinstance : PySem.W.nsIn K mainGlobals "isinstance" = some none)
    (z_int : PySem.W.nsIn K mainGlobals "int" = some none)
    (z_bool : PySem.W.nsIn K mainGlobals "bool" = some none)
    (z_tuple : PySem.W.nsIn K mainGlobals "tuple" = some none)
    (z_list : PySem.W.nsIn K mainGlobals "list" = some none)
    (z_len : PySem.W.nsIn K mainGlobals "len" = some none)
    (z_range : PySem.W.nsIn K mainGlobals "range" = some none)
    (z_str : PySem.W.nsIn K mainGlobals "str" = some none)
    (z_repr : PySem.W.nsIn K mainGlobals "repr" = some none)
    (z_sum : PySem.W.nsIn K mainGlobals "sum" = some none)
    (z_all : PySem.W.nsIn K mainGlobals "all" = some none)
    (z_any : PySem.W.nsIn K mainGlobals "any" = some none)
    (z_enumerate : PySem.W.nsIn K mainGlobals "enumerate" = some none)
    (z_zip : PySem.W.nsIn K mainGlobals "zip" = some none)
    (z_min : PySem.W.nsIn K mainGlobals "min" = some none)
    (z_max : PySem.W.nsIn K mainGlobals "max" = some none)
    (z_sorted : PySem.W.nsIn K mainGlobals "sorted" = some none)
    (z_ValueError : PySem.W.nsIn K mainGlobals "ValueError" = some none)
    (z_ZeroDivisionError : PySem.W.nsIn K mainGlobals "ZeroDivisionError" = some none)
    (z_OverflowError : PySem.W.nsIn K mainGlobals "OverflowError" = some none)
    (z_IndexError : PySem.W.nsIn K mainGlobals "IndexError" = some none)
    (z_LookupError : PySem.W.nsIn K mainGlobals "LookupError" = some none)
    (z_ArithmeticError : PySem.W.nsIn K mainGlobals "ArithmeticError" = some none)
    (z_KeyError : PySem.W.nsIn K mainGlobals "KeyError" = some none)
    (z_RuntimeError : PySem.W.nsIn K mainGlobals "RuntimeError" = some none) :
    ∃ fd : FuncData, (∀ (s : Shared) (v : Value), BindsTo s fd ⟨[v], []⟩ [("_law_script", v)]) ∧ ∀ base : Heap, K.In base → base.Ns mainGlobals mg → FnOkG l.prog w K mg base CX0 12 fa fd ["_law_script"] (spLaw K) := by
  have e := hfa.symm.trans (PySem.W.mg_of X G a_d_law)
  cases e
  have B : Blt mg := ⟨PySem.W.mg_none_of X G z_abs, PySem.W.mg_none_of X G z_isinstance, PySem.W.mg_none_of X G z_int, PySem.W.mg_none_of X G z_bool, PySem.W.mg_none_of X G z_tuple, PySem.W.mg_none_of X G z_list, PySem.W.mg_none_of X G z_len, PySem.W.mg_none_of X G z_range, PySem.W.mg_none_of X G z_str, PySem.W.mg_none_of X G z_repr, PySem.W.mg_none_of X G z_sum, PySem.W.mg_none_of X G z_all, PySem.W.mg_none_of X G z_any, PySem.W.mg_none_of X G z_enumerate, PySem.W.mg_none_of X G z_zip, PySem.W.mg_none_of X G z_min, PySem.W.mg_none_of X G z_max, PySem.W.mg_none_of X G z_sorted, PySem.W.mg_none_of X G z_ValueError, PySem.W.mg_none_of X G z_ZeroDivisionError, PySem.W.mg_none_of X G z_OverflowError, PySem.W.mg_none_of X G z_IndexError, PySem.W.mg_none_of X G z_LookupError, PySem.W.mg_none_of X G z_ArithmeticError, PySem.W.mg_none_of X G z_KeyError, PySem.W.mg_none_of X G z_RuntimeError⟩
  have ex_N : ExcC K C_N := ⟨ga_N, gg_N, eC_N, hd_N, cl_N, sp_, tk_, mo_N⟩
  have xf_N : XfC K C_N := ⟨ga_N, gg_N, eC_N, hd_N⟩
  have gC_N := PySem.W.mg_of X G aC_N
  have oex_N : OexC K C_N := ⟨⟨nm_N, q_N, N_N, bs_N, _, sn_N, su_N, ab_N, co_N, dd_N, m0_N, m1_N, m2_N, m3_N, m5_N, xC_N, by decide +kernel⟩, sa_N, eC_N, tC_N, kC_N⟩
  have exc_N : ExC K C_N "ValueError.__new__" [.type "ValueError", .type "Exception", .type "BaseException", .type "object"] := ⟨⟨nm_N, q_N, N_N, bs_N, sn_N, su_N, ab_N, co_N, dd_N, m0_N, m1_N, m2_N, m3_N, m5_N, xC_N⟩, eC_N, tC_N, kC_N⟩
  have F_i_N := fun_mk (st := sNnInit) l_i_N c_i_N k_i_N
  have b_i_N := F_i_N.binds (ps := ["self", "number"]) fun _ _ _ _ _ _ us hl => match us, hl with | [_, _], _ => rfl
  have ex_G : ExcC K C_G := ⟨ga_G, gg_G, eC_G, hd_G, cl_G, sp_, tk_, mo_G⟩
  have xf_G : XfC K C_G := ⟨ga_G, gg_G, eC_G, hd_G⟩
  have gC_G := PySem.W.mg_of X G aC_G
  have oex_G : OexC K C_G := ⟨⟨nm_G, q_G, N_G, bs_G, _, sn_G, su_G, ab_G, co_G, dd_G, m0_G, m1_G, m2_G, m3_G, m5_G, xC_G, by decide +kernel⟩, sa_G, eC_G, tC_G, kC_G⟩
  have exc_G : ExC K C_G "ValueError.__new__" [.type "ValueError", .type "Exception", .type "BaseException", .type "object"] := ⟨⟨nm_G, q_G, N_G, bs_G, sn_G, su_G, ab_G, co_G, dd_G, m0_G, m1_G, m2_G, m3_G, m5_G, xC_G⟩, eC_G, tC_G, kC_G⟩
  have F_i_G := fun_mk (st := sNgInit) l_i_G c_i_G k_i_G
  have b_i_G := F_i_G.binds (ps := ["self", "word"]) fun _ _ _ _ _ _ us hl => match us, hl with | [_, _], _ => rfl
  have ex_U : ExcC K C_U := ⟨ga_U, gg_U, eC_U, hd_U, cl_U, sp_, tk_, mo_U⟩
  have xf_U : XfC K C_U := ⟨ga_U, gg_U, eC_U, hd_U⟩
  have gC_U := PySem.W.mg_of X G aC_U
  have oex_U : OexC K C_U := ⟨⟨nm_U, q_U, N_U, bs_U, _, sn_U, su_U, ab_U, co_U, dd_U, m0_U, m1_U, m2_U, m3_U, m5_U, xC_U, by decide +kernel⟩, sa_U, eC_U, tC_U, kC_U⟩
  have exc_U : ExC K C_U "ValueError.__new__" [.type "ValueError", .type "Exception", .type "BaseException", .type "object"] := ⟨⟨nm_U, q_U, N_U, bs_U, sn_U, su_U, ab_U, co_U, dd_U, m0_U, m1_U, m2_U, m3_U, m5_U, xC_U⟩, eC_U, tC_U, kC_U⟩
  have F_i_U := fun_mk (st := sUnInit) l_i_U c_i_U k_i_U
  have b_i_U := F_i_U.binds (ps := ["self", "one", "other"]) fun _ _ _ _ _ _ us hl => match us, hl with | [_, _, _], _ => rfl
  have ex_M : ExcC K C_M := ⟨ga_M, gg_M, eC_M, hd_M, cl_M, sp_, tk_, mo_M⟩
  have xf_M : XfC K C_M := ⟨ga_M, gg_M, eC_M, hd_M⟩
  have gC_M := PySem.W.mg_of X G aC_M
  have exc_M : ExC K C_M "OverflowError.__new__" [.type "OverflowError", .type "ArithmeticError", .type "Exception", .type "BaseException", .type "object"] := ⟨⟨nm_M, q_M, N_M, bs_M, sn_M, su_M, ab_M, co_M, dd_M, m0_M, m1_M, m2_M, m3_M, m5_M, xC_M⟩, eC_M, tC_M, kC_M⟩
  have F_i_M := fun_mk (st := sTmInit) l_i_M c_i_M k_i_M
  have b_i_M := F_i_M.binds (ps := ["self", "many"]) fun _ _ _ _ _ _ us hl => match us, hl with | [_, _], _ => rfl
  have em_N_N := PySem.W.exm_ref eC_N hd_N tC_N sb_N_N
  have em_U_N := PySem.W.exm_ref eC_N hd_N tC_N sb_U_N
  have em_U_U := PySem.W.exm_ref eC_U hd_U tC_U sb_U_U
  have em_M_N := PySem.W.exm_ref eC_N hd_N tC_N sb_M_N
  have em_M_U := PySem.W.exm_ref eC_U hd_U tC_U sb_M_U
  have em_M_M := PySem.W.exm_ref eC_M hd_M tC_M sb_M_M
  have em_G_N := PySem.W.exm_ref eC_N hd_N tC_N sb_G_N
  have em_G_U := PySem.W.exm_ref eC_U hd_U tC_U sb_G_U
  have em_G_M := PySem.W.exm_ref eC_M hd_M tC_M sb_G_M
  have em_G_G := PySem.W.exm_ref eC_G hd_G tC_G sb_G_G
  have F_d_is_whole := fun_mk (st := sWhole) l_d_is_whole c_d_is_whole k_d_is_whole
  have b_d_is_whole := F_d_is_whole.binds (ps := ["thing"]) fun _ _ _ _ _ _ us hl => match us, hl with | [_], _ => rfl
  have g_d_is_whole := PySem.W.mg_of X G a_d_is_whole
  have F_d_is_whole_within := fun_mk (st := sWithin) l_d_is_whole_within c_d_is_whole_within k_d_is_whole_within
  have b_d_is_whole_within := F_d_is_whole_within.binds (ps := ["thing", "least", "most"]) fun _ _ _ _ _ _ us hl => match us, hl with | [_, _, _], _ => rfl
  have g_d_is_whole_within := PySem.W.mg_of X G a_d_is_whole_within
  have F_d_is_ratio := fun_mk (st := sIsR) l_d_is_ratio c_d_is_ratio k_d_is_ratio
  have b_d_is_ratio := F_d_is_ratio.binds (ps := ["thing"]) fun _ _ _ _ _ _ us hl => match us, hl with | [_], _ => rfl
  have g_d_is_ratio := PySem.W.mg_of X G a_d_is_ratio
  have F_d_plus := fun_mk (st := sPlus) l_d_plus c_d_plus k_d_plus
  have b_d_plus := F_d_plus.binds (ps := ["one", "other"]) fun _ _ _ _ _ _ us hl => match us, hl with | [_, _], _ => rfl
  have g_d_plus := PySem.W.mg_of X G a_d_plus
  have F_d_times := fun_mk (st := sTimes) l_d_times c_d_times k_d_times
  have b_d_times := F_d_times.binds (ps := ["one", "other"]) fun _ _ _ _ _ _ us hl => match us, hl with | [_, _], _ => rfl
  have g_d_times := PySem.W.mg_of X G a_d_times
  have F_d_lowest := fun_mk (st := sLowest) l_d_lowest c_d_lowest k_d_lowest
  have b_d_lowest := F_d_lowest.binds (ps := ["top", "bottom"]) fun _ _ _ _ _ _ us hl => match us, hl with | [_, _], _ => rfl
  have g_d_lowest := PySem.W.mg_of X G a_d_lowest
  have F_d_divisor := fun_mk (st := sDiv) l_d_divisor c_d_divisor k_d_divisor
  have b_d_divisor := F_d_divisor.binds (ps := ["one", "other"]) fun _ _ _ _ _ _ us hl => match us, hl with | [_, _], _ => rfl
  have g_d_divisor := PySem.W.mg_of X G a_d_divisor
  have F_d_is_list_of := fun_mk (st := sListOf) l_d_is_list_of c_d_is_list_of k_d_is_list_of
  have b_d_is_list_of := F_d_is_list_of.binds (ps := ["thing", "least", "most"]) fun _ _ _ _ _ _ us hl => match us, hl with | [_, _, _], _ => rfl
  have g_d_is_list_of := PySem.W.mg_of X G a_d_is_list_of
  have F_d_is_share := fun_mk (st := sShare) l_d_is_share c_d_is_share k_d_is_share
  have b_d_is_share := F_d_is_share.binds (ps := ["thing"]) fun _ _ _ _ _ _ us hl => match us, hl with | [_], _ => rfl
  have g_d_is_share := PySem.W.mg_of X G a_d_is_share
  have F_d_is_share_row := fun_mk (st := sShRow) l_d_is_share_row c_d_is_share_row k_d_is_share_row
  have b_d_is_share_row := F_d_is_share_row.binds (ps := ["thing", "least", "most"]) fun _ _ _ _ _ _ us hl => match us, hl with | [_, _, _], _ => rfl
  have g_d_is_share_row := PySem.W.mg_of X G a_d_is_share_row
  have F_d_wrong_row := fun_mk (st := sWrong) l_d_wrong_row c_d_wrong_row k_d_wrong_row
  have b_d_wrong_row := F_d_wrong_row.binds (ps := ["rows", "is_row", "least", "most"]) fun _ _ _ _ _ _ us hl => match us, hl with | [_, _, _, _], _ => rfl
  have g_d_wrong_row := PySem.W.mg_of X G a_d_wrong_row
  have F_d_copied_rows := fun_mk (st := sCopied) l_d_copied_rows c_d_copied_rows k_d_copied_rows
  have b_d_copied_rows := F_d_copied_rows.binds (ps := ["rows"]) fun _ _ _ _ _ _ us hl => match us, hl with | [_], _ => rfl
  have g_d_copied_rows := PySem.W.mg_of X G a_d_copied_rows
  have F_d_silence := fun_mk (st := sSilence) l_d_silence c_d_silence k_d_silence
  have b_d_silence := F_d_silence.binds (ps := ["worlds"]) fun _ _ _ _ _ _ us hl => match us, hl with | [_], _ => rfl
  have g_d_silence := PySem.W.mg_of X G a_d_silence
  have F_d_all_told := fun_mk (st := sAllTold) l_d_all_told c_d_all_told k_d_all_told
  have b_d_all_told := F_d_all_told.binds (ps := ["worlds"]) fun _ _ _ _ _ _ us hl => match us, hl with | [_], _ => rfl
  have g_d_all_told := PySem.W.mg_of X G a_d_all_told
  have F_d_beside := fun_mk (st := sBeside) l_d_beside c_d_beside k_d_beside
  have b_d_beside := F_d_beside.binds (ps := ["one", "other"]) fun _ _ _ _ _ _ us hl => match us, hl with | [_, _], _ => rfl
  have g_d_beside := PySem.W.mg_of X G a_d_beside
  have F_d_grouped := fun_mk (st := sGrouped) l_d_grouped c_d_grouped k_d_grouped
  have b_d_grouped := F_d_grouped.binds (ps := ["rule", "groups", "many"]) fun _ _ _ _ _ _ us hl => match us, hl with | [_, _, _], _ => rfl
  have g_d_grouped := PySem.W.mg_of X G a_d_grouped
  have F_d_check_worlds := fun_mk (st := sChkW) l_d_check_worlds c_d_check_worlds k_d_check_worlds
  have b_d_check_worlds := F_d_check_worlds.binds (ps := ["worlds"]) fun _ _ _ _ _ _ us hl => match us, hl with | [_], _ => rfl
  have g_d_check_worlds := PySem.W.mg_of X G a_d_check_worlds
  have F_d_check_groups := fun_mk (st := sChkG) l_d_check_groups c_d_check_groups k_d_check_groups
  have b_d_check_groups := F_d_check_groups.binds (ps := ["groups", "words", "many"]) fun _ _ _ _ _ _ us hl => match us, hl with | [_, _, _], _ => rfl
  have g_d_check_groups := PySem.W.mg_of X G a_d_check_groups
  have F_d_told_row := fun_mk (st := sToldRow) l_d_told_row c_d_told_row k_d_told_row
  have b_d_told_row := F_d_told_row.binds (ps := ["world", "worlds"]) fun _ _ _ _ _ _ us hl => match us, hl with | [_, _], _ => rfl
  have g_d_told_row := PySem.W.mg_of X G a_d_told_row
  have F_d_row_beside := fun_mk (st := sRowB) l_d_row_beside c_d_row_beside k_d_row_beside
  have b_d_row_beside := F_d_row_beside.binds (ps := ["row", "second"]) fun _ _ _ _ _ _ us hl => match us, hl with | [_, _], _ => rfl
  have g_d_row_beside := PySem.W.mg_of X G a_d_row_beside
  have F_d_grouped_row := fun_mk (st := sGrpRow) l_d_grouped_row c_d_grouped_row k_d_grouped_row
  have b_d_grouped_row := F_d_grouped_row.binds (ps := ["row", "groups", "many"]) fun _ _ _ _ _ _ us hl => match us, hl with | [_, _, _], _ => rfl
  have g_d_grouped_row := PySem.W.mg_of X G a_d_grouped_row
  have F_d_law_left := fun_mk (st := sLeft) l_d_law_left c_d_law_left k_d_law_left
  have b_d_law_left := F_d_law_left.binds (ps := ["_law_cell"]) fun _ _ _ _ _ _ us hl => match us, hl with | [_], _ => rfl
  have g_d_law_left := PySem.W.mg_of X G a_d_law_left
  have F_d_law_digit := fun_mk (st := sDigit) l_d_law_digit c_d_law_digit k_d_law_digit
  have b_d_law_digit := F_d_law_digit.binds (ps := ["_law_left_here", "_law_many"]) fun _ _ _ _ _ _ us hl => match us, hl with | [_, _], _ => rfl
  have g_d_law_digit := PySem.W.mg_of X G a_d_law_digit
  have F_d_law_low := fun_mk (st := sLow) l_d_law_low c_d_law_low k_d_law_low
  have b_d_law_low := F_d_law_low.binds (ps := ["_law_top", "_law_bottom"]) fun _ _ _ _ _ _ us hl => match us, hl with | [_, _], _ => rfl
  have g_d_law_low := PySem.W.mg_of X G a_d_law_low
  have F_d_law_shares := fun_mk (st := sShares) l_d_law_shares c_d_law_shares k_d_law_shares
  have b_d_law_shares := F_d_law_shares.binds (ps := ["_law_left_here", "_law_many"]) fun _ _ _ _ _ _ us hl => match us, hl with | [_, _], _ => rfl
  have g_d_law_shares := PySem.W.mg_of X G a_d_law_shares
  have F_d_law_rows := fun_mk (st := sRows) l_d_law_rows c_d_law_rows k_d_law_rows
  have b_d_law_rows := F_d_law_rows.binds (ps := ["_law_left_here", "_law_worlds", "_law_upto"]) fun _ _ _ _ _ _ us hl => match us, hl with | [_, _, _], _ => rfl
  have g_d_law_rows := PySem.W.mg_of X G a_d_law_rows
  have F_d_law_told := fun_mk (st := sTold) l_d_law_told c_d_law_told k_d_law_told
  have b_d_law_told := F_d_law_told.binds (ps := ["_law_way", "_law_one", "_law_other", "_law_third"]) fun _ _ _ _ _ _ us hl => match us, hl with | [_, _, _, _], _ => rfl
  have g_d_law_told := PySem.W.mg_of X G a_d_law_told
  have F_d_law_number_due := fun_mk (st := sNumDue) l_d_law_number_due c_d_law_number_due k_d_law_number_due
  have b_d_law_number_due := F_d_law_number_due.binds (ps := ["_law_thing", "_law_upto"]) fun _ _ _ _ _ _ us hl => match us, hl with | [_, _], _ => rfl
  have g_d_law_number_due := PySem.W.mg_of X G a_d_law_number_due
  have F_d_law_groups_due := fun_mk (st := sGrpDue) l_d_law_groups_due c_d_law_groups_due k_d_law_groups_due
  have b_d_law_groups_due := F_d_law_groups_due.binds (ps := ["_law_groups", "_law_words", "_law_many"]) fun _ _ _ _ _ _ us hl => match us, hl with | [_, _, _], _ => rfl
  have g_d_law_groups_due := PySem.W.mg_of X G a_d_law_groups_due
  have F_d_law_odd := fun_mk (st := sOdd) l_d_law_odd c_d_law_odd k_d_law_odd
  have b_d_law_odd := F_d_law_odd.binds (ps := ["_law_left_here", "_law_upto"]) fun _ _ _ _ _ _ us hl => match us, hl with | [_, _], _ => rfl
  have g_d_law_odd := PySem.W.mg_of X G a_d_law_odd
  have F_d_law := fun_mk (st := sLaw) l_d_law c_d_law k_d_law
  have g_d_law := PySem.W.mg_of X G a_d_law
  have g_d_total := PySem.W.mg_of X G a_d_total
  have FM : FunD K "total" "total" (defArgs sTotal) (defBody sTotal) (defScope sTotal) [V.non] [] f_d_total (PySem.W.fnOf "total" "total" (defArgs sTotal) (defBody sTotal) (defScope sTotal) (.ref T_d_total) kV_d_total dc_d_total pm_d_total an_d_total cd_d_total ct_d_total) := ⟨⟨_, _, _, _, _, _, _, _, _, _, rfl, l_d_total, c_d_total, .inr ⟨by simp, T_d_total, oT_d_total, [Value.none], nT_d_total, rfl, t_d_total, e_d_total, .cons rfl .nil⟩, .inl rfl⟩, k_d_total⟩
  have bM1 := FM.binds1 (ps := ["some", "start"]) 1 0 (by simp) rfl fun T kV doc pm an cdv ct us its hl hi => match us, its, hl, hi with | [_], [_], _, _ => ⟨_, rfl, rfl⟩
  have cl_R : Cls K C_R := ⟨pg_R, hd_R, po_R, sa_R⟩
  have gC_R := PySem.W.mg_of X G aC_R
  have F_m_R_init := fun_mk (st := sRInit) l_m_R_init c_m_R_init k_m_R_init
  have b_m_R_init := F_m_R_init.binds (ps := ["self", "rows"]) fun _ _ _ _ _ _ us hl => match us, hl with | [_, _], _ => rfl
  have F_m_R_rows := fun_mk (st := sRRows) l_m_R_rows c_m_R_rows k_m_R_rows
  have b_m_R_rows := F_m_R_rows.binds (ps := ["self"]) fun _ _ _ _ _ _ us hl => match us, hl with | [_], _ => rfl
  have F_m_R_worlds := fun_mk (st := sRWorlds) l_m_R_worlds c_m_R_worlds k_m_R_worlds
  have b_m_R_worlds := F_m_R_worlds.binds (ps := ["self"]) fun _ _ _ _ _ _ us hl => match us, hl with | [_], _ => rfl
  have F_m_R_len := fun_mk (st := sRLen) l_m_R_len c_m_R_len k_m_R_len
  have b_m_R_len := F_m_R_len.binds (ps := ["self"]) fun _ _ _ _ _ _ us hl => match us, hl with | [_], _ => rfl
  have R0 : RuT K mg C_R f_m_R_init f_m_R_rows f_m_R_worlds f_m_R_len f_m_R_init := ⟨cl_R, gC_R, no_own, ⟨mk_R, i_m_R_init, fn_m_R_init, kC_R⟩, ⟨i_m_R_rows, fn_m_R_rows, k_m_R_rows⟩, ⟨i_m_R_worlds, fn_m_R_worlds, k_m_R_worlds⟩, i_m_R_len, fn_m_R_len, ⟨_, PySem.W.mg_of X G g5_⟩, ⟨_, PySem.W.mg_of X G g30_⟩⟩
  have T0 : ErT K mg C_N f_i_N C_G f_i_G C_U f_i_U C_M f_i_M := ⟨⟨gC_N, i_i_N, ty_i_N, xf_N, ex_N⟩, oex_N, no_N_number, ⟨gC_G, i_i_G, ty_i_G, xf_G, ex_G⟩, oex_G, no_G_word, ⟨gC_U, i_i_U, ty_i_U, xf_U, ex_U⟩, oex_U, no_U_one, no_U_other, ⟨gC_M, i_i_M, ty_i_M, xf_M, ex_M⟩, ⟨exc_M, sa_M⟩, no_M_many, vV_N, vV_M, em_N_N, em_U_N, em_U_U, em_M_N, em_M_U, em_M_M, em_G_N, em_G_U, em_G_M, em_G_G, kt_N_ValueError, kt_M_OverflowError, kt_G_ValueError⟩
  refine ⟨PySem.W.fnOf "law" "law" (defArgs sLaw) (defBody sLaw) (defScope sLaw) .none kV_d_law dc_d_law pm_d_law an_d_law cd_d_law ct_d_law, fun s v => .of_eq rfl, fun base _ _ => ?_⟩
  have G_d_divisor : FnOk l.prog w K mg base CX0 1 f_d_divisor _ ["one", "other"] spDiv := ok_div F_d_divisor  B
  have G_d_lowest : FnOk l.prog w K mg base CX0 2 f_d_lowest _ ["top", "bottom"] spLow := ok_lowest F_d_lowest (G_d_divisor.mono (by decide)) k_d_divisor b_d_divisor g_d_divisor
  have G_d_plus : FnOk l.prog w K mg base CX0 3 f_d_plus _ ["one", "other"] (spBin K (· + ·)) := ok_Plus F_d_plus (G_d_lowest.mono (by decide)) k_d_lowest b_d_lowest g_d_lowest
  have G_d_times : FnOk l.prog w K mg base CX0 3 f_d_times _ ["one", "other"] (spBin K (· * ·)) := ok_Times F_d_times (G_d_lowest.mono (by decide)) k_d_lowest b_d_lowest g_d_lowest
  have G_d_is_whole : FnOk l.prog w K mg base CX0 1 f_d_is_whole _ ["thing"] spWholeI := ok_Whole F_d_is_whole  B
  have GT_d_is_whole : FnOk l.prog w K mg base CX0 1 f_d_is_whole _ ["thing"] (spWholeT K) := ok_WholeT F_d_is_whole  B
  have GT_d_is_whole_within : FnOk l.prog w K mg base CX0 2 f_d_is_whole_within _ ["thing", "least", "most"] (spWithinT K) := ok_WithinT F_d_is_whole_within (GT_d_is_whole.mono (by decide)) k_d_is_whole b_d_is_whole g_d_is_whole
  have G_d_is_ratio : FnOk l.prog w K mg base CX0 2 f_d_is_ratio _ ["thing"] (spIsR K) := ok_IsR F_d_is_ratio (G_d_is_whole.mono (by decide)) k_d_is_whole b_d_is_whole g_d_is_whole (G_d_divisor.mono (by decide)) k_d_divisor b_d_divisor g_d_divisor B
  have G_d_is_list_of : FnOk l.prog w K mg base CX0 1 f_d_is_list_of _ ["thing", "least", "most"] (spListOf K) := ok_ListOf F_d_is_list_of  B
  have GT_d_is_list_of : FnOk l.prog w K mg base CX0 1 f_d_is_list_of _ ["thing", "least", "most"] (spListOfT K) := ok_ListOfT F_d_is_list_of  B
  have G_d_is_share : FnOk l.prog w K mg base CX0 3 f_d_is_share _ ["thing"] (spShare K) := ok_Share F_d_is_share (G_d_is_ratio.mono (by decide)) k_d_is_ratio b_d_is_ratio g_d_is_ratio
  have G_d_total : FnOk l.prog w K mg base CX0 4 f_d_total _ ["some", "start"] (spTotal K) := ok_Total FM (G_d_plus.mono (by decide)) k_d_plus b_d_plus g_d_plus
  have G_d_is_share_row : FnOk l.prog w K mg base CX0 5 f_d_is_share_row _ ["thing", "least", "most"] (spShRow K) := ok_ShRow F_d_is_share_row (G_d_is_list_of.mono (by decide)) k_d_is_list_of b_d_is_list_of g_d_is_list_of (G_d_is_share.mono (by decide)) k_d_is_share b_d_is_share g_d_is_share (G_d_total.mono (by decide)) k_d_total bM1 g_d_total B
  have G_d_wrong_row : FnOk l.prog w K mg base CX0 6 f_d_wrong_row _ ["rows", "is_row", "least", "most"] (spWrong K f_d_is_share_row) := ok_Wrong F_d_wrong_row (G_d_is_share_row.mono (by decide)) k_d_is_share_row b_d_is_share_row  B
  have G_d_copied_rows : FnOk l.prog w K mg base CX0 1 f_d_copied_rows _ ["rows"] (spCopied K) := ok_Copied F_d_copied_rows  B
  have G_m_R_init : FnOk l.prog w K mg base CX0 7 f_m_R_init _ ["self", "rows"] (spInit K C_R) := ok_RInit F_m_R_init R0 (G_d_is_list_of.mono (by decide)) k_d_is_list_of b_d_is_list_of g_d_is_list_of (G_d_wrong_row.mono (by decide)) k_d_wrong_row b_d_wrong_row g_d_wrong_row g_d_is_share_row (G_d_copied_rows.mono (by decide)) k_d_copied_rows b_d_copied_rows g_d_copied_rows
  have G_m_R_rows : FnOk l.prog w K mg base CX0 2 f_m_R_rows _ ["self"] (spRRows K C_R) := ok_RRows F_m_R_rows R0 (G_d_copied_rows.mono (by decide)) k_d_copied_rows b_d_copied_rows g_d_copied_rows B
  have G_m_R_worlds : FnOk l.prog w K mg base CX0 1 f_m_R_worlds _ ["self"] (spRWorlds K C_R) := ok_RWorlds F_m_R_worlds R0 B
  have G_m_R_len : FnOk l.prog w K mg base CX0 1 f_m_R_len _ ["self"] (spRLen K C_R) := ok_RLen F_m_R_len R0 B
  have RD : ∀ k, 7 ≤ k → RuD l.prog w K mg base C_R f_m_R_init f_m_R_rows f_m_R_worlds f_m_R_len f_m_R_init k := fun k hk => ⟨R0, ⟨_, G_m_R_init.mono hk, b_m_R_init⟩, ⟨_, G_m_R_rows.mono (by omega), b_m_R_rows⟩, ⟨_, G_m_R_worlds.mono (by omega), b_m_R_worlds⟩, ⟨_, G_m_R_len.mono (by omega), b_m_R_len⟩⟩
  have G_i_N : FnOk l.prog w K mg base CX0 1 f_i_N _ ["self", "number"] (spE1 C_N "number") := ok_NnInit F_i_N T0 B
  have G_i_G : FnOk l.prog w K mg base CX0 1 f_i_G _ ["self", "word"] (spE1 C_G "word") := ok_NgInit F_i_G T0 B
  have G_i_U : FnOk l.prog w K mg base CX0 1 f_i_U _ ["self", "one", "other"] (spE2 C_U "one" "other") := ok_UnInit F_i_U T0 B
  have G_i_M : FnOk l.prog w K mg base CX0 1 f_i_M _ ["self", "many"] (spE1 C_M "many") := ok_TmInit F_i_M T0 B
  have G_d_check_worlds : FnOk l.prog w K mg base (L2.CX l.prog w) 4 f_d_check_worlds _ ["worlds"] (spChkW K C_N) := ok_ChkW F_d_check_worlds R0 T0 (G_i_N.mono (by decide)) b_i_N (GT_d_is_whole_within.mono (by decide)) k_d_is_whole_within b_d_is_whole_within g_d_is_whole_within
  have G_d_told_row : FnOk l.prog w K mg base CX0 1 f_d_told_row _ ["world", "worlds"] (spToldRow K) := ok_ToldRow F_d_told_row  B
  have G_d_silence : FnOk l.prog w K mg base (L2.CX l.prog w) 9 f_d_silence _ ["worlds"] (spSil K C_N) := ok_Silence F_d_silence (RD 7 (by decide)) (G_d_check_worlds.mono (by decide)) k_d_check_worlds b_d_check_worlds g_d_check_worlds B
  have G_d_all_told : FnOk l.prog w K mg base (L2.CX l.prog w) 9 f_d_all_told _ ["worlds"] (spSil K C_N) := ok_AllTold F_d_all_told (RD 7 (by decide)) (G_d_check_worlds.mono (by decide)) k_d_check_worlds b_d_check_worlds g_d_check_worlds (G_d_told_row.mono (by decide)) k_d_told_row b_d_told_row g_d_told_row B
  have G_d_row_beside : FnOk l.prog w K mg base CX0 4 f_d_row_beside _ ["row", "second"] (spRowB K) := ok_RowB F_d_row_beside (G_d_times.mono (by decide)) k_d_times b_d_times g_d_times
  have G_d_beside : FnOk l.prog w K mg base (L2.CX l.prog w) 9 f_d_beside _ ["one", "other"] (spBes K C_R C_U C_M) := ok_Beside F_d_beside (RD 7 (by decide)) T0 (G_i_U.mono (by decide)) b_i_U (G_i_M.mono (by decide)) b_i_M (G_d_row_beside.mono (by decide)) k_d_row_beside b_d_row_beside g_d_row_beside B
  have G_d_check_groups : FnOk l.prog w K mg base (L2.CX l.prog w) 4 f_d_check_groups _ ["groups", "words", "many"] (spChkGT K C_G) := ok_ChkG F_d_check_groups T0 (G_i_G.mono (by decide)) b_i_G (GT_d_is_list_of.mono (by decide)) k_d_is_list_of b_d_is_list_of g_d_is_list_of (GT_d_is_whole_within.mono (by decide)) k_d_is_whole_within b_d_is_whole_within g_d_is_whole_within B
  have G_d_grouped_row : FnOk l.prog w K mg base CX0 4 f_d_grouped_row _ ["row", "groups", "many"] (spGrpRow K) := ok_GrpRow F_d_grouped_row (G_d_plus.mono (by decide)) k_d_plus b_d_plus g_d_plus B
  have G_d_grouped : FnOk l.prog w K mg base (L2.CX l.prog w) 9 f_d_grouped _ ["rule", "groups", "many"] (spGrd K C_R C_N C_G) := ok_Grouped F_d_grouped (RD 7 (by decide)) T0 (G_i_N.mono (by decide)) b_i_N (G_d_grouped_row.mono (by decide)) k_d_grouped_row b_d_grouped_row g_d_grouped_row (GT_d_is_whole_within.mono (by decide)) k_d_is_whole_within b_d_is_whole_within g_d_is_whole_within (G_d_check_groups.mono (by decide)) k_d_check_groups b_d_check_groups g_d_check_groups B
  have G_d_law_left : FnOk l.prog w K mg base CX0 1 f_d_law_left _ ["_law_cell"] spLeft := ok_left F_d_law_left  B
  have G_d_law_digit : FnOk l.prog w K mg base CX0 1 f_d_law_digit _ ["_law_left_here", "_law_many"] spDigit := ok_digit F_d_law_digit 
  have G_d_law_low : FnOk l.prog w K mg base CX0 1 f_d_law_low _ ["_law_top", "_law_bottom"] spLow := ok_low F_d_law_low  B
  have G_d_law_shares : FnOk l.prog w K mg base CX0 2 f_d_law_shares _ ["_law_left_here", "_law_many"] (spShares K) := ok_Shares F_d_law_shares (G_d_law_digit.mono (by decide)) k_d_law_digit b_d_law_digit g_d_law_digit (G_d_law_low.mono (by decide)) k_d_law_low b_d_law_low g_d_law_low B
  have G_d_law_rows : FnOk l.prog w K mg base CX0 3 f_d_law_rows _ ["_law_left_here", "_law_worlds", "_law_upto"] (spRowsL K) := ok_Rows F_d_law_rows (G_d_law_digit.mono (by decide)) k_d_law_digit b_d_law_digit g_d_law_digit (G_d_law_shares.mono (by decide)) k_d_law_shares b_d_law_shares g_d_law_shares B
  have G_d_law_told : FnOkG l.prog w K mg base CX0 10 f_d_law_told _ ["_law_way", "_law_one", "_law_other", "_law_third"] (spTold K C_R) := ok_Told F_d_law_told T0 (G_d_silence.mono (by decide)) k_d_silence b_d_silence g_d_silence (G_d_all_told.mono (by decide)) k_d_all_told b_d_all_told g_d_all_told (G_d_beside.mono (by decide)) k_d_beside b_d_beside g_d_beside (G_d_grouped.mono (by decide)) k_d_grouped b_d_grouped g_d_grouped B
  have G_d_law_number_due : FnOkG l.prog w K mg base CX0 1 f_d_law_number_due _ ["_law_thing", "_law_upto"] (spNumDue K) := ok_NumDue F_d_law_number_due  B
  have G_d_law_groups_due : FnOk l.prog w K mg base CX0 1 f_d_law_groups_due _ ["_law_groups", "_law_words", "_law_many"] (spGrpDue K) := ok_GrpDue F_d_law_groups_due  B
  have G_d_law_odd : FnOk l.prog w K mg base CX0 2 f_d_law_odd _ ["_law_left_here", "_law_upto"] (spOdd K) := ok_Odd F_d_law_odd (G_d_law_digit.mono (by decide)) k_d_law_digit b_d_law_digit g_d_law_digit
  exact ok_law F_d_law ⟨RD 10 (by decide), ⟨_, _, G_d_law_left.mono (by decide), k_d_law_left, b_d_law_left, g_d_law_left⟩, ⟨_, _, G_d_law_digit.mono (by decide), k_d_law_digit, b_d_law_digit, g_d_law_digit⟩, ⟨_, _, G_d_law_rows.mono (by decide), k_d_law_rows, b_d_law_rows, g_d_law_rows⟩, ⟨_, _, G_d_law_told.mono (by decide), k_d_law_told, b_d_law_told, g_d_law_told⟩, ⟨_, _, G_d_law_number_due.mono (by decide), k_d_law_number_due, b_d_law_number_due, g_d_law_number_due⟩, ⟨_, _, G_d_law_groups_due.mono (by decide), k_d_law_groups_due, b_d_law_groups_due, g_d_law_groups_due⟩, ⟨_, _, G_d_law_odd.mono (by decide), k_d_law_odd, b_d_law_odd, g_d_law_odd⟩⟩ B
end K13
open PySem PySem.W PyProof.Rows
set_option maxRecDepth 100000 in
set_option maxHeartbeats 0 in
theorem PySem.Challenge.cw_besttelling_k13_putting_refused_holds : PySem.Challenge.rw_besttelling_k13_putting_refused.Holds := by
  w_on; o_law; k_head; (case hw => w_witness2)
  k_fill
  refine BX.walk_ofG (l := PySem.Challenge.rw_besttelling_k13_putting_refused) (n := 63) (k := 12) (x := "_law_script") (CX := fun _ => L2.CX0) (sp := fun w => K13.spLaw _) rfl (by decide) rfl ⟨rfl, by decide, by decide⟩ (fun w h Y => PySem.W.kIn_of Y) ?F (fun _ _ a ns hl _ hS => ⟨a, ns, rfl, hS, hl, fun _ => rfl⟩) (fun _ _ _ _ _ h => h)
  case F =>
    intro w mg fa h KX G hmg
    refine' K13.all_mk KX G hmg ?aC_N ?xC_N ?sa_N ?ga_N ?gg_N ?cl_N ?mo_N ?kC_N ?eC_N ?tC_N ?hd_N ?vV_N ?sp_ ?tk_ ?i_i_N ?ty_i_N ?l_i_N ?c_i_N ?k_i_N ?no_N_number ?aC_G ?xC_G ?sa_G ?ga_G ?gg_G ?cl_G ?mo_G ?kC_G ?eC_G ?tC_G ?hd_G ?vV_G ?i_i_G ?ty_i_G ?l_i_G ?c_i_G ?k_i_G ?no_G_word ?aC_U ?xC_U ?sa_U ?ga_U ?gg_U ?cl_U ?mo_U ?kC_U ?eC_U ?tC_U ?hd_U ?vV_U ?i_i_U ?ty_i_U ?l_i_U ?c_i_U ?k_i_U ?no_U_one ?no_U_other ?aC_M ?xC_M ?sa_M ?ga_M ?gg_M ?cl_M ?mo_M ?kC_M ?eC_M ?tC_M ?hd_M ?vV_M ?i_i_M ?ty_i_M ?l_i_M ?c_i_M ?k_i_M ?no_M_many ?sb_N_N ?sb_U_N ?sb_U_U ?sb_M_N ?sb_M_U ?sb_M_M ?sb_G_N ?sb_G_U ?sb_G_M ?sb_G_G ?kt_N_ValueError ?kt_M_OverflowError ?kt_G_ValueError ?a_d_is_whole ?l_d_is_whole ?c_d_is_whole ?k_d_is_whole ?a_d_is_whole_within ?l_d_is_whole_within ?c_d_is_whole_within ?k_d_is_whole_within ?a_d_is_ratio ?l_d_is_ratio ?c_d_is_ratio ?k_d_is_ratio ?a_d_plus ?l_d_plus ?c_d_plus ?k_d_plus ?a_d_times ?l_d_times ?c_d_times ?k_d_times ?a_d_lowest ?l_d_lowest ?c_d_lowest ?k_d_lowest ?a_d_divisor ?l_d_divisor ?c_d_divisor ?k_d_divisor ?a_d_is_list_of ?l_d_is_list_of ?c_d_is_list_of ?k_d_is_list_of ?a_d_is_share ?l_d_is_share ?c_d_is_share ?k_d_is_share ?a_d_is_share_row ?l_d_is_share_row ?c_d_is_share_row ?k_d_is_share_row ?a_d_wrong_row ?l_d_wrong_row ?c_d_wrong_row ?k_d_wrong_row ?a_d_copied_rows ?l_d_copied_rows ?c_d_copied_rows ?k_d_copied_rows ?a_d_silence ?l_d_silence ?c_d_silence ?k_d_silence ?a_d_all_told ?l_d_all_told ?c_d_all_told ?k_d_all_told ?a_d_beside ?l_d_beside ?c_d_beside ?k_d_beside ?a_d_grouped ?l_d_grouped ?c_d_grouped ?k_d_grouped ?a_d_check_worlds ?l_d_check_worlds ?c_d_check_worlds ?k_d_check_worlds ?a_d_check_groups ?l_d_check_groups ?c_d_check_groups ?k_d_check_groups ?a_d_told_row ?l_d_told_row ?c_d_told_row ?k_d_told_row ?a_d_row_beside ?l_d_row_beside ?c_d_row_beside ?k_d_row_beside ?a_d_grouped_row ?l_d_grouped_row ?c_d_grouped_row ?k_d_grouped_row ?a_d_law_left ?l_d_law_left ?c_d_law_left ?k_d_law_left ?a_d_law_digit ?l_d_law_digit ?c_d_law_digit ?k_d_law_digit ?a_d_law_low ?l_d_law_low ?c_d_law_low ?k_d_law_low ?a_d_law_shares ?l_d_law_shares ?c_d_law_shares ?k_d_law_shares ?a_d_law_rows ?l_d_law_rows ?c_d_law_rows ?k_d_law_rows ?a_d_law_told ?l_d_law_told ?c_d_law_told ?k_d_law_told ?a_d_law_number_due ?l_d_law_number_due ?c_d_law_number_due ?k_d_law_number_due ?a_d_law_groups_due ?l_d_law_groups_due ?c_d_law_groups_due ?k_d_law_groups_due ?a_d_law_odd ?l_d_law_odd ?c_d_law_odd ?k_d_law_odd ?a_d_law ?l_d_law ?c_d_law ?k_d_law ?a_d_total ?l_d_total ?c_d_total ?k_d_total ?t_d_total ?e_d_total ?aC_R ?pg_R ?hd_R ?po_R ?sa_R ?mk_R ?kC_R ?i_m_R_init ?fn_m_R_init ?l_m_R_init ?c_m_R_init ?k_m_R_init ?i_m_R_rows ?fn_m_R_rows ?l_m_R_rows ?c_m_R_rows ?k_m_R_rows ?i_m_R_worlds ?fn_m_R_worlds ?l_m_R_worlds ?c_m_R_worlds ?k_m_R_worlds ?i_m_R_len ?fn_m_R_len ?l_m_R_len ?c_m_R_len ?k_m_R_len ?no_own ?g5_ ?g30_ ?z_abs ?z_isinstance ?z_int ?z_bool ?z_tuple ?z_list ?z_len ?z_range ?z_str ?z_repr ?z_sum ?z_all ?z_any ?z_enumerate ?z_zip ?z_min ?z_max ?z_sorted ?z_ValueError ?z_ZeroDivisionError ?z_OverflowError ?z_IndexError ?z_LookupError ?z_ArithmeticError ?z_KeyError ?z_RuntimeError
    (case aC_N => k_is)
    (case xC_N => k_is)
    (case sa_N => k_is)
    (case ga_N => k_is)
    (case gg_N => k_is)
    (case cl_N => k_is)
    (case mo_N => first | rfl | k_is | decide +kernel)
    (case kC_N => k_is)
    (case eC_N => k_is)
    (case tC_N => k_is)
    (case hd_N => k_is)
    (case vV_N => first | rfl | decide +kernel | k_is)
    (case sp_ => first | rfl | k_is | decide +kernel)
    (case tk_ => first | rfl | k_is | decide +kernel)
    (case i_i_N => k_is)
    (case ty_i_N => k_is)
    (case l_i_N => k_is)
    (case c_i_N => k_is)
    (case k_i_N => k_is)
    (case no_N_number => k_is)
    (case aC_G => k_is)
    (case xC_G => k_is)
    (case sa_G => k_is)
    (case ga_G => k_is)
    (case gg_G => k_is)
    (case cl_G => k_is)
    (case mo_G => first | rfl | k_is | decide +kernel)
    (case kC_G => k_is)
    (case eC_G => k_is)
    (case tC_G => k_is)
    (case hd_G => k_is)
    (case vV_G => first | rfl | decide +kernel | k_is)
    (case i_i_G => k_is)
    (case ty_i_G => k_is)
    (case l_i_G => k_is)
    (case c_i_G => k_is)
    (case k_i_G => k_is)
    (case no_G_word => k_is)
    (case aC_U => k_is)
    (case xC_U => k_is)
    (case sa_U => k_is)
    (case ga_U => k_is)
    (case gg_U => k_is)
    (case cl_U => k_is)
    (case mo_U => first | rfl | k_is | decide +kernel)
    (case kC_U => k_is)
    (case eC_U => k_is)
    (case tC_U => k_is)
    (case hd_U => k_is)
    (case vV_U => first | rfl | decide +kernel | k_is)
    (case i_i_U => k_is)
    (case ty_i_U => k_is)
    (case l_i_U => k_is)
    (case c_i_U => k_is)
    (case k_i_U => k_is)
    (case no_U_one => k_is)
    (case no_U_other => k_is)
    (case aC_M => k_is)
    (case xC_M => k_is)
    (case sa_M => k_is)
    (case ga_M => k_is)
    (case gg_M => k_is)
    (case cl_M => k_is)
    (case mo_M => first | rfl | k_is | decide +kernel)
    (case kC_M => k_is)
    (case eC_M => k_is)
    (case tC_M => k_is)
    (case hd_M => k_is)
    (case vV_M => first | rfl | decide +kernel | k_is)
    (case i_i_M => k_is)
    (case ty_i_M => k_is)
    (case l_i_M => k_is)
    (case c_i_M => k_is)
    (case k_i_M => k_is)
    (case no_M_many => k_is)
    (case sb_N_N => first | rfl | k_is | decide +kernel)
    (case sb_U_N => first | rfl | k_is | decide +kernel)
    (case sb_U_U => first | rfl | k_is | decide +kernel)
    (case sb_M_N => first | rfl | k_is | decide +kernel)
    (case sb_M_U => first | rfl | k_is | decide +kernel)
    (case sb_M_M => first | rfl | k_is | decide +kernel)
    (case sb_G_N => first | rfl | k_is | decide +kernel)
    (case sb_G_U => first | rfl | k_is | decide +kernel)
    (case sb_G_M => first | rfl | k_is | decide +kernel)
    (case sb_G_G => first | rfl | k_is | decide +kernel)
    (case kt_N_ValueError => first | rfl | k_is | kit_is | decide +kernel)
    (case kt_M_OverflowError => first | rfl | k_is | kit_is | decide +kernel)
    (case kt_G_ValueError => first | rfl | k_is | kit_is | decide +kernel)
    (case a_d_is_whole => k_is)
    (case l_d_is_whole => k_is)
    (case c_d_is_whole => k_is)
    (case k_d_is_whole => k_is)
    (case a_d_is_whole_within => k_is)
    (case l_d_is_whole_within => k_is)
    (case c_d_is_whole_within => k_is)
    (case k_d_is_whole_within => k_is)
    (case a_d_is_ratio => k_is)
    (case l_d_is_ratio => k_is)
    (case c_d_is_ratio => k_is)
    (case k_d_is_ratio => k_is)
    (case a_d_plus => k_is)
    (case l_d_plus => k_is)
    (case c_d_plus => k_is)
    (case k_d_plus => k_is)
    (case a_d_times => k_is)
    (case l_d_times => k_is)
    (case c_d_times => k_is)
    (case k_d_times => k_is)
    (case a_d_lowest => k_is)
    (case l_d_lowest => k_is)
    (case c_d_lowest => k_is)
    (case k_d_lowest => k_is)
    (case a_d_divisor => k_is)
    (case l_d_divisor => k_is)
    (case c_d_divisor => k_is)
    (case k_d_divisor => k_is)
    (case a_d_is_list_of => k_is)
    (case l_d_is_list_of => k_is)
    (case c_d_is_list_of => k_is)
    (case k_d_is_list_of => k_is)
    (case a_d_is_share => k_is)
    (case l_d_is_share => k_is)
    (case c_d_is_share => k_is)
    (case k_d_is_share => k_is)
    (case a_d_is_share_row => k_is)
    (case l_d_is_share_row => k_is)
    (case c_d_is_share_row => k_is)
    (case k_d_is_share_row => k_is)
    (case a_d_wrong_row => k_is)
    (case l_d_wrong_row => k_is)
    (case c_d_wrong_row => k_is)
    (case k_d_wrong_row => k_is)
    (case a_d_copied_rows => k_is)
    (case l_d_copied_rows => k_is)
    (case c_d_copied_rows => k_is)
    (case k_d_copied_rows => k_is)
    (case a_d_silence => k_is)
    (case l_d_silence => k_is)
    (case c_d_silence => k_is)
    (case k_d_silence => k_is)
    (case a_d_all_told => k_is)
    (case l_d_all_told => k_is)
    (case c_d_all_told => k_is)
    (case k_d_all_told => k_is)
    (case a_d_beside => k_is)
    (case l_d_beside => k_is)
    (case c_d_beside => k_is)
    (case k_d_beside => k_is)
    (case a_d_grouped => k_is)
    (case l_d_grouped => k_is)
    (case c_d_grouped => k_is)
    (case k_d_grouped => k_is)
    (case a_d_check_worlds => k_is)
    (case l_d_check_worlds => k_is)
    (case c_d_check_worlds => k_is)
    (case k_d_check_worlds => k_is)
    (case a_d_check_groups => k_is)
    (case l_d_check_groups => k_is)
    (case c_d_check_groups => k_is)
    (case k_d_check_groups => k_is)
    (case a_d_told_row => k_is)
    (case l_d_told_row => k_is)
    (case c_d_told_row => k_is)
    (case k_d_told_row => k_is)
    (case a_d_row_beside => k_is)
    (case l_d_row_beside => k_is)
    (case c_d_row_beside => k_is)
    (case k_d_row_beside => k_is)
    (case a_d_grouped_row => k_is)
    (case l_d_grouped_row => k_is)
    (case c_d_grouped_row => k_is)
    (case k_d_grouped_row => k_is)
    (case a_d_law_left => k_is)
    (case l_d_law_left => k_is)
    (case c_d_law_left => k_is)
    (case k_d_law_left => k_is)
    (case a_d_law_digit => k_is)
    (case l_d_law_digit => k_is)
    (case c_d_law_digit => k_is)
    (case k_d_law_digit => k_is)
    (case a_d_law_low => k_is)
    (case l_d_law_low => k_is)
    (case c_d_law_low => k_is)
    (case k_d_law_low => k_is)
    (case a_d_law_shares => k_is)
    (case l_d_law_shares => k_is)
    (case c_d_law_shares => k_is)
    (case k_d_law_shares => k_is)
    (case a_d_law_rows => k_is)
    (case l_d_law_rows => k_is)
    (case c_d_law_rows => k_is)
    (case k_d_law_rows => k_is)
    (case a_d_law_told => k_is)
    (case l_d_law_told => k_is)
    (case c_d_law_told => k_is)
    (case k_d_law_told => k_is)
    (case a_d_law_number_due => k_is)
    (case l_d_law_number_due => k_is)
    (case c_d_law_number_due => k_is)
    (case k_d_law_number_due => k_is)
    (case a_d_law_groups_due => k_is)
    (case l_d_law_groups_due => k_is)
    (case c_d_law_groups_due => k_is)
    (case k_d_law_groups_due => k_is)
    (case a_d_law_odd => k_is)
    (case l_d_law_odd => k_is)
    (case c_d_law_odd => k_is)
    (case k_d_law_odd => k_is)
    (case a_d_law => k_is)
    (case l_d_law => k_is)
    (case c_d_law => k_is)
    (case k_d_law => k_is)
    (case a_d_total => k_is)
    (case l_d_total => k_is)
    (case c_d_total => k_is)
    (case k_d_total => k_is)
    (case t_d_total => k_is)
    (case e_d_total => rfl)
    (case aC_R => k_is)
    (case pg_R => k_is)
    (case hd_R => k_is)
    (case po_R => k_is)
    (case sa_R => k_is)
    (case mk_R => k_is)
    (case kC_R => k_is)
    (case i_m_R_init => k_is)
    (case fn_m_R_init => k_is)
    (case l_m_R_init => k_is)
    (case c_m_R_init => k_is)
    (case k_m_R_init => k_is)
    (case i_m_R_rows => k_is)
    (case fn_m_R_rows => k_is)
    (case l_m_R_rows => k_is)
    (case c_m_R_rows => k_is)
    (case k_m_R_rows => k_is)
    (case i_m_R_worlds => k_is)
    (case fn_m_R_worlds => k_is)
    (case l_m_R_worlds => k_is)
    (case c_m_R_worlds => k_is)
    (case k_m_R_worlds => k_is)
    (case i_m_R_len => k_is)
    (case fn_m_R_len => k_is)
    (case l_m_R_len => k_is)
    (case c_m_R_len => k_is)
    (case k_m_R_len => k_is)
    (case no_own => k_is)
    (case g5_ => k_is)
    (case g30_ => k_is)
    (case z_abs => k_is)
    (case z_isinstance => k_is)
    (case z_int => k_is)
    (case z_bool => k_is)
    (case z_tuple => k_is)
    (case z_list => k_is)
    (case z_len => k_is)
    (case z_range => k_is)
    (case z_str => k_is)
    (case z_repr => k_is)
    (case z_sum => k_is)
    (case z_all => k_is)
    (case z_any => k_is)
    (case z_enumerate => k_is)
    (case z_zip => k_is)
    (case z_min => k_is)
    (case z_max => k_is)
    (case z_sorted => k_is)
    (case z_ValueError => k_is)
    (case z_ZeroDivisionError => k_is)
    (case z_OverflowError => k_is)
    (case z_IndexError => k_is)
    (case z_LookupError => k_is)
    (case z_ArithmeticError => k_is)
    (case z_KeyError => k_is)
    (case z_RuntimeError => k_is)
