import PyProof.Rows.All
import Wide.All
import OpenK.AllK
import Wide.FinOn
import HandS.Base
import HandS.Call
import HandS.List
import HandS.Ends
import HandS.Words
import HandS.Exc
import HandS.ExcOwn
import HandS.ExcInit
import HandS.ExcField
import HandS.ExcIs
import HandS.WordsExc
import HandS.TryOnly
import HandS.TryMany
import KE.KExcIs
import PyProof.ReprRoads
import HandS.Wide
import HandS.IsInst
import HandS.Defaults
import HandS.Style
import HandS.Comp
import PyProof.InstStore
import HandS.Flow
import HandS.Iter
import HandS.Zip
import HandS.CallLocal
import HandS.Dict
import HandS.Walk
import PyProof.ExcFactsAll.IndexError
import PyProof.ExcBaseAll.IndexError
import PyProof.ExcBaseAll.LookupError
import PyProof.ExcBaseAll.ArithmeticError
import PyProof.ExcBaseAll.RuntimeError
import KE.KExcInit
import PySem.Challenge.RW_besttelling_k04_refusals_apart
namespace Fr
theorem fmod_abs (a : Int) {b : Int} (h : b ≠ 0) : (a.fmod b).natAbs < b.natAbs := by
  by_cases hb : 0 < b
  · have h1 := Int.fmod_lt_of_pos a hb
    have h2 := Int.fmod_nonneg_of_pos a hb
    omega
  · have hb' : 0 < -b := by omega
    have e := Int.neg_fmod_neg (-a) (-b)
    rw [Int.neg_neg, Int.neg_neg] at e
    have h1 := Int.fmod_lt_of_pos (-a) hb'
    have h2 := Int.fmod_nonneg_of_pos (-a) hb'
    omega
theorem gcd_step (a b : Int) : Int.gcd b (a.fmod b) = Int.gcd a b := by
  rw [Int.fmod_def, Int.mul_comm, Int.gcd_sub_mul_right_right, Int.gcd_comm]
theorem gcd_pos {t b : Int} (h : b ≠ 0) : (0 : Int) < (Int.gcd t b : Int) := by
  have : 0 < Int.gcd t b := Int.gcd_pos_of_ne_zero_right t h
  omega
theorem low_num {t b : Int} (hb : 0 < b) : t.fdiv (Int.gcd t b) = (Rat.divInt t b).num := by
  rw [Rat.num_divInt, Int.sign_eq_one_of_pos hb, Int.one_mul, Int.gcd_comm b t, Int.fdiv_eq_ediv_of_nonneg _ (by omega)]
theorem low_den {t b : Int} (hb : 0 < b) : b.fdiv (Int.gcd t b) = ((Rat.divInt t b).den : Int) := by
  rw [Rat.den_divInt, if_neg (by omega), Int.gcd_comm b t, Int.fdiv_eq_ediv_of_nonneg _ (by omega), Int.natCast_ediv]
  congr 1
  omega
theorem lowN_num {t b : Int} (hb : b < 0) : t.fdiv (-(Int.gcd t b : Int)) = (Rat.divInt t b).num := by
  have e := Int.neg_fdiv_neg (-t) (Int.gcd t b : Int)
  rw [Int.neg_neg] at e
  rw [e, Rat.num_divInt, Int.sign_eq_neg_one_of_neg hb, Int.gcd_comm b t, Int.fdiv_eq_ediv_of_nonneg _ (by omega), Int.neg_mul, Int.one_mul]
theorem lowN_den {t b : Int} (hb : b < 0) : b.fdiv (-(Int.gcd t b : Int)) = ((Rat.divInt t b).den : Int) := by
  have e := Int.neg_fdiv_neg (-b) (Int.gcd t b : Int)
  rw [Int.neg_neg] at e
  rw [e, Rat.den_divInt, if_neg (by omega), Int.gcd_comm b t, Int.fdiv_eq_ediv_of_nonneg _ (by omega), Int.natCast_ediv]
  congr 1
  omega
/-- top and bottom below 2 ^ n -/
def Bd (n : Nat) (q : Rat) : Prop := q.num.natAbs < 2 ^ n ∧ q.den < 2 ^ n
theorem Bd.mono {n m : Nat} {q : Rat} (h : Bd n q) (l : n ≤ m) : Bd m q :=
  ⟨Nat.lt_of_lt_of_le h.1 (Nat.pow_le_pow_right (by decide) l), Nat.lt_of_lt_of_le h.2 (Nat.pow_le_pow_right (by decide) l)⟩
theorem bd_low {t b : Int} {n : Nat} (ht : t.natAbs < 2 ^ n) (hb : b.natAbs < 2 ^ n) (h : b ≠ 0) : Bd n (Rat.divInt t b) := by
  constructor
  · rw [Rat.num_divInt]
    have h1 : (b.sign * t).natAbs = t.natAbs := by
      rw [Int.natAbs_mul, Int.natAbs_sign_of_ne_zero h, Nat.one_mul]
    have h2 : (b.sign * t / (b.gcd t : Int)).natAbs ≤ (b.sign * t).natAbs := Int.natAbs_ediv_le_natAbs _ _
    omega
  · rw [Rat.den_divInt, if_neg h]
    exact Nat.lt_of_le_of_lt (Nat.div_le_self _ _) hb
theorem den_pos (q : Rat) : (0 : Int) < (q.den : Int) := by
  have := q.den_pos
  omega
theorem den_ne (q : Rat) : (q.den : Int) ≠ 0 := Int.ne_of_gt (den_pos q)
theorem add_eq (a b : Rat) : Rat.divInt (a.num * b.den + b.num * a.den) (a.den * b.den) = a + b := by
  rw [← Rat.divInt_add_divInt _ _ (den_ne a) (den_ne b), Rat.num_divInt_den, Rat.num_divInt_den]
theorem sub_eq (a b : Rat) : Rat.divInt (a.num * b.den - b.num * a.den) (a.den * b.den) = a - b := by
  rw [Rat.sub_def, Rat.normalize_eq_mkRat, ← Int.natCast_mul]
  rfl
theorem mul_eq (a b : Rat) : Rat.divInt (a.num * b.num) (a.den * b.den) = a * b := by
  rw [← Rat.divInt_mul_divInt, Rat.num_divInt_den, Rat.num_divInt_den]
theorem div_eq (a b : Rat) : Rat.divInt (a.num * b.den) (a.den * b.num) = a / b := by
  rw [Rat.div_def, Rat.inv_def, ← Rat.divInt_mul_divInt, Rat.num_divInt_den]
theorem mul_bd {i j : Int} {n m : Nat} (hi : i.natAbs < 2 ^ n) (hj : j.natAbs < 2 ^ m) : (i * j).natAbs < 2 ^ (n + m) := by
  rw [Int.natAbs_mul, Nat.pow_add]
  exact Nat.mul_lt_mul'' hi hj
theorem add_bd {i j : Int} {n : Nat} (hi : i.natAbs < 2 ^ n) (hj : j.natAbs < 2 ^ n) : (i + j).natAbs < 2 ^ (n + 1) := by
  rw [Nat.pow_succ]
  omega
theorem sub_bd {i j : Int} {n : Nat} (hi : i.natAbs < 2 ^ n) (hj : j.natAbs < 2 ^ n) : (i - j).natAbs < 2 ^ (n + 1) := by
  rw [Nat.pow_succ]
  omega
theorem Bd.dn {n : Nat} {q : Rat} (h : Bd n q) : (q.den : Int).natAbs < 2 ^ n := by
  rw [Int.natAbs_natCast]
  exact h.2
theorem up {i : Int} {n m : Nat} (h : i.natAbs < 2 ^ n) (l : n ≤ m) : i.natAbs < 2 ^ m := Nat.lt_of_lt_of_le h (Nat.pow_le_pow_right (by decide) l)
theorem dd_ne (a b : Rat) : (a.den : Int) * (b.den : Int) ≠ 0 := Int.mul_ne_zero (den_ne a) (den_ne b)
theorem bd_add {a b : Rat} {n m : Nat} (ha : Bd n a) (hb : Bd m b) : Bd (n + m + 1) (a + b) := by
  rw [← add_eq]
  refine bd_low ?_ (up (mul_bd ha.dn hb.dn) (Nat.le_succ _)) (dd_ne a b)
  have h2 := mul_bd hb.1 ha.dn
  rw [Nat.add_comm m n] at h2
  exact add_bd (mul_bd ha.1 hb.dn) h2
theorem bd_sub {a b : Rat} {n m : Nat} (ha : Bd n a) (hb : Bd m b) : Bd (n + m + 1) (a - b) := by
  rw [← sub_eq]
  refine bd_low ?_ (up (mul_bd ha.dn hb.dn) (Nat.le_succ _)) (dd_ne a b)
  have h2 := mul_bd hb.1 ha.dn
  rw [Nat.add_comm m n] at h2
  exact sub_bd (mul_bd ha.1 hb.dn) h2
theorem bd_mul {a b : Rat} {n m : Nat} (ha : Bd n a) (hb : Bd m b) : Bd (n + m) (a * b) := by
  rw [← mul_eq]
  exact bd_low (mul_bd ha.1 hb.1) (mul_bd ha.dn hb.dn) (dd_ne a b)
theorem ratio_gcd (q : Rat) : Int.gcd q.num q.den = 1 := by
  have := q.reduced
  rw [Int.gcd, Int.natAbs_natCast]
  exact this
theorem foldl_add (l : List Rat) : ∀ a : Rat, l.foldl (· + ·) a = a + l.sum := by
  induction l with
  | nil => intro a; rw [List.foldl_nil, List.sum_nil, Rat.add_zero]
  | cons x r ih => intro a; rw [List.foldl_cons, ih, List.sum_cons, Rat.add_assoc]
theorem sum_rev (l : List Rat) : l.reverse.sum = l.sum := by
  induction l with
  | nil => rfl
  | cons x r ih => rw [List.reverse_cons, List.sum_append, ih, List.sum_cons, List.sum_cons, List.sum_nil, Rat.add_zero, Rat.add_comm]
theorem div_self' {a : Rat} (h : a ≠ 0) : a / a = 1 := by
  rw [Rat.div_def]
  exact Rat.mul_inv_cancel a h
end Fr

set_option Elab.async false
set_option linter.all false
set_option maxRecDepth 100000
set_option maxHeartbeats 4000000
namespace BX
open PySem PySem.Spec PyProof.Rows L2
/-! ### several clauses «except x as n» -/
structure Clause where
  cls : Value
  slot : Nat
  ts : Addr → Value → Option Addr → TS
def wClauses (K : PySem.W.Frag) (Wout : WX) (D : Ends) : List Clause → WX
  | [] => Wout
  | c :: r => wAs K c.cls c.slot c.ts (wClauses K Wout D r) D
inductive ClausesOk (X : Cx) : List ExceptHandler → List Clause → Prop
  | nil : ClausesOk X [] []
  | cons {x n : Str} {c : Value} {i : Nat} {ts : Addr → Value → Option Addr → TS} {b₀ : Stmt} {suite : List Stmt} {np pos' : Pos} {hds : List ExceptHandler} {l : List Clause} (hi : X.N[i]? = some n) (hln : X.env.kindOf n = some .local) (hc : Names X x c)
      (hsu : ∀ (a : Addr) (oe : Obj) (cls : Value) (d : Option Addr) (pn : List (Addr × Obj)), Zc cls d oe → (∃ vs, oe.data = .fields vs) → PSs (X.suite a ((a, oe) :: pn)) (b₀ :: suite) (ts a cls d)) (r : ClausesOk X hds l) :
      ClausesOk X (.ExceptHandler (some (.Name x np)) (some n) (b₀ :: suite) pos' :: hds) (⟨c, i, ts⟩ :: l)
section
variable {X : Cx} {body : List Stmt} {h₀ : ExceptHandler} {hds : List ExceptHandler} {l : List Clause} {pos : Pos} {tb : WX → TS} {Wout : WX}
theorem ps_try_clauses (hs : X.stack = X.env :: X.outer) (hf : X.env.frame = some X.env.locals) (hN : X.N.Nodup) (tk : Takes X Wout)
    (hb : ∀ (W : WX) (pn : List (Addr × Obj)) (xe : Value → Shared → Prop), Takes (X.tr pn xe) W → PassesOwn (model X.prog X.w) X.A X.env xe → PSs (X.tr pn xe) body (tb W))
    (hh : ClausesOk X (h₀ :: hds) l) : PS X (.Try body (h₀ :: hds) [] [] pos) (fun D σ H => tb (wClauses X.K Wout D l) D σ H) := by
  refine ⟨fun pins s σ H D I h => ?_⟩
  have ok := I.ok
  have hfr : X.A.frames = some (X.env :: X.outer) := by rw [ok.frames, hs]
  refine wpAny_Try_except ?_
  refine wpAny_mono ((hb (wClauses X.K Wout D l) (X.pn ++ pins) (fun e s₁ => wpAny (model X.prog X.w) X.A (noteFrame e X.env) (fun _ s₂ => wpAny (model X.prog X.w) X.A (setFlight e none) (fun _ s₃ =>
    wpAny (model X.prog X.w) X.A (handleBy e X.env (h₀ :: hds)) (SP X pins D) X.xe s₃) X.xe s₂) X.xe s₁) (fun u s' xx => ?_) PassesOwn.looking).run [] s σ H D (I.toTry _) h) (fun f s1 hsp => ?_) (fun e s1 he => he)
  · obtain ⟨a, B, sI, pins', σ', H', cls, d, rfl, J', nb, up, sky, na, os, ag, ww⟩ := xx
    have J : Inv X pins σ' H' sI := J'.ofTry ok
    have sky' : Sky B (X.env :: X.outer) a (Zc cls d) X.env.locals s'.heap := by rw [← hs]; exact sky
    show wpAny (model X.prog X.w) X.A (noteFrame (.ref a) X.env) _ _ _
    refine Sky.land Zc.steady hfr hf sky' fun h3 fl3 up3 => ?_
    have J3 : Inv X pins σ' H' { s' with heap := h3 } := J.landed nb fl3.1 (up.trans up3) os ag
    obtain ⟨oe3, vs3, he3, hz3, hd3⟩ := fl3.there
    have nfr : a ∉ frs (X.env :: X.outer) := fun hm => by
      obtain ⟨_, o', e', hnf⟩ := fl3.2.2.1.mem hm
      rw [he3] at e'; cases e'
      exact hnf _ hd3
    have nL : a ≠ X.env.locals := fun z => nfr (List.mem_filterMap.mpr ⟨X.env, List.mem_cons_self, by rw [hf, z]⟩)
    have nF : a ∉ X.fs := fun hm => by
      obtain ⟨e, he, q⟩ := List.mem_filterMap.mp hm
      exact nfr (List.mem_filterMap.mpr ⟨e, List.mem_cons_of_mem _ he, q⟩)
    have S3 := J3.suite he3 hd3 na nL nF
    have go : ∀ {hds' : List ExceptHandler} {l' : List Clause}, ClausesOk X hds' l' → wClauses X.K Wout D l' cls d σ' H' →
        wpAny (model X.prog X.w) X.A (handleBy (.ref a) X.env hds') (SP X pins D) X.xe { s' with heap := h3 } := by
      intro hds' l' hk
      induction hk with
      | nil =>
        intro ww
        refine wpAny_handleBy_nil ?_
        obtain ⟨k1, k2, k3, oe, vs, T, oT, ts', he, hz, hd, h1, hr⟩ := id fl3
        unfold PySem.passOn
        refine wpAny_bind (wpAny_field he hd h1 ?_)
        rw [if_neg (show ¬ ((Value.ref T == Value.none) = true) from by simp)]
        have fin : wpAny (model X.prog X.w) X.A (setFlight (.ref a) X.env.frame) (fun _ s4 => wpAny (model X.prog X.w) X.A (throw (.ref a) : Sem Flow) (SP X pins D) X.xe s4) X.xe { s' with heap := h3 } := by
          rw [hf]
          refine HandSPX.setFlight_upZ fl3 fun h4 hh4 up4 => wpAny_throw (tk _ _ ?_)
          exact ⟨a, B, sI, pins, σ', H', cls, d, rfl, J, nb, (up.trans up3).trans up4, .inr (.inr (by rw [hs]; exact hh4)), na, os, ag, ww⟩
        first
          | exact wpAny_bind (wpAny_pure (wpAny_bind fin))
          | exact wpAny_bind fin
      | @cons x n c i ts b₀ suite np pos' hds2 l2 hi hln hc hsu r ih =>
        intro ww
        have hloc : Loc X.env.scope n := .inl hln
        obtain ⟨b, hb1, hyes, hno⟩ := ww
        refine wpAny_handleBy_cons (codeAny_handlers_test ?_) (by intro q; cases q)
        have LT : PySem.W.Looks (model X.prog X.w) h3 (typeOf (.ref a)) cls := fun A Q E s k q => wpAny_typeOf_ref (k _ _ he3) (by rw [hz3.1]; exact q)
        have LM := PySem.W.exm_one (M := model X.prog X.w) (J3.kIn) LT hb1
        have test : ∀ {Q : Value → Shared → Prop} {E : Value → Shared → Prop}, Q c { s' with heap := h3 } → wpAny (model X.prog X.w) (X.A.mark (some (.ref a))) (eval (.Name x np) X.env) Q E { s' with heap := h3 } := fun {Q E} q => by
          obtain ⟨hg, hdbg, hm | ⟨hm, hv, hnn⟩⟩ := hc
          · exact ld_glob (X := X.suite a ((a, oe3) :: (X.pn ++ pins))) S3 hg hm q hdbg
          · exact ld_blt (X := X.suite a ((a, oe3) :: (X.pn ++ pins))) S3 hg hm hv q hnn hdbg
        refine test (LM.here ?_)
        cases b with
        | true =>
          refine codeAny_handlers_suite_as ?_
          refine HandSPX.lands_againZ fl3 fun h4 fl4 up4 => ?_
          have J4 : Inv X pins σ' H' { s' with heap := h4 } := J.landed nb fl4.1 ((up.trans up3).trans up4) os ag
          obtain ⟨oe4, vs4, he4, hz4, hd4⟩ := fl4.there
          have S4 := J4.suite he4 hd4 na nL nF
          refine store_ok (X := X.suite a ((a, oe4) :: (X.pn ++ pins))) (v := .ref a) S4 hN hi hloc rfl (fun s5 S5 => ?_) (.inr hln)
          refine wpAny_mono ((hsu a oe4 cls d (X.pn ++ pins) hz4 ⟨_, hd4⟩).run [] s5 _ H' _ S5 (hyes rfl a na)) (fun f s6 hsp => ?_) (fun _ _ z => False.elim z)
          have end_ : ∀ {σ6 : L2.St} {H6 : Hp} {Q : Shared → Prop}, Inv (X.suite a ((a, oe4) :: (X.pn ++ pins))) [] σ6 H6 s6 → (∀ s7, Inv X pins (σ6.set i none) H6 s7 → Q s7) →
              wpAny (model X.prog X.w) X.A (do bindName X.env n .none; unbindBehindTheSuite X.env n pos') (fun _ s7 => Q s7) X.xe s6 := fun {σ6 H6 Q} S6 hq => gone_ok (S6.unsuite ok) hN hi hln hq
          cases f with
          | next =>
            obtain ⟨σ6, H6, S6, q6⟩ := hsp
            exact end_ S6 fun s7 J7 => ⟨_, _, J7, q6⟩
          | brk =>
            obtain ⟨σ6, H6, S6, q6⟩ := hsp
            exact end_ S6 fun s7 J7 => ⟨_, _, J7, q6⟩
          | cont =>
            obtain ⟨σ6, H6, S6, q6⟩ := hsp
            exact end_ S6 fun s7 J7 => ⟨_, _, J7, q6⟩
          | ret u =>
            obtain ⟨v6, σ6, H6, S6, r6, q6⟩ := hsp
            exact end_ S6 fun s7 J7 => ⟨_, _, _, J7, r6, q6⟩
        | false =>
          show wpAny _ X.A (handleBy (.ref a) X.env hds2) _ _ _
          exact ih (hno rfl)
    exact go hh ww
  · cases f with
    | next =>
      obtain ⟨σ', H', J', q⟩ := hsp
      exact wpAny_execs_nil ⟨σ', H', J'.ofTry ok, q⟩
    | brk =>
      obtain ⟨σ', H', J', q⟩ := hsp
      exact ⟨σ', H', J'.ofTry ok, q⟩
    | cont =>
      obtain ⟨σ', H', J', q⟩ := hsp
      exact ⟨σ', H', J'.ofTry ok, q⟩
    | ret u =>
      obtain ⟨v, σ', H', J', r, q⟩ := hsp
      exact ⟨v, σ', H', J'.ofTry ok, r, q⟩
end
/-! ### isinstance of a caught error, with or without fields -/
def rIsX (K : PySem.W.Frag) (D a : Addr) (cls : Value) (d : Option Addr) : List V → Hp → VK → Prop := fun xs H Q => ∃ (c : V) (u : Value) (b : Bool), xs = [.ref a, c] ∧ cls = .ref D ∧ ClsE c u ∧ (d = none ∨ ∃ dd fs, d = some dd ∧ H dd = some (.xd fs)) ∧ PySem.W.kitOne K (.ref D) u = some b ∧ Q (.bl b) H
where ClsE (c : V) (u : Value) : Prop := ∀ w, RelV c w → w = u
theorem call_isX {X : Cx} {a D : Addr} {oe : Obj} {cls : Value} {d : Option Addr} {pn : List (Addr × Obj)} (C : ExcC X.K D) (hz : Zc cls d oe) (hf : ∃ vs, oe.data = .fields vs) : CallR (X.suite a ((a, oe) :: pn)) (.builtin "isinstance") (rIsX X.K D a cls d) := by
  intro pins s σ H xs us Q I r h
  obtain ⟨c, u, b, rfl, rfl, hcv, hdd, e, q⟩ := h
  cases r with
  | cons rx rr =>
    cases rr with
    | cons rt rr =>
      cases rr
      cases rx
      have ec := hcv _ rt
      subst ec
      obtain ⟨hget, _⟩ := I.pin (a, oe) (List.mem_append.mpr (.inl List.mem_cons_self))
      obtain ⟨vs, hv⟩ := hf
      have hcl : (PySem.W.clsIn X.K D).isSome = true := by
        obtain ⟨cd, hc, _⟩ := PySem.W.any_some C.hd
        rw [hc]
        rfl
      have J : ∃ od, PySem.W.InstAt s.heap a oe D od := by
        obtain ⟨oc, od, oda, osl⟩ := oe
        obtain ⟨h1, h2⟩ := hz
        dsimp only at h1 h2 hv
        subst h1 h2 hv
        rcases hdd with rfl | ⟨dd, fs, rfl, hx⟩
        · exact ⟨none, hget, rfl, rfl, trivial⟩
        · obtain ⟨o, ho⟩ := objOk_get (I.hok dd _ hx)
          exact ⟨some o, hget, rfl, rfl, ho⟩
      obtain ⟨od, J⟩ := J
      exact PySem.W.kia_one (PySem.W.kitx_exc hcl C.hg C.hk C.hs C.ha C.hn C.ht C.hm) I.kIn J e (fun z => nomatch z) fun tk => ⟨.bl b, H, I.kept (t' := tk) fun _ _ z => z, rfl, q⟩
end BX

set_option Elab.async false
set_option linter.all false
set_option maxRecDepth 100000
set_option maxHeartbeats 4000000
namespace BX
open PySem PySem.Spec PyProof.Rows L2
/-! ### promises of defs that are called where nothing is being shown -/
structure FnOkG (P : Program) (w : World) (K : PySem.W.Frag) (mg : Str → Option Value) (base : Heap) (CX : CXT) (k : Nat) (f : Addr) (fd : FuncData) (ps : List Str) (sp : Sp) : Prop where
  len : ∀ vs H Q E, sp vs H Q E → vs.length = ps.length
  run : ∀ (A : Around) (outer : List Env) (s : Shared) (H : Hp) (args : Args) (us : List Value) (vs : List V) (Q : VK) (E : XK), Room k A → A.guards = some [] → Env0 P w K mg base A outer s H → BindsTo s fd args (ps.zip us) → Vals vs us → sp vs H Q E →
    codeAny (model P w) A (.call (.ref f) args) (CR CX outer P w H s Q E) s
section
variable {P : Program} {w : World} {K : PySem.W.Frag} {mg : Str → Option Value} {base : Heap} {CX : CXT} {k : Nat} {f : Addr} {fd : FuncData} {ps : List Str} {sp : Sp}
theorem FnOkG.of (F : FnOk P w K mg base CX k f fd ps sp) : FnOkG P w K mg base CX k f fd ps sp := ⟨F.len, fun A outer s H args us vs Q E hr _ e b r h => F.run A outer s H args us vs Q E hr e b r h⟩
theorem FnOkG.mono {j : Nat} (F : FnOkG P w K mg base CX j f fd ps sp) (h : j ≤ k) : FnOkG P w K mg base CX k f fd ps sp := ⟨F.len, fun A outer s H args us vs Q E hr => F.run A outer s H args us vs Q E (hr.mono h)⟩
/-- the body of such a def -/
theorem fn_ofG {name qual : Str} {params : Arguments} {body : List Stmt} {scope : Scope} {dV kV doc pm cdv ct oc : Value} {an od : Option Addr} {osl : Array (Option Value)} {N : List Str}
    (lk : K.lookup f = some ⟨oc, od, .func (PySem.W.fnOf name qual params body scope dV kV doc pm an cdv ct), osl⟩) (hcd : PySem.W.codeIn K cdv qual = true) (S : FnScope N ps scope) (len : ∀ vs H Q E, sp vs H Q E → vs.length = ps.length)
    (hbody : ∀ (A : Around) (outer : List Env) (s : Shared) (H : Hp) (vs : List V) (Q : VK) (E : XK), Room k (A.deeper (envOfC qual scope s.heap.objs.size f cdv)) → (A.deeper (envOfC qual scope s.heap.objs.size f cdv)).guards = some [] → sp vs H Q E →
      ∃ t, PSs (cxOf CX P w K mg base N qual scope f cdv A outer s H E) body t ∧ t { nx := fun _ H' => Q .non H', rt := Q } (start N vs) H) :
    FnOkG P w K mg base CX (k + 1) f (PySem.W.fnOf name qual params body scope dV kV doc pm an cdv ct) ps sp := by
  refine ⟨len, fun A outer s H args us vs Q E hr hgd e0 hb r hsp => ?_⟩
  have KX : K.In s.heap := e0.mod.kin.keeps fun b o e => (e0.bs b o e).1
  have lim : s.heap.NoLimit := e0.mod.nolimit.keeps fun b o e => (e0.bs b o e).1
  have hkind : ∀ y ∈ ps.zip us, scope.names.lookup y.1 = some .local ∨ (scope.names.lookup y.1 = some .cell ∧ ((cellsFrom (s.heap.objs.size + 1) scope.names []).lookup y.1).isSome = true) := fun ⟨n, v⟩ hy => by
    rcases S.par n (List.of_mem_zip hy).1 with q | q
    · exact .inl q
    · exact .inr ⟨q, PySem.W.cellsFrom_some _ _ _ (.inl q)⟩
  refine codeAny_call_function hr.depth (KX _ _ lk) rfl S.co S.gen rfl (PySem.W.codeRec_of KX hcd) (hb _ _ _ _ ?_)
  refine wpAny_newFunctionEnv_cells S.kind hkind fun env he s1 x => ?_
  subst he
  refine ⟨lim.keeps x.toInCall.keep, codeAny_func ?_⟩
  obtain ⟨t, ht, hq⟩ := hbody A outer s H vs Q E (hr.deeper _) hgd hsp
  have I : Inv (cxOf CX P w K mg base N qual scope f cdv A outer s H E) [] (start N vs) H s1 := inv_start S hr.hd e0 (len _ _ _ _ hsp) r x
  refine wpAny_mono (ht.run [] s1 (start N vs) H _ I hq) (fun fl s' hs => ?_) fun e s' hs => hs
  have fin : ∀ {σ' : L2.St} {H' : Hp} {v : V} {u : Value}, Inv (cxOf CX P w K mg base N qual scope f cdv A outer s H E) [] σ' H' s' → RelV v u → Q v H' → CE outer P w H s Q u s' :=
    fun {σ' H' v u} J rv q => ⟨v, H', J.os, J.bare, J.base, J.hok, rv, q⟩
  cases fl with
  | ret u =>
    obtain ⟨v, σ', H', J, rv, q⟩ := hs
    exact fin J rv q
  | next =>
    obtain ⟨σ', H', J, q⟩ := hs
    exact fin (v := V.non) (u := Value.none) J rfl q
  | brk =>
    obtain ⟨_, _, _, q⟩ := hs
    exact False.elim q
  | cont =>
    obtain ⟨_, _, _, q⟩ := hs
    exact False.elim q
theorem okG {x qual : Str} {st : Stmt} {N : List Str} (F : Fun K x qual st f fd) (S : FnScope N ps (defScope st)) (len : ∀ vs H Q E, sp vs H Q E → vs.length = ps.length)
    (hbody : ∀ (cdv : Value) (A : Around) (outer : List Env) (s : Shared) (H : Hp) (vs : List V) (Q : VK) (E : XK), Room k (A.deeper (envOfC qual (defScope st) s.heap.objs.size f cdv)) → (A.deeper (envOfC qual (defScope st) s.heap.objs.size f cdv)).guards = some [] → sp vs H Q E →
      ∃ t, PSs (cxOf CX0 P w K mg base N qual (defScope st) f cdv A outer s H E).nox (defBody st) t ∧ t { nx := fun _ H' => Q .non H', rt := Q } (start N vs) H) : FnOkG P w K mg base CX0 (k + 1) f fd ps sp := by
  obtain ⟨oc, od, kV, doc, pm, an, cdv, ct, osl, rfl, lk, hcd⟩ := F.ex
  refine fn_ofG lk hcd S len fun A outer s H vs Q E hr hgd hsp => ?_
  obtain ⟨t, h, q⟩ := hbody cdv A outer s H vs Q E hr hgd hsp
  exact ⟨t, h.nox, q⟩
end
section
variable {X : Cx} {CX : CXT} {k : Nat} {f : Addr} {fd : FuncData} {ps : List Str} {sp : Sp} {E : XK} {x : Str} {p pos : Pos} {e : Expr} {es : List Expr} {t : TA} {ds : List Value} {dvs : List V}
theorem run_fnG {pins : List (Addr × Obj)} {σ : L2.St} {H : Hp} {s : Shared} {Q : VK} {us : List Value} {vs : List V} (F : FnOkG X.prog X.w X.K X.mg X.base CX k f fd ps sp) (hr : Room k X.A) (hgd : X.A.guards = some []) (hb : Binds X.K fd ps ds) (hd : Vals dvs ds) (hx : Passes CX X E)
    (I : Inv X pins σ H s) (r : Vals vs us) (h : sp (vs ++ dvs) H Q E) : wpAny (model X.prog X.w) X.A (call (.ref f) us) (EP X pins σ Q) X.xe s := by
  have r2 : Vals (vs ++ dvs) (us ++ ds) := r.append hd
  have hl : (us ++ ds).length = ps.length := by rw [← r2.length]; exact F.len _ _ _ _ h
  refine wpAny_call (codeAny_mono (F.run X.A X.stack s H ⟨us, []⟩ (us ++ ds) (vs ++ dvs) Q E hr hgd I.env0 (hb s us I.kIn hl) r2 h) fun r s' hq => ?_)
  cases r with
  | error e => exact hx pins σ H s e s' I hq
  | ok fl =>
    cases fl with
    | ret u => exact I.after hq
    | next => exact False.elim hq
    | brk => exact False.elim hq
    | cont => exact False.elim hq
theorem pe_callG (F : FnOkG X.prog X.w X.K X.mg X.base CX k f fd ps sp) (hr : Room k X.A) (hgd : X.A.guards = some []) (hg : Gl X x) (hm : X.mg x = some (.ref f)) (hk : PySem.W.keepIn X.K (.ref f) = true) (hb : Binds X.K fd ps ds) (hd : Vals dvs ds) (hx : Passes CX X E)
    (ha : PA X (e :: es) t) (hdb : (x == ("__debug__" : Str)) = false := by decide) (he : starEach (e :: es) X.env = (false, eval e X.env) :: starEach es X.env := by rfl) (hpl : (backTo pos (starEach es X.env)).any (·.1) = false := by rfl) :
    PE X (.Call (.Name x p) (e :: es) [] pos) (tCall sp dvs E t) := by
  refine ⟨fun pins s σ H Q I h => ?_⟩
  refine wpAny_Call_Name_kw (ld_glob I hg hm ?_ hdb)
  refine PySem.W.callWith_K (h₀ := X.base) I.ok.mod.kin hk (thn (ha.run pos pins s σ H _ I h) fun us s1 ⟨vs, H1, I1, r, q⟩ => ⟨I1.kIn, ?_⟩) he hpl
  exact run_fnG F hr hgd hb hd hx I1 r q
end
/-! ### repr -/
/-- data, or the empty dict -/
def Dq (K : PySem.W.Frag) (H : Hp) (v : V) (d : PyData) : Prop := Dp K H v d ∨ ∃ a, v = .ref a ∧ H a = some (.dK []) ∧ d = .dict []
mutual
theorem noDict {K : PySem.W.Frag} {H : Hp} : ∀ (d : PyData) (v : V), Dp K H v d → d.hasDict = false
  | .none, _, _ => rfl
  | .bool _, _, _ => rfl
  | .int _, _, _ => rfl
  | .str _, _, _ => rfl
  | .list ds, _, h => by
    cases h with
    | lst _ ha => exact noDicts ds _ ha
  | .tuple ds, _, h => by
    cases h with
    | tup _ ha => exact noDicts ds _ ha
  | .dict _, _, h => by cases h
theorem noDicts {K : PySem.W.Frag} {H : Hp} : ∀ (ds : List PyData) (vs : List V), DpAll K H vs ds → PyData.hasDictAll ds = false
  | [], _, _ => rfl
  | d :: ds, _, h => by
    cases h with
    | cons h1 h2 =>
      show (PyData.hasDict d || PyData.hasDictAll ds) = false
      rw [noDict d _ h1, noDicts ds _ h2]
      rfl
end
def rRepr (K : PySem.W.Frag) : List V → Hp → VK → Prop := fun xs H Q => ∃ x d, xs = [x] ∧ Dq K H x d ∧ d.showable = true ∧ d.depth ≤ 64 ∧ d.shown.length ≤ sizeLine ∧ Q (.str d.shown) H
theorem call_reprD {X : Cx} (hgd : X.A.guards = some []) (hu : X.A.units + 80 < cLine) : CallR X (.builtin "repr") (rRepr X.K) := by
  intro pins s σ H xs us Q I r h
  obtain ⟨x, d, rfl, hd, hs, hdp, hsz, q⟩ := h
  cases r with
  | @cons _ u _ _ ru rn =>
    cases rn
    have up : ∀ {a : Addr} {as : List Addr}, Reads s.heap (.ref a) d as → (d.hasDict = true → sysModules ∉ as) → wpAny (model X.prog X.w) X.A (call (.builtin "repr") [.ref a]) (EP X pins σ Q) X.xe s := fun {a as} rd hsm =>
      repr_of_reads' rd hs hsm hgd (by omega) (fun _ _ z => z) (fun h' u tk hk => ⟨.str d.shown, H, I.kept (t' := tk) hk, ⟨_, rfl⟩, q⟩) hsz
    rcases hd with hd | ⟨a, rfl, ha, rfl⟩
    · have nd := noDict d x hd
      cases hd with
      | non => cases (show u = Value.none from ru); exact P.repr_of_none ⟨.str (PyData.shown .none), H, I.tok _, ⟨_, rfl⟩, q⟩
      | bl b => cases (show u = Value.bool b from ru); exact P.repr_of_bool ⟨.str (PyData.shown (.bool b)), H, I.tok _, ⟨_, rfl⟩, q⟩
      | int i => obtain ⟨t, e⟩ := (show ∃ t, u = Value.int i t from ru); cases e; exact P.repr_of_int (of_decide_eq_true hs) ⟨.str (PyData.shown (.int i)), H, I.tok _, ⟨_, rfl⟩, q⟩
      | str y => obtain ⟨t, e⟩ := (show ∃ t, u = Value.str y t from ru); cases e; exact P.repr_of_str ⟨.str (PyData.shown (.str y)), H, I.tok _, ⟨_, rfl⟩, q⟩ hsz
      | @lst a xs ds h1 h2 =>
        cases (show u = Value.ref a from ru)
        obtain ⟨as, rd⟩ := Dp.reads I _ _ _ (Dp.lst h1 h2) (show RelV (.ref a) (.ref a) from rfl)
        exact up rd (fun z => by rw [nd] at z; cases z)
      | @tup a xs ds h1 h2 =>
        cases (show u = Value.ref a from ru)
        obtain ⟨as, rd⟩ := Dp.reads I _ _ _ (Dp.tup h1 h2) (show RelV (.ref a) (.ref a) from rfl)
        exact up rd (fun z => by rw [nd] at z; cases z)
    · cases (show u = Value.ref a from ru)
      obtain ⟨_, hns, vs, hkv, o, es, ep, h1, h2, h3, h4, h5, _⟩ := (show ObjOk X.prog X.w H s.heap a (.dK []) from I.hok a _ ha)
      cases hkv
      have he : es.toList = [] := List.eq_nil_of_length_eq_zero h5.length
      refine up (as := a :: [] ++ []) (Reads.dict h1 h2.1 h3 (by rw [he]; exact .nil) (by rw [he]; exact .nil)) (fun _ hm => ?_)
      have ea : sysModules = a := by simpa using hm
      rw [← ea] at hns
      exact absurd hns (by decide +kernel)
end BX

set_option Elab.async false
set_option linter.all false
set_option maxRecDepth 100000
set_option maxHeartbeats 2000000
namespace Co
open PySem PySem.Spec PyProof.Rows L2
open Fr (Bd)
/-! ### // by any number but nought -/
def CDivZ (_ j : Int) : Prop := j ≠ 0 ∧ j.natAbs.log2 < 9000
theorem op_fdivZ {X : Cx} : OpR X (binaryOp .FloorDiv) (rI CDivZ fun i j => .int (i.fdiv j)) := opI fun i j _ _ _ _ _ hc q => floordiv_int hc.1 q (.inl (PyProof.noPylong_of_log2 hc.2))
theorem divZ {i j : Int} {n : Nat} (h : j ≠ 0) (hb : j.natAbs < 2 ^ n) (h0 : 0 < n) (h9 : n ≤ 9000) : CDivZ i j := ⟨h, Nat.lt_of_lt_of_le (PySem.Flt.log2_lt_of h0 hb) h9⟩
theorem same_new {H : Hp} {p : Addr} (h : H p = none) (o : HO) : Same H (upd H p o) := fun b u q => by rw [upd_ne (ne_of_none q h)]; exact q
theorem seqT {K : PySem.W.Frag} {H H' : Hp} {a : Addr} {xs : List V} (e : Same H H') (h : SqT K H a xs) : SqT K H' a xs := by
  rcases h with (h | ⟨o, h⟩) | h
  · exact .inl (.inl (e _ _ h))
  · exact .inl (.inr ⟨o, e _ _ h⟩)
  · exact .inr h
/-- what stands in a fraction's tuple -/
def rp (q : Rat) : List V := [.int q.num, .int (q.den : Int)]
def spDiv : Sp := fun vs H Q _ => ∃ a b : Int, vs = [.int a, .int b] ∧ Q (.int (Int.gcd a b : Int)) H
def spLow : Sp := fun vs H Q _ => ∃ (t b : Int) (n : Nat), vs = [.int t, .int b] ∧ t.natAbs < 2 ^ n ∧ b.natAbs < 2 ^ n ∧ b ≠ 0 ∧ n ≤ 8950 ∧ ∀ p, H p = none → Q (.ref p) (upd H p (.tup (rp (Rat.divInt t b))))
theorem gcd_bd {t b : Int} {n : Nat} (h : b ≠ 0) (hb : b.natAbs < 2 ^ n) : (Int.gcd t b : Int).natAbs < 2 ^ n := by
  rw [Int.natAbs_natCast]
  exact Nat.lt_of_le_of_lt (Nat.le_of_dvd (by omega) (Int.gcd_dvd_natAbs_right t b)) hb
theorem wmul {i j : Int} {n m : Nat} (hi : i.natAbs < 2 ^ n) (hj : j.natAbs < 2 ^ m) (h : n + m ≤ 9000) : CMulW i j :=
  wide_mul (a := n + 1) (b := m + 1) (Fr.up hi (Nat.le_succ _)) (Fr.up hj (Nat.le_succ _)) (Nat.succ_pos _) (Nat.succ_pos _) (by omega)
theorem at0 (q : Rat) : atI (rp q) 0 = some (.int q.num) := atI_nat (j := 0) rfl
theorem at1 (q : Rat) : atI (rp q) 1 = some (.int (q.den : Int)) := atI_nat (j := 1) rfl
/-- a fraction made of two -/
def spBin (K : PySem.W.Frag) (g : Rat → Rat → Rat) : Sp := fun vs H Q _ => ∃ (a b : Addr) (x y : Rat) (n m : Nat), vs = [.ref a, .ref b] ∧ SqT K H a (rp x) ∧ SqT K H b (rp y) ∧ Bd n x ∧ Bd m y ∧ n + m ≤ 8900 ∧ ∀ p, H p = none → Q (.ref p) (upd H p (.tup (rp (g x y))))
def spUnder (K : PySem.W.Frag) : Sp := fun vs H Q _ => ∃ (a b : Addr) (x y : Rat) (n m : Nat), vs = [.ref a, .ref b] ∧ SqT K H a (rp x) ∧ SqT K H b (rp y) ∧ Bd n x ∧ Bd m y ∧ n + m ≤ 8900 ∧ Q (.bl (decide (x.num * y.den < y.num * x.den))) H
theorem abs_eq (x : Int) : (if x < 0 then -x else x) = (x.natAbs : Int) := by split <;> omega
theorem tyT {K : PySem.W.Frag} {H : Hp} {a : Addr} {xs : List V} (h : SqT K H a xs) : TyX K H (.ref a) (.type "tuple") := by
  rcases h with (h | ⟨o, h⟩) | ⟨o, its, n, e, c, _⟩
  · exact .base (.tup h)
  · exact .fTuple h
  · exact .kTuple e c
/-- what the module leaves of the built-in names -/
structure Blt (mg : Str → Option Value) : Prop where
  abs_ : mg "abs" = none
  isinstance_ : mg "isinstance" = none
  int_ : mg "int" = none
  bool_ : mg "bool" = none
  tuple_ : mg "tuple" = none
  list_ : mg "list" = none
  len_ : mg "len" = none
  range_ : mg "range" = none
  str_ : mg "str" = none
  repr_ : mg "repr" = none
  sum_ : mg "sum" = none
  all_ : mg "all" = none
  any_ : mg "any" = none
  enumerate_ : mg "enumerate" = none
  zip_ : mg "zip" = none
  min_ : mg "min" = none
  max_ : mg "max" = none
  sorted_ : mg "sorted" = none
  ValueError_ : mg "ValueError" = none
  ZeroDivisionError_ : mg "ZeroDivisionError" = none
  OverflowError_ : mg "OverflowError" = none
  IndexError_ : mg "IndexError" = none
  LookupError_ : mg "LookupError" = none
  ArithmeticError_ : mg "ArithmeticError" = none
  KeyError_ : mg "KeyError" = none
  RuntimeError_ : mg "RuntimeError" = none
/-- a list of fractions: its items, and what they are worth -/
structure FrL (K : PySem.W.Frag) (H : Hp) (refs : List V) (qs : List Rat) : Prop where
  len : refs.length = qs.length
  at_ : ∀ (i : Nat) (v : V), refs[i]? = some v → ∃ (a : Addr) (q : Rat), qs[i]? = some q ∧ v = .ref a ∧ SqT K H a (rp q) ∧ Bd 100 q
theorem FrL.keep {K : PySem.W.Frag} {H H' : Hp} {refs : List V} {qs : List Rat} (h : FrL K H refs qs) (k : ∀ a xs, SqT K H a xs → SqT K H' a xs) : FrL K H' refs qs :=
  ⟨h.len, fun i v e => let ⟨a, q, e1, e2, e3, e4⟩ := h.at_ i v e; ⟨a, q, e1, e2, k _ _ e3, e4⟩⟩
theorem FrL.same {K : PySem.W.Frag} {H H' : Hp} {refs : List V} {qs : List Rat} (h : FrL K H refs qs) (e : Same H H') : FrL K H' refs qs := h.keep fun _ _ => seqT e
theorem FrL.nil {K : PySem.W.Frag} {H : Hp} : FrL K H [] [] := ⟨rfl, fun i v e => by simp at e⟩
theorem FrL.snoc {K : PySem.W.Frag} {H : Hp} {refs : List V} {qs : List Rat} {a : Addr} {q : Rat} (h : FrL K H refs qs) (ha : SqT K H a (rp q)) (hb : Bd 100 q) : FrL K H (refs ++ [.ref a]) (qs ++ [q]) := by
  refine ⟨by rw [List.length_append, List.length_append, h.len]; rfl, fun i v e => ?_⟩
  by_cases hi : i < refs.length
  · rw [List.getElem?_append_left hi] at e
    obtain ⟨a', q', e1, e2, e3, e4⟩ := h.at_ i v e
    exact ⟨a', q', by rw [List.getElem?_append_left (by rw [← h.len]; exact hi)]; exact e1, e2, e3, e4⟩
  · rw [List.getElem?_append_right (by omega)] at e
    have e0 : i - refs.length = 0 := by
      cases z : i - refs.length with
      | zero => rfl
      | succ j => rw [z] at e; simp at e
    rw [e0] at e
    have ev : (V.ref a) = v := Option.some.inj e
    refine ⟨a, q, ?_, ev.symm, ha, hb⟩
    rw [List.getElem?_append_right (by rw [← h.len]; omega), ← h.len, e0]
    rfl
theorem keep_lst {K : PySem.W.Frag} {H : Hp} {l : Addr} {ys zs : List V} (hl : H l = some (.lst ys)) : ∀ a xs, SqT K H a xs → SqT K (upd H l (.lst zs)) a xs := fun a xs h => by
  rcases h with (h | ⟨o, h⟩) | h
  · exact .inl (.inl (by rw [upd_ne (ne_of h hl (by intro z; cases z))]; exact h))
  · exact .inl (.inr ⟨o, by rw [upd_ne (ne_of h hl (by intro z; cases z))]; exact h⟩)
  · exact .inr h
theorem sum_snoc {qs : List Rat} {i : Nat} {q : Rat} (h : qs[i]? = some q) : (qs.take (i + 1)).sum = (qs.take i).sum + q := by
  rw [List.take_add_one, h, List.sum_append]
  show _ + ([q] : List Rat).sum = _
  rw [List.sum_cons, List.sum_nil, Rat.add_zero]
def spLeft : Sp := fun vs H Q _ => ∃ c : Int, vs = [.int c] ∧ ∀ p n, H p = none → Q (.ref p) (upd H p (.lst [.int n]))
def spDigit : Sp := fun vs H Q _ => ∃ (l : Addr) (n m : Int), vs = [.ref l, .int m] ∧ H l = some (.lst [.int n]) ∧ 0 < m ∧ m.natAbs < 2 ^ 200 ∧ ∀ d n' : Int, 0 ≤ d → d < m → Q (.int d) (upd H l (.lst [.int n']))
theorem lt100 {i : Int} (h : i.natAbs ≤ 10 ^ 20) : i.natAbs < 2 ^ 100 := Nat.lt_of_le_of_lt h (by decide)
/-- a fraction as data -/
def dR (q : Rat) : PyData := .tuple [.int q.num, .int (q.den : Int)]
theorem dp_r {K : PySem.W.Frag} {H : Hp} {a : Addr} {q : Rat} (h : SqT K H a (rp q)) : Dp K H (.ref a) (dR q) := .tup h (.cons (.int _) (.cons (.int _) .nil))
theorem dR_lay (q : Rat) : (dR q).canLay0 = true := rfl
theorem dR_depth (q : Rat) : (dR q).depth = 1 := rfl
theorem dR_shaped (q : Rat) : SeqAt.shaped (dR q) = true := rfl
theorem FrL.dp {K : PySem.W.Frag} {H : Hp} : ∀ {refs : List V} {qs : List Rat}, FrL K H refs qs → DpAll K H refs (qs.map dR)
  | [], [], _ => .nil
  | [], _ :: _, h => by have := h.len; simp at this
  | _ :: _, [], h => by have := h.len; simp at this
  | v :: refs, q :: qs, h => by
    obtain ⟨a, q', e1, rfl, e3, _⟩ := h.at_ 0 v rfl
    have e : q = q' := Option.some.inj e1
    subst e
    refine .cons (dp_r e3) (FrL.dp ⟨by have := h.len; simpa using this, fun i v e => ?_⟩)
    exact h.at_ (i + 1) v e
theorem lays : ∀ qs : List Rat, PyData.canLayAll0 (qs.map dR) = true
  | [] => rfl
  | q :: qs => by
    show (PyData.canLay0 (dR q) && PyData.canLayAll0 (qs.map dR)) = true
    rw [lays qs]
    rfl
theorem deps : ∀ qs : List Rat, PyData.depthAll (qs.map dR) ≤ 1
  | [] => by decide
  | q :: qs => by
    have := deps qs
    show max (PyData.depth (dR q)) (PyData.depthAll (qs.map dR)) ≤ 1
    rw [dR_depth]
    omega
theorem list_lay (qs : List Rat) : (PyData.list (qs.map dR)).canLay0 = true := lays qs
theorem list_shaped (qs : List Rat) : SeqAt.shaped (.list (qs.map dR)) = true := by
  unfold SeqAt.shaped
  rw [list_lay, Bool.true_and]
  refine decide_eq_true ?_
  have := deps qs
  show PyData.depthAll (qs.map dR) + 1 ≤ 64
  omega
theorem FrL.rev {K : PySem.W.Frag} {H : Hp} {refs : List V} {qs : List Rat} (h : FrL K H refs qs) : FrL K H refs.reverse qs.reverse := by
  refine ⟨by rw [List.length_reverse, List.length_reverse, h.len], fun i v e => ?_⟩
  have hi : i < refs.length := by
    have := (List.getElem?_eq_some_iff.mp e).1
    rw [List.length_reverse] at this
    exact this
  rw [List.getElem?_reverse hi] at e
  obtain ⟨a, q, e1, e2, e3, e4⟩ := h.at_ _ v e
  refine ⟨a, q, ?_, e2, e3, e4⟩
  rw [List.getElem?_reverse (by rw [← h.len]; exact hi), ← h.len]
  exact e1
theorem cut_mem {xs : List V} {lo hi : Option Int} {x : V} (h : x ∈ cutV xs lo hi) : x ∈ xs := List.mem_of_mem_drop (List.mem_of_mem_take h)
theorem FrL.mem {K : PySem.W.Frag} {H : Hp} {refs : List V} {qs : List Rat} {v : V} (h : FrL K H refs qs) (hv : v ∈ refs) : ∃ (a : Addr) (q : Rat), v = .ref a ∧ SqT K H a (rp q) ∧ Bd 100 q := by
  obtain ⟨i, hi, e⟩ := List.getElem_of_mem hv
  obtain ⟨a, q, _, e2, e3, e4⟩ := h.at_ i v (by rw [List.getElem?_eq_getElem hi, e])
  exact ⟨a, q, e2, e3, e4⟩
theorem int_of {ns : List Int} {x : V} {lo hi : Option Int} {z : Int} {i : Nat} (h : (cutV (ns.map V.int) lo hi ++ [V.int z])[i]? = some x) : ∃ c : Int, x = .int c := by
  have hm := List.mem_of_getElem? h
  rcases List.mem_append.mp hm with hm | hm
  · obtain ⟨c, _, e⟩ := List.mem_map.mp (cut_mem hm)
    exact ⟨c, e.symm⟩
  · exact ⟨z, by simpa using hm⟩
/-- an error of the class at S is what «except S» names -/
theorem exm_self {K : PySem.W.Frag} {S : Addr} (h1 : PySem.W.subIn K (.ref S) (.type "BaseException") = some true) (h2 : PySem.W.isClsIn K S = true) (h3 : PySem.W.typeIn K (.ref S) = some (.type "type")) (h4 : PySem.W.subIn K (.ref S) (.ref S) = some true) :
    PySem.W.exmOne K (.ref S) (.ref S) = some true := by
  have e1 : (PySem.W.subIn K (.ref S) (.type "BaseException") == some true) = true := by rw [h1] <;> rfl
  have e2 : ((PySem.W.clsIn K S).isSome && PySem.W.typeIn K (.ref S) == some (.type "type")) = true := by
    have h2' : (PySem.W.clsIn K S).isSome = true := h2
    rw [h2', h3] <;> rfl
  show (if (PySem.W.subIn K (.ref S) (.type "BaseException") == some true) = true then (if ((PySem.W.clsIn K S).isSome && PySem.W.typeIn K (.ref S) == some (.type "type")) = true then PySem.W.subIn K (.ref S) (.ref S) else none) else none) = some true
  rw [if_pos e1, if_pos e2]
  exact h4
end Co

set_option Elab.async false
set_option linter.all false
set_option maxRecDepth 100000
set_option maxHeartbeats 4000000
namespace EXB
open PySem PySem.Spec PyProof.Rows L2
/-- what the written part says of an own error class over B -/
structure ExC (K : PySem.W.Frag) (C : Addr) (newId : String) (bmB : List Value) : Prop where
  cls : ∃ nm q N bs sn sub ab col dd k0 k1 k2 k3 k5, K.lookup C = some (excClassObj nm q C N bs bmB true sn sub ab col dd k0 k1 k2 k3 k5 newId)
  exC : PySem.W.subIn K (.ref C) (.type "BaseException") = some true
  tyC : PySem.W.typeIn K (.ref C) = some (.type "type")
  kC : PySem.W.keepIn K (.ref C) = true
section
variable {X : Cx} {pins : List (Addr × Obj)} {σ : L2.St} {H : Hp} {s : Shared} {a C : Addr} {A : Around} {E : Value → Shared → Prop} {B newId initId : String} {bmB : List Value}
/-- B.__init__(self, ..): nothing of it is told -/
theorem einit_ok {us : List Value} {Q : Value → Shared → Prop} (Fb : ExcBaseFacts B newId initId bmB) (T : ExC X.K C newId bmB) (I : Inv X pins σ H s) (e : H a = some (exo a C none)) (hl : us.length ≤ sizeLine) (h : ∀ s', Inv X pins σ H s' → Q .none s') :
    wpAny (model X.prog X.w) A (call (.builtin initId) (.ref a :: us)) Q E s := by
  obtain ⟨nm, q, N, bs, sn, sub, ab, col, dd, k0, k1, k2, k3, k5, hC⟩ := T.cls
  obtain ⟨t1, ho⟩ := exo_at I.hok e
  obtain ⟨hp, g, d, t, os⟩ := s
  refine wpAny_call (PySem.HandSPX.init_base Fb (fun Y => rfl) (I.kIn _ _ hC) ho hl fun h' t2 k hx => ?_)
  have J := I.write (t' := t) (x := a) (e := a) (o := exo a C none) (by rw [e]; exact True.intro) (.inl rfl) k ⟨_, hx⟩ (exo_ok hx)
  have eu : upd H a (exo a C none) = H := by
    funext b
    by_cases hb : b = a
    · rw [hb, upd_same, e]
    · rw [upd_ne hb]
  rw [eu] at J
  exact h _ J
end
def tExI (K : PySem.W.Frag) (newId : String) (bmB : List Value) (ta : TA) : TE := fun σ H Q => ta σ H fun vs H1 => ∃ (a C : Addr) (ws : List V), vs = .ref a :: ws ∧ ws.length ≤ 1000 ∧ ExC K C newId bmB ∧ H1 a = some (exo a C none) ∧ Q .non H1
section
variable {X : Cx} {e : Expr} {es : List Expr} {ta : TA} {p p1 p2 pos : Pos} {B newId initId : String} {bmB : List Value}
theorem typ_ZD : typeOf (.type "ZeroDivisionError") = pure (.type "type") := by kernel_rfl
theorem pe_zdinit {pl : Sem Bool} (hg : Gl X "ZeroDivisionError") (hm : X.mg "ZeroDivisionError" = none) (vV : PySem.W.findCls X.K (.type "ZeroDivisionError") (.type "type") "__init__" = some (.val (.builtin "ZeroDivisionError.__init__"))) (ha : PA X (e :: es) ta)
    (hc : eval (.Call (.Attribute (.Name "ZeroDivisionError" p1) "__init__" p2) (e :: es) [] pos) X.env = (do
      let ov ← eval (.Name "ZeroDivisionError" p1) X.env
      standAt p2.atName
      let (f, first) ← holding [ov] (getMethod ov "__init__" pl)
      callWith pos f first (backTo pos (starEach (e :: es) X.env)) (backToKw pos (keywordEach [] X.env))) := by rfl)
    (he : starEach (e :: es) X.env = (false, eval e X.env) :: starEach es X.env := by rfl) (hpl : (backTo pos (starEach es X.env)).any (·.1) = false := by rfl) :
    PE X (.Call (.Attribute (.Name "ZeroDivisionError" p1) "__init__" p2) (e :: es) [] pos) (tExI X.K "ZeroDivisionError.__new__" [.type "ZeroDivisionError", .type "ArithmeticError", .type "Exception", .type "BaseException", .type "object"] ta) := by
  refine ⟨fun pins s σ H Q I h => ?_⟩
  refine PySem.W.methodCall_KW (ld_blt I hg hm PyProof.Rows.Boot.«ZeroDivisionError» ?_ (by decide) (by decide)) hc
  obtain ⟨m, fr⟩ := I.fr
  refine PySem.W.method_type fr I.ok.mod.kin typ_ZD (by decide +kernel) vV (by decide +kernel) ?_
  show wpAny _ _ (callWith pos (Value.builtin "ZeroDivisionError.__init__") [] (backTo pos (starEach (e :: es) X.env)) []) _ _ _
  refine PyProof.Rows.callWith_method1 (thn (ha.run pos pins _ σ H _ (I.tok _) h) fun us s1 ⟨vs, H1, I1, r1, a, C, ws, ev, hl, T, ea, q⟩ => ?_) he hpl
  subst ev
  cases r1 with
  | @cons _ u0 _ ur ra rw' =>
    obtain rfl : u0 = Value.ref a := ra
    have hlen : ur.length ≤ sizeLine := by
      rw [← Paired.length rw', sizeLine_eq]
      omega
    exact einit_ok PySem.F.excBase_ZeroDivisionError T I1 ea hlen fun s' J => ⟨.non, H1, J, rfl, q⟩
/-- the end of C(..), no field: the exception is let go -/
theorem mk_endN {pins : List (Addr × Obj)} {σ : L2.St} {H1 H2 : Hp} {Q : XK} {hp hp2 h2 : Heap} {g1 g2 : Array GenState} {d1 d2 : Drawn} {t1 t2 : Nat} {os1 os2 : OsState} {a C : Addr} (T : Raises X (.ref C)) (I1 : Inv X pins σ H1 ⟨hp, g1, d1, t1, os1⟩)
    (ha : hp.objs.size ≤ a) (k : ∀ b o, hp.get? b = some o → hp2.get? b = some o) (un : Un (frs X.stack) [] (upd H1 a (exo a C none)) H2 hp2 h2) (hok : HOk X.prog X.w H2 h2) (ho : os2 = os1) (hb : AllBare g2)
    (ea : H2 a = some (exo a C none)) (q : Q (.ref C) none (del H2 a)) : MkP X pins σ Q (.ref a) ⟨h2, g2, d2, t2, os2⟩ := by
  obtain ⟨t0, hoe⟩ := exo_at hok ea
  have hn : H1 a = none := I1.hok.fresh ha
  obtain ⟨G, g1', g2'⟩ := restrict h2 fun b => decide (b ≠ a)
  have gk : ∀ b, b ≠ a → G.get? b = h2.get? b := fun b hb => g1' b (decide_eq_true hb)
  have ge : G.get? a = none := g2' a (by simp)
  have nha : ∀ {b : Addr} {o : Obj}, hp.get? b = some o → b ≠ a := fun {b o} z => Nat.ne_of_lt (Nat.lt_of_lt_of_le (Heap.lt_size z) ha)
  have up : ∀ {b : Addr}, b ≠ a → H1 b = none → upd H1 a (exo a C none) b = none := fun {b} hb n => by rw [upd_ne hb]; exact n
  have U : Un (frs X.stack) [] H1 (del H2 a) hp G := {
    keep := fun b o z n hf hx => by
      rw [gk b (nha z)]
      exact un.keep b o (k b o z) (up (nha z) n) hf hx
    slot := fun b o z n hf hx => by
      rw [gk b (nha z)]
      exact un.slot b o (k b o z) (up (nha z) n) hf hx
    free := fun b o z n hx => by
      rw [del_ne (nha z)]
      exact un.free b o (k b o z) (up (nha z) n) hx
    there := fun b o z hx => by
      rw [gk b (nha z)]
      exact un.there b o (k b o z) hx
    tups := fun b xs z => by
      rw [del_ne (ne_of_none z hn)]
      exact un.tups b xs (by rw [upd_ne (ne_of_none z hn)]; exact z)
    frzs := fun b o v z => by
      rw [del_ne (ne_of_none z hn)]
      exact un.frzs b o v (by rw [upd_ne (ne_of_none z hn)]; exact z)
    tbls := fun b ps z => by
      rw [del_ne (ne_of_none z hn)]
      exact un.tbls b ps (by rw [upd_ne (ne_of_none z hn)]; exact z) }
  have hok3 : HOk X.prog X.w (del H2 a) G := fun b o z => by
    have hba : b ≠ a := fun e => by
      rw [e, del_same] at z
      cases z
    rw [del_ne hba] at z
    have noa : ∀ {c : Addr}, H2 c = some (.own b) → c ≠ a := fun {c} hc => at_ne ea hc exo_own
    exact (hok b o z).stay (fun c v hc y => by
        have hca : c ≠ a := by
          rcases hc with hc | hc
          · rw [hc]
            exact hba
          · exact noa hc
        rw [gk c hca]
        exact y)
      (fun c hc => by rw [del_ne (noa hc)]; exact hc) (fun c xs hc => by rw [del_ne (at_ne ea hc exo_tup)]; exact hc)
  have J : Inv X pins σ (del H2 a) ⟨G, g2, d2, t2, os2⟩ := I1.call' (ch := []) ho U hok3 hb (fun b z => absurd z (by simp))
  refine ⟨a, _, _, ⟨G, g2, d2, t2, os2⟩, _, .ref C, none, rfl, J, fun b o z => ?_, ge, hoe, ⟨rfl, rfl⟩, rfl, rfl, del_same, rfl, hb, T, q⟩
  by_cases hba : b = a
  · have z' : G.get? b = some o := z
    rw [hba, ge] at z'
    cases z'
  · exact (gk b hba).symm.trans z
/-- the promise of an __init__ that makes no field -/
def spEi (C : Addr) : Sp := fun vs H Q _ => ∃ a, vs = [.ref a] ∧ H a = some (exo a C none) ∧ Q .non H
/-- C(), C's __init__ making no field -/
theorem pmk_exN {x : Str} {C fI : Addr} {k : Nat} {fd : FuncData} {ps : List Str} (Fb : ExcBaseFacts B newId initId bmB) (T : ExC X.K C newId bmB) (iC : PySem.W.findIn X.K (.ref C) "__init__" = some (some (.ref fI))) (tI : PySem.W.typeIn X.K (.ref fI) = some (.type "function"))
    (F1 : FnOk X.prog X.w X.K X.mg X.base CX0 k fI fd ps (spEi C)) (hr : Room (k + 1) X.A) (hb : Binds X.K fd ps []) (hg : Gl X x) (hm : X.mg x = some (.ref C))
    (hdb : (x == ("__debug__" : Str)) = false := by decide) :
    PMk X (.Call (.Name x p) [] [] pos) (fun _ H Q => Q (.ref C) none H) := by
  intro pins s σ H Q I h
  obtain ⟨nm, q, N, bs, sn, sub, ab, col, dd, k0, k1, k2, k3, k5, hC⟩ := T.cls
  refine wpAny_Call_Name_kw (ld_glob I hg hm ?_ hdb)
  refine PySem.W.callWith_K0 I.kIn T.kC ?_
  show wpAny _ _ (call (.ref C) []) _ _ _
  obtain ⟨hp, g, dr, tk, os⟩ := s
  have hsz : hp.objs.size ≤ hp.objs.size + 1 := Nat.le_succ _
  have hn : H (hp.objs.size + 1) = none := I.hok.fresh hsz
  have kk : ∀ b o, hp.get? b = some o → ((hp.push (PySem.W.kdv_tup [])).push (PySem.HandSPX.excO C hp.objs.size)).get? b = some o := fun b o e => Heap.get?_push_of_some _ (Heap.get?_push_of_some _ e)
  have hget : ((hp.push (PySem.W.kdv_tup [])).push (PySem.HandSPX.excO C hp.objs.size)).get? (hp.objs.size + 1) = some (PySem.HandSPX.excO C hp.objs.size) := by heap_get
  have I2 : Inv X pins σ (upd H (hp.objs.size + 1) (exo (hp.objs.size + 1) C none)) ⟨(hp.push (PySem.W.kdv_tup [])).push (PySem.HandSPX.excO C hp.objs.size), g, dr, tk, os⟩ :=
    I.laid (t' := tk) (a := hp.objs.size + 1) (o := exo (hp.objs.size + 1) C none) (h' := (hp.push (PySem.W.kdv_tup [])).push (PySem.HandSPX.excO C hp.objs.size)) kk hsz (exo_ok hget)
  have r2 : Vals [V.ref (hp.objs.size + 1)] [Value.ref (hp.objs.size + 1)] := .cons rfl .nil
  have hq : spEi C [V.ref (hp.objs.size + 1)] (upd H (hp.objs.size + 1) (exo (hp.objs.size + 1) C none)) (fun v H2 => v = .non ∧ H2 = upd H (hp.objs.size + 1) (exo (hp.objs.size + 1) C none)) (fun _ _ _ => False) :=
    ⟨_, rfl, upd_same, rfl, rfl⟩
  have hl : ([Value.ref (hp.objs.size + 1)] ++ []).length = ps.length := by
    have e := r2.length
    rw [F1.len _ _ _ _ hq] at e
    exact e.symm
  refine wpAny_call (PySem.HandSPX.call_own Fb (fun Y => rfl) (I.kIn _ _ hC) (PySem.W.looks_findIn I.kIn iC) (fun self => PySem.W.bind_fn I.kIn self tI) (Nat.zero_le _)
    (codeAny_mono (F1.run _ X.stack _ _ ⟨[Value.ref (hp.objs.size + 1)], []⟩ [Value.ref (hp.objs.size + 1)] _ _ (fun _ _ _ => False) (hr.make C [] []) (I2.env0.make C [] []) (hb _ [Value.ref (hp.objs.size + 1)] I2.kIn hl) r2 hq) fun r s' hq' => ?_))
  cases r with
  | error er => exact False.elim hq'
  | ok fl =>
    cases fl with
    | ret u =>
      obtain ⟨v, H2, os2, bare2, un2, hok2, rv, ev, eH⟩ := hq'
      subst ev
      subst eH
      obtain ⟨h2, g2, d2, t2, os'⟩ := s'
      refine ⟨rv, mk_endN (raises_own T.exC T.tyC) I hsz kk un2 hok2 os2 bare2 upd_same ?_⟩
      have eD : del (upd H (hp.objs.size + 1) (exo (hp.objs.size + 1) C none)) (hp.objs.size + 1) = H := by
        funext b
        by_cases hb : b = hp.objs.size + 1
        · rw [hb, del_same]
          exact hn.symm
        · rw [del_ne hb, upd_ne hb]
      rw [eD]
      exact h
    | next => exact False.elim hq'
    | brk => exact False.elim hq'
    | cont => exact False.elim hq'
end
/-! ### an own error over ValueError with one field -/
/-- the promise of an __init__ that makes the field f -/
def spE1 (C : Addr) (f : Str) : Sp := fun vs H Q _ => ∃ a v, vs = [.ref a, v] ∧ H a = some (exo a C none) ∧ ∀ dx, H dx = none → dx ≠ a → Q .non (upd (upd H dx (exd dx [(f, v)])) a (exo a C (some dx)))
/-- the same of two fields -/
def spE2 (C : Addr) (f g : Str) : Sp := fun vs H Q _ => ∃ a v u, vs = [.ref a, v, u] ∧ H a = some (exo a C none) ∧ ∀ dx, H dx = none → dx ≠ a → Q .non (upd (upd H dx (exd dx [(g, u), (f, v)])) a (exo a C (some dx)))
theorem heap_out {H : Hp} {a dx C : Addr} {fs : List (Str × V)} (ha : H a = none) (hd : dx ≠ a) : upd (del (upd (upd (upd H a (exo a C none)) dx (exd dx fs)) a (exo a C (some dx))) a) dx (.xd fs) = upd H dx (.xd fs) := by
  funext b
  by_cases h1 : b = dx
  · rw [h1, upd_same, upd_same]
  · rw [upd_ne h1, upd_ne h1]
    by_cases h2 : b = a
    · rw [h2, del_same, ha]
    · rw [del_ne h2, upd_ne h2, upd_ne h1, upd_ne h2]
theorem mk1 {C : Addr} {f : Str} {H : Hp} {v : V} {Q : XK} (h : ∀ dx, H dx = none → Q (.ref C) (some dx) (upd H dx (.xd [(f, v)]))) :
    [v].length ≤ 1000 ∧ ∀ a, H a = none → spE1 C f (.ref a :: ([v] ++ [])) (upd H a (exo a C none)) (fun v H2 => v = .non ∧ ∃ (d : Addr) (fs : List (Str × V)), H2 a = some (exo a C (some d)) ∧ H2 d = some (exd d fs) ∧ H d = none ∧ Q (.ref C) (some d) (upd (del H2 a) d (.xd fs))) (fun _ _ _ => False) := by
  refine ⟨by show 1 ≤ 1000; decide, fun a ha => ⟨a, v, rfl, upd_same, fun dx hdx hne => ?_⟩⟩
  have h0 : H dx = none := by rw [upd_ne hne] at hdx; exact hdx
  refine ⟨rfl, dx, [(f, v)], upd_same, by rw [upd_ne hne, upd_same], h0, ?_⟩
  rw [heap_out ha hne]
  exact h dx h0
theorem mk2 {C : Addr} {f g : Str} {H : Hp} {v u : V} {Q : XK} (h : ∀ dx, H dx = none → Q (.ref C) (some dx) (upd H dx (.xd [(g, u), (f, v)]))) :
    [v, u].length ≤ 1000 ∧ ∀ a, H a = none → spE2 C f g (.ref a :: ([v, u] ++ [])) (upd H a (exo a C none)) (fun v H2 => v = .non ∧ ∃ (d : Addr) (fs : List (Str × V)), H2 a = some (exo a C (some d)) ∧ H2 d = some (exd d fs) ∧ H d = none ∧ Q (.ref C) (some d) (upd (del H2 a) d (.xd fs))) (fun _ _ _ => False) := by
  refine ⟨by show 2 ≤ 1000; decide, fun a ha => ⟨a, v, u, rfl, upd_same, fun dx hdx hne => ?_⟩⟩
  have h0 : H dx = none := by rw [upd_ne hne] at hdx; exact hdx
  refine ⟨rfl, dx, [(g, u), (f, v)], upd_same, by rw [upd_ne hne, upd_same], h0, ?_⟩
  rw [heap_out ha hne]
  exact h dx h0
end EXB

set_option Elab.async false
set_option linter.all false
set_option maxRecDepth 100000
set_option maxHeartbeats 4000000
namespace BX
open PySem PySem.Spec PyProof.Rows L2
section
variable {X : Cx} {CX : CXT} {k : Nat} {f : Addr} {fd : FuncData} {ps ks : List Str} {sp : Sp} {E : L2.St → XK} {x : Str} {p pos : Pos} {e : Expr} {es : List Expr} {kws : List Keyword} {t tk : TA} {ds : List Value} {dvs : List V}
/-- a call with any arguments, what it raises being wished for at the caller's slots -/
theorem run_any {pins : List (Addr × Obj)} {σ : L2.St} {H : Hp} {s : Shared} {Q : VK} {us bs : List Value} {kw : List (Str × Value)} {vs : List V} (F : FnOkG X.prog X.w X.K X.mg X.base CX k f fd ps sp) (hr : Room k X.A) (hgd : X.A.guards = some []) (hx : PassesAt CX X σ (E σ))
    (I : Inv X pins σ H s) (hb : BindsTo s fd ⟨us, kw⟩ (ps.zip bs)) (r : Vals vs bs) (h : sp vs H Q (E σ)) : wpAny (model X.prog X.w) X.A (call (.ref f) us kw) (EP X pins σ Q) X.xe s := by
  refine wpAny_call (codeAny_mono (F.run X.A X.stack s H ⟨us, kw⟩ bs vs Q (E σ) hr hgd I.env0 hb r h) fun r s' hq => ?_)
  cases r with
  | error e => exact hx pins H s e s' I hq
  | ok fl =>
    cases fl with
    | ret u => exact I.after hq
    | next => exact False.elim hq
    | brk => exact False.elim hq
    | cont => exact False.elim hq
def tCallD (sp : Sp) (dvs : List V) (E : L2.St → XK) (t : TA) : TE := fun σ H Q => t σ H fun vs H1 => sp (vs ++ dvs) H1 Q (E σ)
/-- f(e, ..), the defaults behind them -/
theorem pe_callD (F : FnOkG X.prog X.w X.K X.mg X.base CX k f fd ps sp) (hr : Room k X.A) (hgd : X.A.guards = some []) (hg : Gl X x) (hm : X.mg x = some (.ref f)) (hk : PySem.W.keepIn X.K (.ref f) = true) (hb : Binds X.K fd ps ds) (hd : Vals dvs ds) (hx : ∀ σ, PassesAt CX X σ (E σ))
    (ha : PA X (e :: es) t) (hdb : (x == ("__debug__" : Str)) = false := by decide) (he : starEach (e :: es) X.env = (false, eval e X.env) :: starEach es X.env := by rfl) (hpl : (backTo pos (starEach es X.env)).any (·.1) = false := by rfl) :
    PE X (.Call (.Name x p) (e :: es) [] pos) (tCallD sp dvs E t) := by
  refine ⟨fun pins s σ H Q I h => ?_⟩
  refine wpAny_Call_Name_kw (ld_glob I hg hm ?_ hdb)
  refine PySem.W.callWith_K (h₀ := X.base) I.ok.mod.kin hk (thn (ha.run pos pins s σ H _ I h) fun us s1 ⟨vs, H1, I1, r, q⟩ => ⟨I1.kIn, ?_⟩) he hpl
  have r2 : Vals (vs ++ dvs) (us ++ ds) := r.append hd
  exact run_any F hr hgd (hx σ) I1 (hb s1 us I1.kIn (by rw [← r2.length]; exact F.len _ _ _ _ q)) r2 q
def tCallW (sp : Sp) (E : L2.St → XK) (tk : TA) : TE := fun σ H Q => tk σ H fun zs H1 => sp zs H1 Q (E σ)
/-- f(k = v, ..), all parameters by their names, in their order -/
theorem pe_callW (F : FnOkG X.prog X.w X.K X.mg X.base CX k f fd ps sp) (hr : Room k X.A) (hgd : X.A.guards = some []) (hg : Gl X x) (hm : X.mg x = some (.ref f)) (hk : PySem.W.keepIn X.K (.ref f) = true)
    (hb : ∀ (s : Shared) (ws : List Value), X.K.In s.heap → ws.length = ps.length → BindsTo s fd ⟨[], ps.zip ws⟩ (ps.zip ws)) (hx : ∀ σ, PassesAt CX X σ (E σ))
    (hkw : PK X kws tk) (hall : (backToKw pos (keywordEach kws X.env)).all (·.1.isSome) = true := by rfl) (hks : (backToKw pos (keywordEach kws X.env)).filterMap (·.1) = ps := by rfl)
    (hdb : (x == ("__debug__" : Str)) = false := by decide) (hpl : ((backTo pos (starEach [] X.env)).any (·.1) || (backToKw pos (keywordEach kws X.env)).any (·.1.isNone)) = false := by rfl) :
    PE X (.Call (.Name x p) [] kws pos) (tCallW sp E tk) := by
  refine ⟨fun pins s σ H Q I h => ?_⟩
  refine wpAny_Call_Name_kw (ld_glob I hg hm ?_ hdb)
  refine PySem.W.callWith_KW0 (h₀ := X.base) I.ok.mod.kin hk hall (thn (hkw.run pos pins s σ H _ I h) fun ws s2 ⟨zs, H2, I2, rz, q2⟩ => ⟨I2.kIn, ?_⟩) hpl
  rw [hks]
  exact run_any F hr hgd (hx σ) I2 (hb s2 ws I2.kIn (by rw [← rz.length]; exact F.len _ _ _ _ q2)) rz q2
end
end BX

set_option Elab.async false
set_option linter.all false
set_option maxRecDepth 100000
set_option maxHeartbeats 4000000
namespace BX
open PySem PySem.Spec PyProof.Rows L2
/-- the law's call, of a promise that holds where nothing is being shown -/
theorem law_callG {P : Program} {w : World} {K : PySem.W.Frag} {mg mb : Str → Option Value} {CX : CXT} {k : Nat} {fa a : Addr} {fd : FuncData} {x : Str} {sp : Sp} {s₁ : Shared} {vs : List Value} {ns : List Int}
    (KX : K.In s₁.heap) (hns : s₁.heap.Ns mainGlobals mg) (hb : s₁.heap.Ns builtinsNs mb) (hbb : ∀ x : Str, x ≠ "__name__" → mb x = bootBuiltins x) (hlim : s₁.heap.NoLimit) (hg : s₁.gens = #[])
    (ha : s₁.heap.get? a = some { cls := .type "list", data := .seq vs.toArray }) (hi : IntsAre vs ns) (hl : ns.length ≤ sizeLine) (hr : Room k callerA)
    (F : ∀ base : Heap, K.In base → base.Ns mainGlobals mg → FnOkG P w K mg base CX k fa fd [x] sp) (hbind : ∀ (s : Shared) (u : Value), BindsTo s fd ⟨[u], []⟩ [(x, u)])
    (hsp : ∀ H : Hp, Only H → SqL K H a (ns.map V.int) → sp [.ref a] H (fun v _ => v = .bl true) fun _ _ _ => False)
    (hCX : ∀ H e s', CX [] H s₁ (fun _ _ _ => False) e s' → False) :
    codeAny (model P w) callerA (.call (.ref fa) ⟨[.ref a], []⟩) (fun r s' => r = .ok (.ret (.bool true)) ∧ OldK s₁.heap s'.heap ∧ s'.os = s₁.os ∧ AllBare s'.gens) s₁ := by
  have rv := vals_ints hi
  have lenV := hi.length
  have core : ∀ H : Hp, Only H → SqL K H a (ns.map V.int) → HOk P w H s₁.heap → (∀ b, H b ≠ none → b = a) → (H a ≠ none → K.lookup a = none) →
      codeAny (model P w) callerA (.call (.ref fa) ⟨[.ref a], []⟩) (fun r s' => r = .ok (.ret (.bool true)) ∧ OldK s₁.heap s'.heap ∧ s'.os = s₁.os ∧ AllBare s'.gens) s₁ := by
    intro H hO hS hok hA hK
    have noA : ∀ {b : Addr} {o : Obj} {es : Array DictEntry} {ep : Nat}, s₁.heap.get? b = some o → o.data = .dict es ep → H b = none := fun {b o es ep} e dd => by
      cases q : H b with
      | none => rfl
      | some u =>
        have e' : b = a := hA b (by rw [q]; simp)
        rw [e', ha] at e
        cases e
        cases dd
    have nsK : ∀ {b : Addr} {m : Str → Option Value}, s₁.heap.Ns b m → (hidT s₁.heap H).Ns b m := fun {b m} ⟨o, es, ep, e, dd, r⟩ => ⟨o, es, ep, hidT_get e (noA e dd), dd, r⟩
    have hKb : K.In (hidT s₁.heap H) := fun b o e => hidT_get (KX b o e) (by
      cases q : H b with
      | none => rfl
      | some u =>
        have e' : b = a := hA b (by rw [q]; simp)
        rw [e'] at e q
        rw [hK (by rw [q]; simp)] at e
        cases e)
    have hM : Mod K mg (hidT s₁.heap H) := ⟨hKb, nsK hns, ⟨mb, nsK hb, hbb⟩, let ⟨mc, h1, h2⟩ := hlim; ⟨mc, nsK h1, h2⟩⟩
    have e0 : Env0 P w K mg (hidT s₁.heap H) callerA [] s₁ H := ⟨rfl, hM, fun b o e => of_hidT e, Nat.le_of_eq (hidT_size _ _), trivial, fun b hb => absurd (show b ∈ ([] : List Addr) from hb) (by simp), hok, .of_eq hg⟩
    refine codeAny_mono ((F _ hKb (nsK hns)).run callerA [] s₁ H ⟨[.ref a], []⟩ [.ref a] [.ref a] _ _ hr rfl e0 (hbind s₁ (.ref a)) (.cons rfl .nil) (hsp H hO hS)) fun r s' h => ?_
    cases r with
    | error e => exact (hCX H e s' h).elim
    | ok fl =>
      cases fl with
      | next => exact False.elim h
      | brk => exact False.elim h
      | cont => exact False.elim h
      | ret u =>
        obtain ⟨v, H', os, bare, un, hok', r', q⟩ := h
        have q' : v = .bl true := q
        subst q'
        obtain rfl : u = Value.bool true := r'
        refine ⟨rfl, OldK.of_keep fun b o e => ?_, os, bare⟩
        cases q : H b with
        | none => exact un.keep b o e q (by intro z; exact absurd (show b ∈ ([] : List Addr) from z) (by simp)) (by simp)
        | some u =>
          rcases hO b with z | ⟨ob, xs, z⟩
          · rw [q] at z; cases z
          · obtain ⟨e1, _⟩ := hok b _ z
            obtain ⟨e2, _⟩ := hok' b _ (un.frzs b ob _ z)
            rw [e] at e1; cases e1
            exact e2
  cases hk : K.lookup a with
  | some o =>
    have e := KX a o hk
    rw [ha] at e
    cases e
    refine core (fun _ => none) (fun _ => .inl rfl) (.inr ⟨_, vs.toArray, _, hk, rfl, rfl, rfl, by rw [List.size_toArray, lenV]; exact hl, by simpa using rv⟩) (fun b u z => by have z' : (none : Option HO) = some u := z; cases z') (fun b z => absurd rfl z) fun z => absurd rfl z
  | none =>
    refine core (fun b => if b = a then some (.frz { cls := .type "list", data := .seq vs.toArray } (.lst (ns.map V.int))) else none) (fun b => ?_) (.inl (.inr ⟨{ cls := .type "list", data := .seq vs.toArray }, if_pos rfl⟩)) (fun b u z => ?_) (fun b z => ?_) fun _ => hk
    · by_cases hb : b = a
      · exact .inr ⟨_, _, if_pos hb⟩
      · exact .inl (if_neg hb)
    · by_cases hb : b = a
      · have z' := (if_pos hb).symm.trans z
        cases z'
        subst hb
        exact ⟨ha, by rw [List.length_map]; exact hl, vs, _, rv, ha⟩
      · have z' := (if_neg hb).symm.trans z
        cases z'
    · by_cases hb : b = a
      · exact hb
      · exact absurd (if_neg hb) z
theorem walk_ofG {l : PySem.W.OpenLaw} {n k : Nat} {q : Program} {loose : List Str} {XP : (Str → Option Value) → Heap → Prop} {YP : World → Heap → Prop} {d : DefRec} {K : Params → PySem.W.Frag} {CX : World → CXT} {sp : World → Sp} {x : Str}
    (hn : l.most = some n) (hn2 : n ≤ sizeLine) (hdf : d.params.defaults = []) (hr : Room k callerA) (hY : ∀ (w : World) (h : Heap), YP w h → (K w.params).In h)
    (F : ∀ (w : World) (mg : Str → Option Value) (fa : Addr) (h : Heap), (K w.params).In h → h.Ns mainGlobals mg → mg d.name = some (.ref fa) →
      ∃ fd : FuncData, (∀ (s : Shared) (u : Value), BindsTo s fd ⟨[u], []⟩ [(x, u)]) ∧
        ∀ base : Heap, (K w.params).In base → base.Ns mainGlobals mg → FnOkG l.prog w (K w.params) mg base (CX w) k fa fd [x] (sp w))
    (hsp : ∀ (w : World) (H : Hp) (a : Addr) (ns : List Int), ns.length ≤ n → Only H → SqL (K w.params) H a (ns.map V.int) → sp w [.ref a] H (fun v _ => v = .bl true) fun _ _ _ => False)
    (hCX : ∀ (w : World) (H : Hp) (s : Shared) (e : Value) (s' : Shared), CX w [] H s (fun _ _ _ => False) e s' → False) :
    PySem.W.WalkO q loose XP YP l.row.toRowW d [] (fun f vs => PySem.call f vs) := by
  refine Att.attach_call hn hdf fun w s₀ s₁ mg mb fa o pm cd doc a vs ns G Y ho hd hcd hmg hobj hints hlen hg => ?_
  have KX := hY w _ Y
  obtain ⟨fd, hb, hF⟩ := F w mg fa _ KX G.T.g hmg
  exact law_callG KX G.T.g G.T.b G.T.builtins G.T.nolimit hg hobj hints (Nat.le_trans hlen hn2) hr hF hb (fun H hO hS => hsp w H a ns hlen hO hS) fun H e s' => hCX w H s₁ e s'
end BX

set_option Elab.async false
set_option linter.all false
set_option maxRecDepth 100000
set_option maxHeartbeats 4000000
namespace BX
open PySem PySem.Spec PyProof.Rows L2
def tMakeD (C : Addr) (sp : Sp) (dvs : List V) (E : L2.St → XK) (t : TA) : TE := fun σ H Q => t σ H fun vs H1 => ∀ x dx, H1 x = none → H1 dx = none → dx ≠ x → sp (.ref x :: (vs ++ dvs)) (upd (upd H1 dx (.own x)) x (.ins C dx [])) (fun v H2 => v = .non ∧ Q (.ref x) H2) (E σ)
section
variable {X : Cx} {CX : CXT} {k : Nat} {f C : Addr} {fd : FuncData} {ps : List Str} {sp : Sp} {E : L2.St → XK} {x : Str} {p pos : Pos} {e : Expr} {es : List Expr} {t : TA} {ds : List Value} {dvs : List V}
/-- C(e, ..), what its __init__ raises being wished for at the caller's slots -/
theorem pe_makeD (M : Mk X.K C f) (F : FnOk X.prog X.w X.K X.mg X.base CX k f fd ps sp) (hr : Room (k + 1) X.A) (hg : Gl X x) (hm : X.mg x = some (.ref C)) (hb : Binds X.K fd ps ds) (hd : Vals dvs ds) (hx : ∀ σ, PassesAt CX X σ (E σ))
    (ha : PA X (e :: es) t) (hdb : (x == ("__debug__" : Str)) = false := by decide) (he : starEach (e :: es) X.env = (false, eval e X.env) :: starEach es X.env := by rfl) (hpl : (backTo pos (starEach es X.env)).any (·.1) = false := by rfl) :
    PE X (.Call (.Name x p) (e :: es) [] pos) (tMakeD C sp dvs E t) := by
  refine ⟨fun pins s σ H Q I h => ?_⟩
  refine wpAny_Call_Name_kw (ld_glob I hg hm ?_ hdb)
  refine PySem.W.callWith_K (h₀ := X.base) I.ok.mod.kin M.kp (thn (ha.run pos pins s σ H _ I h) fun us s1 ⟨vs, H1, I1, r, q⟩ => ⟨I1.kIn, ?_⟩) he hpl
  have hq := q (s1.heap.objs.size + 1) s1.heap.objs.size (I1.hok.fresh (Nat.le_succ _)) (I1.hok.fresh (Nat.le_refl _)) (Nat.ne_of_lt (Nat.lt_succ_self _))
  have I2 := Inv.made (C := C) I1
  have r2 : Vals (V.ref (s1.heap.objs.size + 1) :: (vs ++ dvs)) (Value.ref (s1.heap.objs.size + 1) :: (us ++ ds)) := .cons rfl (r.append hd)
  have hl : (Value.ref (s1.heap.objs.size + 1) :: us ++ ds).length = ps.length := by
    have z := r2.length
    rw [F.len _ _ _ _ hq] at z
    exact z.symm
  refine wpAny_call (make_map (f := f) I1.kIn M.makes M.init (beq_iff_eq.mp M.fn) (codeAny_mono (F.run _ X.stack _ _ ⟨Value.ref (s1.heap.objs.size + 1) :: us, []⟩ (Value.ref (s1.heap.objs.size + 1) :: (us ++ ds)) _ _ (E σ) (hr.make C us [])
    (I2.env0.make C us []) (hb _ (Value.ref (s1.heap.objs.size + 1) :: us) I2.kIn hl) r2 hq) fun r s' hq' => ?_))
  cases r with
  | error er => exact hx σ pins _ _ er s' I2 hq'
  | ok fl =>
    cases fl with
    | ret u =>
      obtain ⟨v, H', I3, rv, ev, q3⟩ := I2.after hq'
      subst ev
      exact ⟨rv, ⟨V.ref (s1.heap.objs.size + 1), H', I3, rfl, q3⟩⟩
    | next => exact False.elim hq'
    | brk => exact False.elim hq'
    | cont => exact False.elim hq'
end
end BX

set_option Elab.async false
set_option linter.all false
set_option maxRecDepth 100000
set_option maxHeartbeats 4000000
namespace EXB
open PySem PySem.Spec PyProof.Rows L2
/-- an own error class over B whose fields are stored as an object's -/
structure ExS (K : PySem.W.Frag) (C : Addr) (newId : String) (bmB : List Value) : Prop where
  c : ExC K C newId bmB
  sa : PySem.W.findIn K (.ref C) "__setattr__" = some (some (.builtin "object.__setattr__"))
section
open Builtin Builtin.ObjectAttr
variable {prog : Program} {w : World} {A : Around} {hp : Heap} {g : Array GenState} {d : Drawn} {t : Nat} {os : OsState} {R : Result → Shared → Prop}
/-- the first field of an own error over any base whose types let it by -/
theorem osaG {K : W.Frag} {nmf : Str} {tk : Tok} {v : Value} {x C : Addr} {fv : Array Value} {cd : ClassData} {bmB : List Value} {B : String} (SB : StoreFacts B bmB "object.__setattr__" "object") (hobj : bmB.contains (.type "object") = true)
    (X : K.In hp) (hx : hp.get? x = some { cls := .ref C, data := .fields fv }) (hcd : W.clsIn K C = some cd) (hm : cd.mro = .ref C :: bmB) (hh : cd.hasDict = true) (ha : W.findIn K (.ref C) nmf = some none)
    (hq : ∀ h2 tk2 dx, (∀ b o, b ≠ x → hp.get? b = some o → h2.get? b = some o) → hp.objs.size ≤ dx → dx ≠ x → h2.get? x = some { cls := .ref C, dict := some dx, data := .fields fv } → h2.Ns1 dx (fun y => if y = nmf then some v else none) → R (.ok (.ret .none)) ⟨h2, g, d, tk2, os⟩) :
    codeAny (model prog w) A (.call (.builtin "object.__setattr__") ⟨[.ref x, .str nmf tk, v], []⟩) R ⟨hp, g, d, t, os⟩ := by
  have J : W.InstAt hp x { cls := .ref C, data := .fields fv } C none := ⟨hx, rfl, rfl, trivial⟩
  have SF := PySem.F.store_object
  have hne : cd.mro.isEmpty = false := by rw [hm]; rfl
  have hob : cd.mro.contains (.type "object") = true := by
    rw [hm, List.contains_cons, hobj, Bool.or_true]
  have hxs : x ≠ hp.objs.size := Nat.ne_of_lt (Heap.lt_size hx)
  have isO : W.Looks (model prog w) hp (isInstance (.ref x) (.type "object")) true := J.type.andThen (W.looks_mroIn X (by unfold W.mroIn; rw [hcd, Option.bind_some, if_neg (by rw [hne]; decide), hob]))
  refine codeAny_call_builtin SF.slot.plain SF.entry (@W.check_slot (model prog w) _ _ ⟨hp, g, d, t, os⟩ "object.__setattr__" "object" "__setattr__" (.ref x) [.str nmf tk, v] [] _ SF.kind SF.split isO (SF.args (.ref x) (.str nmf tk) v) ?_)
  have lm : W.Looks (model prog w) hp (mroOf (.ref C)) cd.mro := (W.looks_clsIn X hcd).andThen .now
  have l3 : W.Looks (model prog w) hp (storeTaker? none) none := .now
  have lc : W.Looks (model prog w) hp (classData C) cd := W.looks_clsIn X hcd
  rw [W.osa_eq, refuse_eq]
  refine wpAny_bind (wpAny_bind (J.type.at (wpAny_bind (lm.at ?_))))
  rw [hm, refuseLoop_ref, SB.passes (.ref x)]
  refine wpAny_pure (wpAny_bind (J.type.at (wpAny_bind ((W.looks_findIn X ha).at (wpAny_bind (l3.at ?_))))))
  show wpAny _ _ (storeInOwnDict (.ref x) (.ref C) (.str nmf tk) nmf v false) _ _ _
  clear hm hob hne lm
  obtain ⟨nm, bs, mro, ns, qn, hd, sn, sb, ab, col, del⟩ := cd
  dsimp only at hh
  subst hh
  unfold storeInOwnDict ownDictForStores
  repeat (first | with_reducible refine PySem.HandSPX.store_in_new ?_ ?_ | with_reducible refine wpAny_loadPart_at hx ?_ | with_reducible refine lc.at ?_ | wp_step)
  · exact ⟨_, #[], _, (Heap.get?_update_ne _ _ _ _ hxs.symm).trans (Heap.get?_push_at rfl rfl), rfl, fun en hen => absurd hen (by simp), fun _ => rfl⟩
  · intro h2 tk2 hn2 hs
    have hx1 : (hp.push { cls := .type "dict", data := .dict #[] }).get? x = some { cls := .ref C, data := .fields fv } := Heap.get?_push_of_some _ hx
    refine hq h2 tk2 hp.objs.size (fun b o hb hbo => ?_) (Nat.le_refl _) hxs.symm ?_ hn2
    · exact (hs.2 b (Nat.ne_of_lt (Heap.lt_size hbo))).trans ((Heap.get?_update_ne _ _ _ _ hb).trans (Heap.get?_push_of_some _ hbo))
    · exact (hs.2 x hxs).trans (Heap.get?_update_self _ hx1 rfl)
end
section
variable {X : Cx} {pins : List (Addr × Obj)} {σ : L2.St} {H : Hp} {s : Shared} {a C dx : Addr} {f : Str} {y : V} {u : Value} {Q : Unit → Shared → Prop} {E : Value → Shared → Prop} {A : Around} {B newId initId : String} {bmB : List Value}
theorem ostG (SB : StoreFacts B bmB "object.__setattr__" "object") (hobj : bmB.contains (.type "object") = true) (T : ExS X.K C newId bmB) (I : Inv X pins σ H s) (e : H a = some (exo a C none)) (hno : PySem.W.findIn X.K (.ref C) f = some none) (ry : RelV y u)
    (h : ∀ dx s', H dx = none → dx ≠ a → Inv X pins σ (upd (upd H dx (exd dx [(f, y)])) a (exo a C (some dx))) s' → Q () s') : wpAny (model X.prog X.w) A (setAttr (.ref a) f u) Q E s := by
  obtain ⟨nm, q, N, bs, sn, sub, ab, col, dd, k0, k1, k2, k3, k5, hC⟩ := T.c.cls
  have hcl : PySem.W.clsIn X.K C = some { name := nm, bases := bs, mro := .ref C :: bmB, ns := N, qualname := q, hasDict := true, slotNames := sn, subclasses := sub, abstract := ab, collection := col, hasDel := false } := by
    unfold PySem.W.clsIn
    rw [hC] <;> rfl
  obtain ⟨t1, ho⟩ := exo_at I.hok e
  obtain ⟨hp, g, dr, t, os⟩ := s
  refine PySem.W.set_plain I.kIn (ox := { cls := .ref C, dict := none, data := .fields #[.ref t1, .none, .none, .none, .bool false, .none] }) (od := none) ⟨ho, rfl, rfl, trivial⟩ T.sa ?_
  refine osaG SB hobj I.kIn ho hcl rfl rfl hno (fun h2 tk2 dx kp dn dne hx hn => ?_)
  have hd0 : H dx = none := I.hok.fresh dn
  have ndx : ∀ {b : Addr} {o : Obj}, hp.get? b = some o → b ≠ dx := fun {b o} z => Nat.ne_of_lt (Nat.lt_of_lt_of_le (Heap.lt_size z) dn)
  have nea : ∀ {b : Addr}, H b = none → b ≠ a := fun {b} n z => by
    rw [z, e] at n
    cases n
  have U : Un X.fs [] H (upd (upd H dx (exd dx [(f, y)])) a (exo a C (some dx))) hp h2 := {
    keep := fun b o z n _ _ => kp b o (nea n) z
    slot := fun b o z n _ _ => ⟨o.slots, kp b o (nea n) z⟩
    free := fun b o z n _ => by rw [upd_ne (nea n), upd_ne (ndx z)]; exact n
    there := fun b o z _ => by
      by_cases hb : b = a
      · exact ⟨_, by rw [hb]; exact hx⟩
      · exact ⟨o, kp b o hb z⟩
    tups := fun b xs z => by rw [upd_ne (at_ne e z exo_tup), upd_ne (ne_of_none z hd0)]; exact z
    frzs := fun b o v z => by rw [upd_ne (at_ne e z exo_frz), upd_ne (ne_of_none z hd0)]; exact z
    tbls := fun b ps z => ⟨#[], by rw [upd_ne (at_ne e z exo_tbl), upd_ne (ne_of_none z hd0), z]; simp⟩ }
  refine h dx _ hd0 dne (I.un (t' := tk2) U fun b o z => ?_)
  by_cases hb : b = a
  · subst hb
    rw [upd_same] at z
    cases z
    exact exo_ok hx
  · rw [upd_ne hb] at z
    by_cases hd : b = dx
    · subst hd
      rw [upd_same] at z
      cases z
      exact exd_ok hn (relO_put (fs := []) ry fun _ => True.intro)
    · rw [upd_ne hd] at z
      refine (I.hok b o z).stay (fun c v hc zz => kp c v ?_ zz) (fun c hc => ?_) (fun c xs hc => ?_)
      · rcases hc with hc | hc
        · rw [hc]
          exact hb
        · exact at_ne e hc exo_own
      · rw [upd_ne (at_ne e hc exo_own), upd_ne (ne_of_none hc hd0)]
        exact hc
      · rw [upd_ne (at_ne e hc exo_tup), upd_ne (ne_of_none hc hd0)]
        exact hc
end
def tOsG (K : PySem.W.Frag) (newId : String) (bmB : List Value) (f : Str) (to te : TE) : TS := fun D σ H => te σ H fun y H1 => to σ H1 fun x H2 => ∃ a C : Addr, x = .ref a ∧ ExS K C newId bmB ∧ PySem.W.findIn K (.ref C) f = some none ∧ H2 a = some (exo a C none) ∧
  ∀ dx, H2 dx = none → dx ≠ a → D.nx σ (upd (upd H2 dx (exd dx [(f, y)])) a (exo a C (some dx)))
section
variable {X : Cx} {o e : Expr} {es : List Expr} {to te : TE} {ta : TA} {f : Str} {p p' p1 p2 pos : Pos} {B newId initId : String} {bmB : List Value}
theorem ps_osG (SB : StoreFacts B bmB "object.__setattr__" "object") (hobj : bmB.contains (.type "object") = true) (ho : PE X o to) (he : PE X e te) (hs : swapsWith e (some (.Attribute o f p')) pos.line X.env = pure false := by rfl) : PS X (.Assign [.Attribute o f p'] e pos) (tOsG X.K newId bmB f to te) := by
  refine ⟨fun pins s σ H D I h => ?_⟩
  refine plainObj_wpAny_Assign_Attribute (thn (he.run pins s σ H _ I h) fun v s1 ⟨y, H1, I1, r1, q1⟩ => thn (ho.run pins s1 σ H1 _ I1 q1) fun u s2 ⟨x, H2, I2, r2, a, C, ex, T, hno, ea, q⟩ => ?_) hs
  subst ex
  obtain rfl : u = Value.ref a := r2
  exact ostG SB hobj T I2 ea hno r1 fun dx s' n ne J => ⟨σ, _, J, q dx n ne⟩
/-- C(e, ..), its own __init__ keeping sp -/
theorem pmk_exF {CX : CXT} {x : Str} {C fI : Addr} {k : Nat} {fd : FuncData} {ps : List Str} {sp : Sp} {ds : List Value} {dvs : List V} (Fb : ExcBaseFacts B newId initId bmB) (T : ExC X.K C newId bmB) (iC : PySem.W.findIn X.K (.ref C) "__init__" = some (some (.ref fI))) (tI : PySem.W.typeIn X.K (.ref fI) = some (.type "function"))
    (F1 : FnOk X.prog X.w X.K X.mg X.base CX k fI fd ps sp) (hr : Room (k + 1) X.A) (hb : Binds X.K fd ps ds) (hd : Vals dvs ds) (hx : Passes CX X (fun _ _ _ => False)) (hg : Gl X x) (hm : X.mg x = some (.ref C)) (ha : PA X (e :: es) ta)
    (hdb : (x == ("__debug__" : Str)) = false := by decide) (he : starEach (e :: es) X.env = (false, eval e X.env) :: starEach es X.env := by rfl) (hpl : (backTo pos (starEach es X.env)).any (·.1) = false := by rfl) :
    PMk X (.Call (.Name x p) (e :: es) [] pos) (tMkO C sp dvs ta) := by
  intro pins s σ H Q I h
  obtain ⟨nm, q, N, bs, sn, sub, ab, col, dd, k0, k1, k2, k3, k5, hC⟩ := T.cls
  refine wpAny_Call_Name_kw (ld_glob I hg hm ?_ hdb)
  refine PySem.W.callWith_K (h₀ := X.base) I.ok.mod.kin T.kC (thn (ha.run pos pins s σ H _ I h) fun us s1 ⟨vs, H1, I1, r1, hz, q1⟩ => ⟨I1.kIn, ?_⟩) he hpl
  show wpAny _ _ (call (.ref C) us) _ _ _
  obtain ⟨hp, g, dr, tk, os⟩ := s1
  have hsz : hp.objs.size ≤ hp.objs.size + 1 := Nat.le_succ _
  have hq := q1 (hp.objs.size + 1) (I1.hok.fresh hsz)
  have kk : ∀ b o, hp.get? b = some o → ((hp.push (PySem.W.kdv_tup us)).push (PySem.HandSPX.excO C hp.objs.size)).get? b = some o := fun b o z => Heap.get?_push_of_some _ (Heap.get?_push_of_some _ z)
  have hget : ((hp.push (PySem.W.kdv_tup us)).push (PySem.HandSPX.excO C hp.objs.size)).get? (hp.objs.size + 1) = some (PySem.HandSPX.excO C hp.objs.size) := by heap_get
  have I2 : Inv X pins σ (upd H1 (hp.objs.size + 1) (exo (hp.objs.size + 1) C none)) ⟨(hp.push (PySem.W.kdv_tup us)).push (PySem.HandSPX.excO C hp.objs.size), g, dr, tk, os⟩ :=
    I1.laid (t' := tk) (a := hp.objs.size + 1) (o := exo (hp.objs.size + 1) C none) (h' := (hp.push (PySem.W.kdv_tup us)).push (PySem.HandSPX.excO C hp.objs.size)) kk hsz (exo_ok hget)
  have r2 : Vals (V.ref (hp.objs.size + 1) :: (vs ++ dvs)) (Value.ref (hp.objs.size + 1) :: (us ++ ds)) := .cons rfl (r1.append hd)
  have hl : (Value.ref (hp.objs.size + 1) :: us ++ ds).length = ps.length := by
    have z := r2.length
    rw [F1.len _ _ _ _ hq] at z
    exact z.symm
  have hus : us.length ≤ sizeLine := by
    rw [← Paired.length r1, sizeLine_eq]
    omega
  refine wpAny_call (PySem.HandSPX.call_own Fb (fun Y => rfl) (I1.kIn _ _ hC) (PySem.W.looks_findIn I1.kIn iC) (fun self => PySem.W.bind_fn I1.kIn self tI) hus
    (codeAny_mono (F1.run _ X.stack _ _ ⟨Value.ref (hp.objs.size + 1) :: us, []⟩ (Value.ref (hp.objs.size + 1) :: (us ++ ds)) _ _ (fun _ _ _ => False) (hr.make C us []) (I2.env0.make C us []) (hb _ (Value.ref (hp.objs.size + 1) :: us) I2.kIn hl) r2 hq) fun r s' hq' => ?_))
  cases r with
  | error er => exact hx pins σ _ _ er s' I2 hq'
  | ok fl =>
    cases fl with
    | ret u =>
      obtain ⟨v, H2, os2, bare2, un2, hok2, rv, ev, d, fs, ea, ed, hd1, q2⟩ := hq'
      subst ev
      obtain ⟨h2, g2, d2, t2, os'⟩ := s'
      exact ⟨rv, mk_end (raises_own T.exC T.tyC) I1 hsz kk un2 hok2 os2 bare2 ea ed hd1 q2⟩
    | next => exact False.elim hq'
    | brk => exact False.elim hq'
    | cont => exact False.elim hq'
theorem typ_OverflowError : typeOf (.type "OverflowError") = pure (.type "type") := by kernel_rfl
theorem pe_initOverflowError {pl : Sem Bool} (hg : Gl X "OverflowError") (hm : X.mg "OverflowError" = none) (vV : PySem.W.findCls X.K (.type "OverflowError") (.type "type") "__init__" = some (.val (.builtin "OverflowError.__init__"))) (ha : PA X (e :: es) ta)
    (hc : eval (.Call (.Attribute (.Name "OverflowError" p1) "__init__" p2) (e :: es) [] pos) X.env = (do
      let ov ← eval (.Name "OverflowError" p1) X.env
      standAt p2.atName
      let (f, first) ← holding [ov] (getMethod ov "__init__" pl)
      callWith pos f first (backTo pos (starEach (e :: es) X.env)) (backToKw pos (keywordEach [] X.env))) := by rfl)
    (he : starEach (e :: es) X.env = (false, eval e X.env) :: starEach es X.env := by rfl) (hpl : (backTo pos (starEach es X.env)).any (·.1) = false := by rfl) :
    PE X (.Call (.Attribute (.Name "OverflowError" p1) "__init__" p2) (e :: es) [] pos) (tExI X.K "OverflowError.__new__" [.type "OverflowError", .type "ArithmeticError", .type "Exception", .type "BaseException", .type "object"] ta) := by
  refine ⟨fun pins s σ H Q I h => ?_⟩
  refine PySem.W.methodCall_KW (ld_blt I hg hm PyProof.Rows.Boot.«OverflowError» ?_ (by decide) (by decide)) hc
  obtain ⟨m, fr⟩ := I.fr
  refine PySem.W.method_type fr I.ok.mod.kin typ_OverflowError (by decide +kernel) vV (by decide +kernel) ?_
  show wpAny _ _ (callWith pos (Value.builtin "OverflowError.__init__") [] (backTo pos (starEach (e :: es) X.env)) []) _ _ _
  refine PyProof.Rows.callWith_method1 (thn (ha.run pos pins _ σ H _ (I.tok _) h) fun us s1 ⟨vs, H1, I1, r1, a, C, ws, ev, hl, T, ea, q⟩ => ?_) he hpl
  subst ev
  cases r1 with
  | @cons _ u0 _ ur ra rw' =>
    obtain rfl : u0 = Value.ref a := ra
    have hlen : ur.length ≤ sizeLine := by
      rw [← Paired.length rw', sizeLine_eq]
      omega
    exact einit_ok PySem.F.excBase_OverflowError T I1 ea hlen fun s' J => ⟨.non, H1, J, rfl, q⟩
end
end EXB

set_option Elab.async false
set_option linter.all false
set_option maxRecDepth 100000
set_option maxHeartbeats 4000000
namespace Ru
open PySem PySem.Spec PyProof.Rows L2 BX EXB Co
open Fr (Bd)
/-! ### rows of fractions -/
/-- cells and what they are worth, below 2 ^ n -/
structure FrN (K : PySem.W.Frag) (H : Hp) (n : Nat) (cs : List V) (qs : List Rat) : Prop where
  len : cs.length = qs.length
  at_ : ∀ (i : Nat) (v : V), cs[i]? = some v → ∃ (a : Addr) (q : Rat), qs[i]? = some q ∧ v = .ref a ∧ SqT K H a (rp q) ∧ Bd n q
section
variable {K : PySem.W.Frag} {H H' : Hp} {n : Nat} {cs : List V} {qs : List Rat}
theorem FrN.keep (h : FrN K H n cs qs) (k : ∀ a xs, SqT K H a xs → SqT K H' a xs) : FrN K H' n cs qs :=
  ⟨h.len, fun i v e => let ⟨a, q, e1, e2, e3, e4⟩ := h.at_ i v e; ⟨a, q, e1, e2, k _ _ e3, e4⟩⟩
theorem FrN.same (h : FrN K H n cs qs) (e : Same H H') : FrN K H' n cs qs := h.keep fun _ _ => seqT e
theorem FrN.mono {m : Nat} (h : FrN K H n cs qs) (l : n ≤ m) : FrN K H m cs qs :=
  ⟨h.len, fun i v e => let ⟨a, q, e1, e2, e3, e4⟩ := h.at_ i v e; ⟨a, q, e1, e2, e3, e4.mono l⟩⟩
theorem FrN.nil : FrN K H n [] [] := ⟨rfl, fun i v e => by simp at e⟩
theorem FrN.snoc {a : Addr} {q : Rat} (h : FrN K H n cs qs) (ha : SqT K H a (rp q)) (hb : Bd n q) : FrN K H n (cs ++ [.ref a]) (qs ++ [q]) := by
  refine ⟨by rw [List.length_append, List.length_append, h.len]; rfl, fun i v e => ?_⟩
  by_cases hi : i < cs.length
  · rw [List.getElem?_append_left hi] at e
    obtain ⟨a', q', e1, e2, e3, e4⟩ := h.at_ i v e
    exact ⟨a', q', by rw [List.getElem?_append_left (by rw [← h.len]; exact hi)]; exact e1, e2, e3, e4⟩
  · rw [List.getElem?_append_right (by omega)] at e
    have e0 : i - cs.length = 0 := by
      cases z : i - cs.length with
      | zero => rfl
      | succ j => rw [z] at e; simp at e
    rw [e0] at e
    have ev : (V.ref a) = v := Option.some.inj e
    refine ⟨a, q, ?_, ev.symm, ha, hb⟩
    rw [List.getElem?_append_right (by rw [← h.len]; omega), ← h.len, e0]
    rfl
theorem FrN.set {a : Addr} {q : Rat} {j : Nat} (h : FrN K H n cs qs) (ha : SqT K H a (rp q)) (hb : Bd n q) : FrN K H n (cs.set j (.ref a)) (qs.set j q) := by
  refine ⟨by rw [List.length_set, List.length_set, h.len], fun i v e => ?_⟩
  by_cases hij : j = i
  · subst hij
    have hj : j < cs.length := by
      have := (List.getElem?_eq_some_iff.mp e).1
      rw [List.length_set] at this
      exact this
    rw [List.getElem?_set_self hj] at e
    exact ⟨a, q, List.getElem?_set_self (by rw [← h.len]; exact hj), (Option.some.inj e).symm, ha, hb⟩
  · rw [List.getElem?_set_ne hij] at e
    obtain ⟨a', q', e1, e2, e3, e4⟩ := h.at_ i v e
    exact ⟨a', q', by rw [List.getElem?_set_ne hij]; exact e1, e2, e3, e4⟩
theorem FrN.dp : ∀ {cs : List V} {qs : List Rat}, FrN K H n cs qs → DpAll K H cs (qs.map dR)
  | [], [], _ => .nil
  | [], _ :: _, h => by have := h.len; simp at this
  | _ :: _, [], h => by have := h.len; simp at this
  | v :: cs, q :: qs, h => by
    obtain ⟨a, q', e1, rfl, e3, _⟩ := h.at_ 0 v rfl
    have e : q = q' := Option.some.inj e1
    subst e
    exact .cons (dp_r e3) (FrN.dp ⟨by have := h.len; simpa using this, fun i v e => h.at_ (i + 1) v e⟩)
end
/-- all but ex stays -/
def SameB (ex : Addr) (H H' : Hp) : Prop := ∀ b o, b ≠ ex → H b = some o → H' b = some o
theorem SameB.of {ex : Addr} {H H' : Hp} (h : Same H H') : SameB ex H H' := fun b o _ e => h b o e
theorem SameB.trans {ex : Addr} {H H1 H2 : Hp} (a : SameB ex H H1) (b : SameB ex H1 H2) : SameB ex H H2 := fun c o hc h => b c o hc (a c o hc h)
theorem SameB.upd {ex : Addr} {H : Hp} {o : HO} : SameB ex H (upd H ex o) := fun b u hb e => by rw [upd_ne hb]; exact e
theorem SameB.tup {K : PySem.W.Frag} {ex : Addr} {H H' : Hp} {ys : List V} (h : SameB ex H H') (hx : H ex = some (.lst ys)) : ∀ a xs, SqT K H a xs → SqT K H' a xs := fun a xs z => by
  rcases z with (z | ⟨o, z⟩) | z
  · exact .inl (.inl (h _ _ (ne_of z hx (by intro w; cases w)) z))
  · exact .inl (.inr ⟨o, h _ _ (ne_of z hx (by intro w; cases w)) z⟩)
  · exact .inr z
/-- what stands in the rows rs is worth rss -/
def RowsAt (K : PySem.W.Frag) (H : Hp) (n : Nat) (rs : List Addr) (rss : List (List Rat)) : Prop := rs.length = rss.length ∧ ∀ (j : Nat) (r : Addr), rs[j]? = some r → ∃ cs qs, rss[j]? = some qs ∧ H r = some (.lst cs) ∧ FrN K H n cs qs
theorem RowsAt.keep {K : PySem.W.Frag} {H H' : Hp} {n : Nat} {rs : List Addr} {rss : List (List Rat)} {ex : Addr} {ys : List V} (h : RowsAt K H n rs rss) (s : SameB ex H H') (hx : H ex = some (.lst ys)) (hn : ex ∉ rs) : RowsAt K H' n rs rss := by
  refine ⟨h.1, fun j r e => ?_⟩
  obtain ⟨cs, qs, e1, e2, e3⟩ := h.2 j r e
  exact ⟨cs, qs, e1, s r _ (fun z => hn (by rw [← z]; exact List.mem_of_getElem? e)) e2, e3.keep (s.tup hx)⟩
theorem RowsAt.same {K : PySem.W.Frag} {H H' : Hp} {n : Nat} {rs : List Addr} {rss : List (List Rat)} (h : RowsAt K H n rs rss) (s : Same H H') : RowsAt K H' n rs rss := by
  refine ⟨h.1, fun j r e => ?_⟩
  obtain ⟨cs, qs, e1, e2, e3⟩ := h.2 j r e
  exact ⟨cs, qs, e1, s r _ e2, e3.same s⟩
theorem RowsAt.nil {K : PySem.W.Frag} {H : Hp} {n : Nat} : RowsAt K H n [] [] := ⟨rfl, fun j r e => by simp at e⟩
theorem RowsAt.snoc {K : PySem.W.Frag} {H : Hp} {n : Nat} {rs : List Addr} {rss : List (List Rat)} {r : Addr} {cs : List V} {qs : List Rat} (h : RowsAt K H n rs rss) (hr : H r = some (.lst cs)) (hf : FrN K H n cs qs) : RowsAt K H n (rs ++ [r]) (rss ++ [qs]) := by
  refine ⟨by rw [List.length_append, List.length_append, h.1]; rfl, fun j x e => ?_⟩
  by_cases hj : j < rs.length
  · rw [List.getElem?_append_left hj] at e
    obtain ⟨cs', qs', e1, e2, e3⟩ := h.2 j x e
    exact ⟨cs', qs', by rw [List.getElem?_append_left (by rw [← h.1]; exact hj)]; exact e1, e2, e3⟩
  · rw [List.getElem?_append_right (by omega)] at e
    have e0 : j - rs.length = 0 := by
      cases z : j - rs.length with
      | zero => rfl
      | succ i => rw [z] at e; simp at e
    rw [e0] at e
    have ev : r = x := Option.some.inj e
    subst ev
    refine ⟨cs, qs, ?_, hr, hf⟩
    rw [List.getElem?_append_right (by rw [← h.1]; omega), ← h.1, e0]
    rfl
theorem RowsAt.dp {K : PySem.W.Frag} {H : Hp} {n : Nat} : ∀ {rs : List Addr} {rss : List (List Rat)}, RowsAt K H n rs rss → DpAll K H (rs.map V.ref) (rss.map fun qs => PyData.list (qs.map dR))
  | [], [], _ => .nil
  | [], _ :: _, h => by have := h.1; simp at this
  | _ :: _, [], h => by have := h.1; simp at this
  | r :: rs, q :: rss, h => by
    obtain ⟨cs, qs, e1, e2, e3⟩ := h.2 0 r rfl
    have e : q = qs := Option.some.inj e1
    subst e
    exact .cons (.lst (SqL.of e2) e3.dp) (RowsAt.dp ⟨by have := h.1; simpa using this, fun j x e => h.2 (j + 1) x e⟩)
/-- rows as data -/
def dRows (rss : List (List Rat)) : PyData := .list (rss.map fun qs => PyData.list (qs.map dR))
theorem rows_lays : ∀ rss : List (List Rat), PyData.canLayAll0 (rss.map fun qs => PyData.list (qs.map dR)) = true
  | [] => rfl
  | q :: rss => by
    show (PyData.canLayAll0 (q.map dR) && PyData.canLayAll0 (rss.map fun qs => PyData.list (qs.map dR))) = true
    rw [rows_lays rss, lays q]
    rfl
theorem rows_deps : ∀ rss : List (List Rat), PyData.depthAll (rss.map fun qs => PyData.list (qs.map dR)) ≤ 2
  | [] => by decide
  | q :: rss => by
    have h1 := rows_deps rss
    have h2 := deps q
    show max (PyData.depthAll (q.map dR) + 1) (PyData.depthAll (rss.map fun qs => PyData.list (qs.map dR))) ≤ 2
    omega
theorem dRows_lay (rss : List (List Rat)) : (dRows rss).canLay0 = true := rows_lays rss
theorem dRows_shaped (rss : List (List Rat)) : SeqAt.shaped (dRows rss) = true := by
  unfold SeqAt.shaped
  rw [dRows_lay, Bool.true_and]
  refine decide_eq_true ?_
  have := rows_deps rss
  show PyData.depthAll (rss.map fun qs => PyData.list (qs.map dR)) + 1 ≤ 64
  omega
/-- a new list of new rows, beside what stood in H0 (but ex) -/
structure New (K : PySem.W.Frag) (H0 H : Hp) (ex D : Addr) (rs : List Addr) (rss : List (List Rat)) (n : Nat) : Prop where
  at_ : H D = some (.lst (rs.map V.ref))
  nd : rs.Nodup
  ne : D ∉ rs
  fresh : ∀ x ∈ rs, H0 x = none
  fD : H0 D = none
  nx : ex ∉ rs
  keep : SameB ex H0 H
  rows : RowsAt K H n rs rss
theorem New.start {K : PySem.W.Frag} {H : Hp} {ex D : Addr} {n : Nat} (hD : H D = none) : New K H (upd H D (.lst [])) ex D [] [] n :=
  ⟨upd_same, List.nodup_nil, by simp, fun x hx => by simp at hx, hD, by simp, SameB.of (same_new hD _), RowsAt.nil⟩
/-- a step beside the list: what is new is laid, ex may change -/
theorem New.step {K : PySem.W.Frag} {H0 H H1 : Hp} {ex D : Addr} {rs : List Addr} {rss : List (List Rat)} {n : Nat} {ys : List V} (h : New K H0 H ex D rs rss n) (s : SameB ex H H1) (hx : H ex = some (.lst ys)) (hDx : D ≠ ex) : New K H0 H1 ex D rs rss n :=
  ⟨s D _ hDx h.at_, h.nd, h.ne, h.fresh, h.fD, h.nx, h.keep.trans s, h.rows.keep s hx h.nx⟩
theorem New.stepS {K : PySem.W.Frag} {H0 H H1 : Hp} {ex D : Addr} {rs : List Addr} {rss : List (List Rat)} {n : Nat} (h : New K H0 H ex D rs rss n) (s : Same H H1) : New K H0 H1 ex D rs rss n :=
  ⟨s D _ h.at_, h.nd, h.ne, h.fresh, h.fD, h.nx, h.keep.trans (SameB.of s), h.rows.same s⟩
/-- one row more -/
theorem New.push {K : PySem.W.Frag} {H0 H H1 : Hp} {ex D l : Addr} {rs : List Addr} {rss : List (List Rat)} {n : Nat} {cs : List V} {qs : List Rat} (h0 : New K H0 H ex D rs rss n) (h : New K H0 H1 ex D rs rss n) (hl0 : H l = none) (hl : H1 l = some (.lst cs)) (hf : FrN K H1 n cs qs) (hle : l ≠ ex) :
    New K H0 (upd H1 D (.lst (rs.map V.ref ++ [V.ref l]))) ex D (rs ++ [l]) (rss ++ [qs]) n := by
  have hlD : l ≠ D := fun e => by
    rw [e, h0.at_] at hl0
    cases hl0
  have hlr : l ∉ rs := fun hm => by
    obtain ⟨j, hj, e⟩ := List.getElem_of_mem hm
    obtain ⟨cs', qs', _, e2, _⟩ := h0.rows.2 j l (by rw [List.getElem?_eq_getElem hj, e])
    rw [hl0] at e2
    cases e2
  have hl00 : H0 l = none := by
    cases e : H0 l with
    | none => rfl
    | some o =>
      rw [h0.keep l o hle e] at hl0
      cases hl0
  have sD : SameB D H1 (upd H1 D (.lst (rs.map V.ref ++ [V.ref l]))) := SameB.upd
  refine ⟨by rw [upd_same, List.map_append]; rfl, ?_, ?_, ?_, h.fD, ?_, ?_, ?_⟩
  · rw [List.nodup_append]
    refine ⟨h.nd, by simp, fun a ha b hb => ?_⟩
    have : b = l := by simpa using hb
    rw [this]
    exact fun e => hlr (by rw [← e]; exact ha)
  · intro hm
    rcases List.mem_append.mp hm with hm | hm
    · exact h.ne hm
    · have : D = l := by simpa using hm
      exact hlD this.symm
  · intro x hx
    rcases List.mem_append.mp hx with hx | hx
    · exact h.fresh x hx
    · have : x = l := by simpa using hx
      rw [this]
      exact hl00
  · intro hm
    rcases List.mem_append.mp hm with hm | hm
    · exact h.nx hm
    · have : ex = l := by simpa using hm
      exact hle this.symm
  · intro b o hb e
    rw [upd_ne (ne_of_none e h.fD)]
    exact h.keep b o hb e
  · exact (h.rows.keep sD h.at_ h.ne).snoc (by rw [upd_ne hlD]; exact hl) (hf.keep (sD.tup h.at_))
/-- list(x), by values -/
def rListOf (K : PySem.W.Frag) : List V → Hp → VK → Prop := fun xs H Q => ∃ p ys, xs = [V.ref p] ∧ (SqL K H p ys ∨ SqT K H p ys) ∧ ∀ l : Addr, H l = none → Q (V.ref l) (upd H l (.lst ys))
/-! ### rules -/
def RowOk (m : Nat) (qs : List Rat) : Prop := qs.length = m ∧ (∀ q ∈ qs, 0 ≤ q) ∧ qs.sum = 1
structure Good (rss : List (List Rat)) (m : Nat) : Prop where
  w1 : 1 ≤ rss.length
  w5 : rss.length ≤ 5
  m1 : 1 ≤ m
  m30 : m ≤ 30
  row : ∀ qs ∈ rss, RowOk m qs
/-- a list of rows that stands -/
def RwL (K : PySem.W.Frag) (H : Hp) (a : Addr) (rs : List Addr) (rss : List (List Rat)) (n : Nat) : Prop := H a = some (.lst (rs.map V.ref)) ∧ RowsAt K H n rs rss
theorem RwL.same {K : PySem.W.Frag} {H H' : Hp} {a : Addr} {rs : List Addr} {rss : List (List Rat)} {n : Nat} (h : RwL K H a rs rss n) (s : Same H H') : RwL K H' a rs rss n := ⟨s _ _ h.1, h.2.same s⟩
theorem RwL.dp {K : PySem.W.Frag} {H : Hp} {a : Addr} {rs : List Addr} {rss : List (List Rat)} {n : Nat} (h : RwL K H a rs rss n) : Dp K H (.ref a) (dRows rss) := .lst (SqL.of h.1) h.2.dp
theorem New.rwl {K : PySem.W.Frag} {H0 H : Hp} {ex D : Addr} {rs : List Addr} {rss : List (List Rat)} {n : Nat} (h : New K H0 H ex D rs rss n) : RwL K H D rs rss n := ⟨h.at_, h.rows⟩
/-- a new list of new rows -/
def Fresh (K : PySem.W.Frag) (H H' : Hp) (D : Addr) (rs : List Addr) (rss : List (List Rat)) (n : Nat) : Prop := RwL K H' D rs rss n ∧ rs.Nodup ∧ D ∉ rs ∧ H D = none ∧ (∀ x ∈ rs, H x = none) ∧ Same H H'
/-- an instance of the class at C, of these rows -/
def IsRule (K : PySem.W.Frag) (H : Hp) (C x : Addr) (rss : List (List Rat)) (n : Nat) : Prop := ∃ dx ra rs, H x = some (.ins C dx [("own_rows", .ref ra)]) ∧ RwL K H ra rs rss n
theorem IsRule.same {K : PySem.W.Frag} {H H' : Hp} {C x : Addr} {rss : List (List Rat)} {n : Nat} (h : IsRule K H C x rss n) (s : Same H H') : IsRule K H' C x rss n :=
  let ⟨dx, ra, rs, e1, e2⟩ := h; ⟨dx, ra, rs, s _ _ e1, e2.same s⟩
theorem New.toFresh {K : PySem.W.Frag} {H0 H : Hp} {D : Addr} {rs : List Addr} {rss : List (List Rat)} {n : Nat} (h : New K H0 H D D rs rss n) : Fresh K H0 H D rs rss n :=
  ⟨h.rwl, h.nd, h.ne, h.fD, h.fresh, fun b o e => h.keep b o (ne_of_none e h.fD) e⟩
/-! ### the mathematics of rules -/
theorem sum_nonneg' : ∀ {qs : List Rat}, (∀ q ∈ qs, 0 ≤ q) → 0 ≤ qs.sum
  | [], _ => by rw [List.sum_nil]; exact Rat.le_refl
  | q :: qs, h => by
    rw [List.sum_cons]
    exact Rat.add_nonneg (h q (List.mem_cons_self ..)) (sum_nonneg' fun x hx => h x (List.mem_cons_of_mem _ hx))
/-- shares of two rows side by side -/
def rowB (row second : List Rat) : List Rat := row.flatMap fun s => second.map fun o => s * o
theorem sum_map_mul (s : Rat) : ∀ l : List Rat, (l.map fun o => s * o).sum = s * l.sum
  | [] => by rw [List.map_nil, List.sum_nil, Rat.mul_zero]
  | x :: l => by rw [List.map_cons, List.sum_cons, List.sum_cons, sum_map_mul s l, Rat.mul_add]
theorem rowB_sum : ∀ (row second : List Rat), (rowB row second).sum = row.sum * second.sum
  | [], second => by show ([] : List Rat).sum = _; rw [List.sum_nil, Rat.zero_mul]
  | s :: row, second => by
    show ((second.map fun o => s * o) ++ rowB row second).sum = _
    rw [List.sum_append, sum_map_mul, rowB_sum row second, List.sum_cons, Rat.add_mul]
theorem rowB_len : ∀ (row second : List Rat), (rowB row second).length = row.length * second.length
  | [], second => by show 0 = _; rw [List.length_nil, Nat.zero_mul]
  | s :: row, second => by
    show ((second.map fun o => s * o) ++ rowB row second).length = _
    rw [List.length_append, List.length_map, rowB_len row second, List.length_cons, Nat.succ_mul, Nat.add_comm]
theorem rowB_ok {m k : Nat} {row second : List Rat} (h1 : RowOk m row) (h2 : RowOk k second) : RowOk (m * k) (rowB row second) := by
  refine ⟨by rw [rowB_len, h1.1, h2.1], fun q hq => ?_, by rw [rowB_sum, h1.2.2, h2.2.2, Rat.mul_one]⟩
  obtain ⟨s, hs, hq⟩ := List.mem_flatMap.mp hq
  obtain ⟨o, ho, rfl⟩ := List.mem_map.mp hq
  exact Rat.mul_nonneg (h1.2.1 s hs) (h2.2.1 o ho)
/-- words of one group are one -/
def grp : List Rat → List Nat → List Rat → List Rat
  | s :: row, g :: gs, told => grp row gs (told.set g (told.getD g 0 + s))
  | _, _, told => told
theorem grp_len : ∀ (row : List Rat) (gs : List Nat) (told : List Rat), (grp row gs told).length = told.length
  | [], _, _ => by rw [grp] <;> simp
  | _ :: _, [], _ => by rw [grp] <;> simp
  | s :: row, g :: gs, told => by rw [grp, grp_len row gs, List.length_set]
theorem set_sum : ∀ (l : List Rat) (g : Nat) (s : Rat), g < l.length → (l.set g (l.getD g 0 + s)).sum = l.sum + s
  | [], g, s, h => by simp at h
  | x :: l, 0, s, h => by
    show ((x + s) :: l).sum = _
    rw [List.sum_cons, List.sum_cons, Rat.add_assoc, Rat.add_assoc, Rat.add_comm s]
  | x :: l, g + 1, s, h => by
    show (x :: l.set g (l.getD g 0 + s)).sum = _
    rw [List.sum_cons, List.sum_cons, set_sum l g s (by simpa using h), Rat.add_assoc]
theorem grp_sum : ∀ (row : List Rat) (gs : List Nat) (told : List Rat), row.length = gs.length → (∀ g ∈ gs, g < told.length) → (grp row gs told).sum = told.sum + row.sum
  | [], [], told, _, _ => by show told.sum = _; rw [List.sum_nil, Rat.add_zero]
  | [], _ :: _, _, h, _ => by simp at h
  | _ :: _, [], _, h, _ => by simp at h
  | s :: row, g :: gs, told, h, hg => by
    rw [grp, grp_sum row gs _ (by simpa using h) (fun x hx => by rw [List.length_set]; exact hg x (List.mem_cons_of_mem _ hx)), set_sum told g s (hg g (List.mem_cons_self ..)), List.sum_cons, Rat.add_assoc]
theorem grp_nonneg : ∀ (row : List Rat) (gs : List Nat) (told : List Rat), (∀ q ∈ row, 0 ≤ q) → (∀ q ∈ told, 0 ≤ q) → ∀ q ∈ grp row gs told, 0 ≤ q
  | [], _, _, _, ht => by rw [grp]; exact ht; simp
  | _ :: _, [], _, _, ht => by rw [grp]; exact ht; simp
  | s :: row, g :: gs, told, hr, ht => by
    rw [grp]
    refine grp_nonneg row gs _ (fun q hq => hr q (List.mem_cons_of_mem _ hq)) fun q hq => ?_
    have hx : 0 ≤ told.getD g 0 := by
      by_cases h : g < told.length
      · rw [List.getD_eq_getElem?_getD, List.getElem?_eq_getElem h]
        exact ht _ (List.getElem_mem h)
      · rw [List.getD_eq_getElem?_getD, List.getElem?_eq_none (by omega)]
        exact Rat.le_refl
    rcases List.mem_or_eq_of_mem_set hq with hq | rfl
    · exact ht q hq
    · exact Rat.add_nonneg hx (hr s (List.mem_cons_self ..))
theorem grp_ok {m many : Nat} {row : List Rat} {gs : List Nat} (h : RowOk m row) (hl : gs.length = m) (hg : ∀ g ∈ gs, g < many) : RowOk many (grp row gs (List.replicate many 0)) := by
  have z : ∀ k : Nat, (List.replicate k (0 : Rat)).sum = 0 := fun k => by
    induction k with
    | zero => rfl
    | succ k ih => rw [List.replicate_succ, List.sum_cons, ih, Rat.add_zero]
  refine ⟨by rw [grp_len, List.length_replicate], grp_nonneg row gs _ h.2.1 fun q hq => ?_, ?_⟩
  · rw [List.eq_of_mem_replicate hq]
    exact Rat.le_refl
  · rw [grp_sum row gs _ (by rw [h.1, hl]) (fun g hgm => by rw [List.length_replicate]; exact hg g hgm), z, Rat.zero_add]
    exact h.2.2
/-- the row of the world i among w -/
def unit (w i : Nat) : List Rat := (List.range w).map fun j => if j = i then 1 else 0
theorem unit_sum : ∀ (w i : Nat), (unit w i).sum = if i < w then 1 else 0
  | 0, i => rfl
  | w + 1, i => by
    unfold unit
    rw [List.range_succ, List.map_append, List.sum_append]
    have ih := unit_sum w i
    unfold unit at ih
    rw [ih]
    show _ + ([if w = i then (1 : Rat) else 0]).sum = _
    rw [List.sum_cons, List.sum_nil, Rat.add_zero]
    by_cases h1 : i < w
    · rw [if_pos h1, if_neg (by omega), if_pos (by omega), Rat.add_zero]
    · by_cases h2 : w = i
      · rw [if_neg h1, if_pos h2, if_pos (by omega), Rat.zero_add]
      · rw [if_neg h1, if_neg h2, if_neg (by omega), Rat.zero_add]
theorem unit_ok {w i : Nat} (h : i < w) : RowOk w (unit w i) := by
  refine ⟨by unfold unit; rw [List.length_map, List.length_range], fun q hq => ?_, by rw [unit_sum, if_pos h]⟩
  obtain ⟨j, _, rfl⟩ := List.mem_map.mp hq
  split
  · decide
  · exact Rat.le_refl
end Ru

set_option Elab.async false
set_option linter.all false
set_option maxRecDepth 100000
set_option maxHeartbeats 4000000
namespace Rs
open PySem PySem.Spec PyProof.Rows L2 BX EXB Co Ru
open Fr (Bd)
theorem upd_swap {H : Hp} {a dx : Addr} {A B A' : HO} (h : dx ≠ a) : upd (upd (upd H dx A) a B) dx A' = upd (upd H dx A') a B := by
  funext b
  by_cases h1 : b = dx
  · rw [h1, upd_same, upd_ne h, upd_same]
  · rw [upd_ne h1]
    by_cases h2 : b = a
    · rw [h2, upd_same, upd_same]
    · rw [upd_ne h2, upd_ne h2, upd_ne h1, upd_ne h1]
abbrev Rsp := Option (List V)
def Rv (H : Hp) (v : V) : Rsp → Prop
  | none => v = .non
  | some ws => ∃ p, v = .ref p ∧ H p = some (.lst ws)
def Ret (Q : VK) (H : Hp) (r : Rsp) : Prop := ∀ v H', Same H H' → Rv H' v r → Q v H'
theorem Rv.same {H H' : Hp} {v : V} {r : Rsp} (h : Rv H v r) (s : Same H H') : Rv H' v r := by
  cases r with
  | none => exact h
  | some ws => obtain ⟨p, e1, e2⟩ := h; exact ⟨p, e1, s _ _ e2⟩
theorem tYes_of {σ : L2.St} {H : Hp} {A B : Hp → Prop} (h : A H) : tYes σ H (fun b H3 => if b = true then A H3 else B H3) := by
  show (if true = true then A H else B H)
  rw [if_pos rfl]
  exact h
def dV : V → PyData
  | .str s => .str s
  | .int i => .int i
  | .bl b => .bool b
  | _ => .none
def datR : Rsp → PyData
  | none => .none
  | some ws => .list (ws.map dV)
def Flat (v : V) : Prop := ((∃ s, v = .str s) ∨ (∃ i, v = .int i) ∨ (∃ b, v = .bl b) ∨ v = .non) ∧ (dV v).canLay0 = true
def Okr : Rsp → Prop
  | none => True
  | some ws => ∀ v ∈ ws, Flat v
theorem flat_dp {K : PySem.W.Frag} {H : Hp} {v : V} (h : Flat v) : Dp K H v (dV v) := by
  rcases h.1 with ⟨s, rfl⟩ | ⟨i, rfl⟩ | ⟨b, rfl⟩ | rfl
  · exact .str _
  · exact .int _
  · exact .bl _
  · exact .non
theorem flats_dp {K : PySem.W.Frag} {H : Hp} : ∀ ws : List V, (∀ v ∈ ws, Flat v) → DpAll K H ws (ws.map dV)
  | [], _ => .nil
  | v :: ws, h => .cons (flat_dp (h v (List.mem_cons_self ..))) (flats_dp ws fun x hx => h x (List.mem_cons_of_mem _ hx))
theorem flats_lay : ∀ ws : List V, (∀ v ∈ ws, Flat v) → PyData.canLayAll0 (ws.map dV) = true
  | [], _ => rfl
  | v :: ws, h => by
    show (PyData.canLay0 (dV v) && PyData.canLayAll0 (ws.map dV)) = true
    rw [(h v (List.mem_cons_self ..)).2, flats_lay ws fun x hx => h x (List.mem_cons_of_mem _ hx)]
    rfl
theorem flats_dep : ∀ ws : List V, PyData.depthAll (ws.map dV) ≤ 1
  | [] => by decide
  | v :: ws => by
    have h := flats_dep ws
    show max (PyData.depth (dV v)) (PyData.depthAll (ws.map dV)) ≤ 1
    have : PyData.depth (dV v) = 0 := by cases v <;> rfl
    omega
theorem Rv.dp {K : PySem.W.Frag} {H : Hp} {v : V} {r : Rsp} (ok : Okr r) (h : Rv H v r) : Dp K H v (datR r) := by
  cases r with
  | none => cases (show v = .non from h); exact .non
  | some ws =>
    obtain ⟨p, rfl, hp⟩ := h
    exact .lst (SqL.of hp) (flats_dp ws ok)
theorem datR_lay {r : Rsp} (ok : Okr r) : (datR r).canLay0 = true := by
  cases r with
  | none => rfl
  | some ws => exact flats_lay ws ok
theorem datR_sh {r : Rsp} (ok : Okr r) : SeqAt.shaped (datR r) = true := by
  unfold SeqAt.shaped
  rw [datR_lay ok, Bool.true_and]
  refine decide_eq_true ?_
  cases r with
  | none => decide
  | some ws =>
    have := flats_dep ws
    show PyData.depthAll (ws.map dV) + 1 ≤ 64
    omega
theorem fl_str {s : Str} (h : (PyData.str s).canLay0 = true) : Flat (.str s) := ⟨.inl ⟨s, rfl⟩, h⟩
theorem fl_int (i : Int) : Flat (.int i) := ⟨.inr (.inl ⟨i, rfl⟩), rfl⟩
theorem fl_bl (b : Bool) : Flat (.bl b) := ⟨.inr (.inr (.inl ⟨b, rfl⟩)), rfl⟩
theorem fl_non : Flat .non := ⟨.inr (.inr (.inr rfl)), rfl⟩
theorem okr3 {a b c : V} (ha : Flat a) (hb : Flat b) (hc : Flat c) : Okr (some [a, b, c]) := by
  intro v hv
  rcases List.mem_cons.mp hv with rfl | hv
  · exact ha
  rcases List.mem_cons.mp hv with rfl | hv
  · exact hb
  rw [List.mem_singleton.mp hv]
  exact hc
theorem cut_len {xs : List V} {n : Nat} {lo hi : Option Int} (h : xs.length ≤ n) : (cutV xs lo hi).length ≤ n := Nat.le_trans (cutV_length xs lo hi) h
/-- the law's shares: of m words, small -/
def spShares (K : PySem.W.Frag) : Sp := fun vs H Q _ => ∃ (l : Addr) (z : Int) (m : Nat), vs = [.ref l, .int (m : Int)] ∧ H l = some (.lst [.int z]) ∧ 1 ≤ m ∧ m ≤ 30 ∧
  ∀ D cs qs z' H', SameB l H H' → H' l = some (.lst [.int z']) → H D = none → D ≠ l → H' D = some (.lst cs) → FrN K H' 8 cs qs → RowOk m qs → Q (.ref D) H'
def spRowsL (K : PySem.W.Frag) : Sp := fun vs H Q _ => ∃ (l : Addr) (z : Int) (ww up : Nat), vs = [.ref l, .int (ww : Int), .int (up : Int)] ∧ H l = some (.lst [.int z]) ∧ 1 ≤ ww ∧ ww ≤ 5 ∧ 1 ≤ up ∧ up ≤ 30 ∧
  ∀ D rs rss m z' H', New K H H' l D rs rss 8 → D ≠ l → H' l = some (.lst [.int z']) → Good rss m → rss.length = ww → m ≤ up → Q (.ref D) H'
/-- xs[i] by values, i from 0 on -/
def rGet0 (K : PySem.W.Frag) : V → V → Hp → VK → Prop := fun o i H Q => ∃ (p : Addr) (xs : List V) (j : Nat) (v : V), o = .ref p ∧ i = .int (j : Int) ∧ SqL K H p xs ∧ xs[j]? = some v ∧ Q v H
theorem pget_list {X : Cx} : PGet X (rGet0 X.K) := by
  intro pins s σ H o i ov iv Q I ro ri h
  obtain ⟨p, xs, j, z, rfl, rfl, hq, he, q⟩ := h
  cases ro
  obtain ⟨t, rfl⟩ := ri
  obtain ⟨its, r, pl, hz⟩ := I.list hq
  obtain ⟨w, ew, rw'⟩ := r.get he
  have hj : j < xs.length := (List.getElem?_eq_some_iff.mp he).1
  have hn := line63
  exact wpAny_getItem_list pl.isList (by omega) (by omega) (by rw [Int.toNat_natCast]; simpa using ew) ⟨z, H, I, rw', q⟩
def shq (ns : List Int) : List Rat := ns.map fun x => Rat.divInt x ns.sum
theorem sum_divInt (S : Int) : ∀ ns : List Int, (ns.map fun x => Rat.divInt x S).sum = Rat.divInt ns.sum S
  | [] => by rw [List.map_nil, List.sum_nil, List.sum_nil, Rat.zero_divInt]
  | x :: ns => by
    rw [List.map_cons, List.sum_cons, List.sum_cons, sum_divInt S ns]
    by_cases h : S = 0
    · subst h
      rw [Rat.divInt_zero, Rat.divInt_zero, Rat.divInt_zero, Rat.add_zero]
    · rw [Rat.divInt_add_divInt _ _ h h, ← Int.add_mul, Rat.divInt_mul_right h]
theorem divInt_nn {x S : Int} (hx : 0 ≤ x) (hS : 0 < S) : 0 ≤ Rat.divInt x S := by
  rw [← Rat.num_nonneg, ← Fr.low_num hS]
  exact Int.fdiv_nonneg hx (by omega)
theorem divInt_one {S : Int} (hS : 0 < S) : Rat.divInt S S = 1 := by
  have h := Rat.divInt_mul_right (n := 1) (d := 1) (a := S) (by omega)
  rw [Int.one_mul] at h
  rw [h]
  rfl
theorem shq_ok {ns : List Int} {m : Nat} (hl : ns.length = m) (h0 : ∀ x ∈ ns, 0 ≤ x) (hS : 0 < ns.sum) : RowOk m (shq ns) := by
  refine ⟨by unfold shq; rw [List.length_map, hl], fun q hq => ?_, ?_⟩
  · obtain ⟨x, hx, rfl⟩ := List.mem_map.mp hq
    exact divInt_nn (h0 x hx) hS
  · unfold shq
    rw [sum_divInt, divInt_one hS]
theorem sum_le : ∀ (ns : List Int) (b : Int), (∀ x ∈ ns, x ≤ b) → ns.sum ≤ b * ns.length
  | [], b, _ => by simp
  | x :: ns, b, h => by
    have h1 := sum_le ns b fun y hy => h y (List.mem_cons_of_mem _ hy)
    have h2 := h x (List.mem_cons_self ..)
    rw [List.sum_cons, List.length_cons, Int.natCast_succ, Int.mul_add]
    omega
theorem sum_nn : ∀ (ns : List Int), (∀ x ∈ ns, 0 ≤ x) → 0 ≤ ns.sum
  | [], _ => by simp
  | x :: ns, h => by
    have h1 := sum_nn ns fun y hy => h y (List.mem_cons_of_mem _ hy)
    have h2 := h x (List.mem_cons_self ..)
    rw [List.sum_cons]
    omega
theorem set_sumI : ∀ (l : List Int) (g : Nat) (x : Int), l[g]? = some x → (l.set g (x + 1)).sum = l.sum + 1
  | [], g, x, h => by simp at h
  | y :: l, 0, x, h => by
    have e : y = x := Option.some.inj h
    subst e
    show ((y + 1) :: l).sum = _
    rw [List.sum_cons, List.sum_cons]
    omega
  | y :: l, g + 1, x, h => by
    show (y :: l.set g (x + 1)).sum = _
    rw [List.sum_cons, List.sum_cons, set_sumI l g x h]
    omega
theorem tab_at {d : Int} (h0 : 0 ≤ d) (h6 : d < 6) : ∃ v : Int, atI [V.int 0, V.int 1, V.int 1, V.int 2, V.int 3, V.int 5] d = some (V.int v) ∧ 0 ≤ v ∧ v ≤ 5 := by
  have : d = 0 ∨ d = 1 ∨ d = 2 ∨ d = 3 ∨ d = 4 ∨ d = 5 := by omega
  rcases this with rfl | rfl | rfl | rfl | rfl | rfl
  · exact ⟨_, atI_nat (j := 0) rfl, by decide, by decide⟩
  · exact ⟨_, atI_nat (j := 1) rfl, by decide, by decide⟩
  · exact ⟨_, atI_nat (j := 2) rfl, by decide, by decide⟩
  · exact ⟨_, atI_nat (j := 3) rfl, by decide, by decide⟩
  · exact ⟨_, atI_nat (j := 4) rfl, by decide, by decide⟩
  · exact ⟨_, atI_nat (j := 5) rfl, by decide, by decide⟩
theorem ne_num {K : PySem.W.Frag} {H : Hp} {l : Addr} {z : Int} {a : Addr} {rs : List Addr} {rss : List (List Rat)} {n : Nat} (hl : H l = some (.lst [.int z])) (h : RwL K H a rs rss n) : a ≠ l := fun e => by
  have := h.1
  rw [e, hl] at this
  cases rs with
  | nil => cases this
  | cons r rs => cases this
theorem nr_num {K : PySem.W.Frag} {H : Hp} {l : Addr} {z : Int} {rs : List Addr} {rss : List (List Rat)} {n : Nat} (hl : H l = some (.lst [.int z])) (h : RowsAt K H n rs rss) : l ∉ rs := fun hm => by
  obtain ⟨j, hj, e⟩ := List.getElem_of_mem hm
  obtain ⟨cs, qs, e1, e2, e3⟩ := h.2 j l (by rw [List.getElem?_eq_getElem hj, e])
  rw [hl] at e2
  cases e2
  obtain ⟨a, q, _, e, _⟩ := e3.at_ 0 _ rfl
  cases e
theorem RwL.keepB {K : PySem.W.Frag} {H H' : Hp} {l : Addr} {z : Int} {a : Addr} {rs : List Addr} {rss : List (List Rat)} {n : Nat} (h : RwL K H a rs rss n) (hl : H l = some (.lst [.int z])) (s : SameB l H H') : RwL K H' a rs rss n :=
  ⟨s _ _ (ne_num hl h) h.1, h.2.keep s hl (nr_num hl h.2)⟩
theorem IsRule.keepB {K : PySem.W.Frag} {H H' : Hp} {C x l : Addr} {z : Int} {rss : List (List Rat)} {n : Nat} (h : IsRule K H C x rss n) (hl : H l = some (.lst [.int z])) (s : SameB l H H') : IsRule K H' C x rss n := by
  obtain ⟨dx, ra, rs, e1, e2⟩ := h
  exact ⟨dx, ra, rs, s _ _ (ne_of e1 hl (by intro w; cases w)) e1, RwL.keepB e2 hl s⟩
theorem New.pre {K : PySem.W.Frag} {H00 H0 H : Hp} {ex D : Addr} {rs : List Addr} {rss : List (List Rat)} {n : Nat} (h : New K H0 H ex D rs rss n) (s : SameB ex H00 H0) (hD : D ≠ ex) : New K H00 H ex D rs rss n := by
  refine ⟨h.at_, h.nd, h.ne, fun x hx => ?_, ?_, h.nx, s.trans h.keep, h.rows⟩
  · cases e : H00 x with
    | none => rfl
    | some o =>
      have := s x o (fun z => h.nx (by rw [← z]; exact hx)) e
      rw [h.fresh x hx] at this
      cases this
  · cases e : H00 D with
    | none => rfl
    | some o =>
      have := s D o hD e
      rw [h.fD] at this
      cases this
theorem RwL.ins {K : PySem.W.Frag} {H : Hp} {a x C dx : Addr} {fs gs : List (Str × V)} {rs : List Addr} {rss : List (List Rat)} {n : Nat} (h : RwL K H a rs rss n) (hx : H x = some (.ins C dx fs)) : RwL K (upd H x (.ins C dx gs)) a rs rss n := by
  have st : ∀ b xs, SqT K H b xs → SqT K (upd H x (.ins C dx gs)) b xs := fun b xs z => by
    rcases z with (z | ⟨o, z⟩) | z
    · exact .inl (.inl (by rw [upd_ne (ne_of z hx (by intro w; cases w))]; exact z))
    · exact .inl (.inr ⟨o, by rw [upd_ne (ne_of z hx (by intro w; cases w))]; exact z⟩)
    · exact .inr z
  refine ⟨by rw [upd_ne (ne_of h.1 hx (by intro w; cases w))]; exact h.1, h.2.1, fun j r e => ?_⟩
  obtain ⟨cs, qs, e1, e2, e3⟩ := h.2.2 j r e
  exact ⟨cs, qs, e1, by rw [upd_ne (ne_of e2 hx (by intro w; cases w))]; exact e2, e3.keep st⟩
/-- len(o), o an instance with its own __len__ -/
def rLenO (C : Addr) (sp : Sp) : List V → Hp → VK → Prop := fun xs H Q => ∃ (x dx : Addr) (fs : List (Str × V)), xs = [.ref x] ∧ H x = some (.ins C dx fs) ∧ sp [.ref x] H (fun v H' => ∃ n : Nat, v = .int (n : Int) ∧ n < 1000 ∧ Q (.int (n : Int)) H') (fun _ _ _ => False)
theorem call_lenO {X : Cx} {C f : Addr} {fd : FuncData} {k : Nat} {sp : Sp} (hs : PySem.W.findIn X.K (.ref C) "__len__" = some (some (.ref f))) (hf : PySem.W.isFn X.K (.ref f) = true) (F : FnOk X.prog X.w X.K X.mg X.base CX0 k f fd ["self"] sp) (hr : Room (k + 1) X.A) (hb : Binds X.K fd ["self"] []) : CallR X (.builtin "len") (rLenO C sp) := by
  intro pins s σ H xs us Q I r h
  obtain ⟨x, dx, fs, rfl, hx, hq⟩ := h
  cases r with
  | @cons _ u _ _ ru rn =>
    cases rn
    cases (show u = Value.ref x from ru)
    obtain ⟨mA, J, _⟩ := ins_get I.hok hx
    obtain ⟨od, J, _⟩ := J.look
    obtain ⟨m, hF⟩ := I.fr
    refine PySem.W.len_K hF I.ok.mod.kin J hs hf ?_
    have e0 : Env0 X.prog X.w X.K X.mg X.base X.A.in1 X.stack s H := by
      have e := I.env0
      exact ⟨e.frames, e.mod, e.bs, e.bsz, e.funs, e.frf, e.hok, e.bare⟩
    have r2 : Vals [V.ref x] [Value.ref x] := .cons rfl .nil
    refine wpAny_call (codeAny_mono (F.run X.A.in1 X.stack s H ⟨[.ref x], []⟩ [.ref x] [.ref x] _ (fun _ _ _ => False) hr.in1 e0 (by
      have := hb s [.ref x] I.kIn rfl
      simpa using this) r2 hq) fun r s' hq' => ?_)
    cases r with
    | error e => exact False.elim hq'
    | ok fl =>
      cases fl with
      | ret u =>
        obtain ⟨z, H', I', rz, n, ez, hn, q⟩ := I.after hq'
        subst ez
        obtain ⟨t, rfl⟩ := (show ∃ t, u = Value.int (n : Int) t from rz)
        exact ⟨⟨by omega, by omega⟩, .int (n : Int), H', I'.tok _, ⟨_, rfl⟩, q⟩
      | next => exact False.elim hq'
      | brk => exact False.elim hq'
      | cont => exact False.elim hq'
theorem sum_snoc' {qs : List Rat} {i : Nat} {q : Rat} (h : qs[i]? = some q) : (qs.take (i + 1)).sum = (qs.take i).sum + q := Co.sum_snoc h
def spTotal (K : PySem.W.Frag) : Sp := fun vs H Q _ => ∃ (l : Addr) (cs : List V) (qs : List Rat) (n : Nat), vs = [.ref l, .non] ∧ SqL K H l cs ∧ FrN K H n cs qs ∧ (n + 1) * qs.length + 1 ≤ 8700 ∧ ∀ r H', Same H H' → SqT K H' r (rp qs.sum) → Q (.ref r) H'
def spCopied (K : PySem.W.Frag) : Sp := fun vs H Q _ => ∃ (a : Addr) (rs : List Addr) (rss : List (List Rat)) (n : Nat), vs = [.ref a] ∧ RwL K H a rs rss n ∧ rss.length ≤ 100 ∧ ∀ D rs' H', Fresh K H H' D rs' rss n → Q (.ref D) H'
theorem eqv_dR (a b : Rat) : PyData.eqv (dR a) (dR b) = decide (a = b) := by
  show PyData.eqv (.tuple [.int a.num, .int (a.den : Int)]) (.tuple [.int b.num, .int (b.den : Int)]) = _
  simp only [PyData.eqv, PyData.eqvAll, Bool.and_true]
  by_cases h : a = b
  · subst h
    simp
  · rw [decide_eq_false h, Bool.and_eq_false_iff]
    by_cases h1 : a.num = b.num
    · refine .inr ?_
      have h2 : a.den ≠ b.den := fun e => h (Rat.ext h1 e)
      simp only [beq_eq_false_iff_ne, ne_eq]
      omega
    · refine .inl ?_
      simp only [beq_eq_false_iff_ne, ne_eq]
      exact h1
def rLenS (K : PySem.W.Frag) : List V → Hp → VK → Prop := fun xs H Q => ∃ p ys, xs = [V.ref p] ∧ (SqL K H p ys ∨ SqT K H p ys) ∧ Q (.int ys.length) H
def rStrI : List V → Hp → VK → Prop := fun xs H Q => ∃ i : Int, xs = [V.int i] ∧ i.natAbs.log2 < 1920 ∧ Q (.str (toString i)) H
def rInt1 : List V → Hp → VK → Prop := fun xs H Q => (∃ i, xs = [V.int i] ∧ Q (.int i) H) ∨ ∃ k, xs = [V.bl k] ∧ Q (.int (if k then 1 else 0)) H
def rTupOf (K : PySem.W.Frag) : List V → Hp → VK → Prop := fun xs H Q => ∃ p ys, xs = [V.ref p] ∧ ((SqL K H p ys ∧ ∀ l, H l = none → Q (.ref l) (upd H l (.tup ys))) ∨ (SqT K H p ys ∧ Q (.ref p) H))
/-- a def that may raise, where it does not -/
theorem quiet {P : Program} {w : World} {K : PySem.W.Frag} {mg : Str → Option Value} {base : Heap} {k : Nat} {f : Addr} {fd : FuncData} {ps : List Str} {sp : Sp} (F : FnOk P w K mg base (L2.CX P w) k f fd ps sp) : FnOk P w K mg base CX0 k f fd ps (fun vs H Q _ => sp vs H Q E0) := by
  refine ⟨fun vs H Q E h => F.len vs H Q E0 h, fun A outer s H args us vs Q E hr e b r h => codeAny_mono (F.run A outer s H args us vs Q E0 hr e b r h) fun r s' hq => ?_⟩
  cases r with
  | error e =>
    obtain ⟨_, _, _, _, _, _, _, _, _, _, _, _, z⟩ := hq
    exact z.elim
  | ok fl =>
    cases fl <;> exact hq
end Rs

set_option Elab.async false
set_option linter.all false
set_option maxRecDepth 100000
set_option maxHeartbeats 4000000
namespace Dz
open PySem PySem.Spec PyProof.Rows L2 BX EXB Co Ru
open Fr (Bd)
/-! ### things of any kind, none of whose lists stands where ex says -/
mutual
inductive Dz (K : PySem.W.Frag) (H : Hp) (ex : Addr → Prop) : V → PyData → Prop
  | non : Dz K H ex .non .none
  | bl (b : Bool) : Dz K H ex (.bl b) (.bool b)
  | int (i : Int) : Dz K H ex (.int i) (.int i)
  | str (x : Str) : Dz K H ex (.str x) (.str x)
  | lst {a : Addr} {xs : List V} {ds : List PyData} (h : H a = some (.lst xs)) (hn : ¬ ex a) (t : DzA K H ex xs ds) : Dz K H ex (.ref a) (.list ds)
  | tup {a : Addr} {xs : List V} {ds : List PyData} (h : SqT K H a xs) (t : DzA K H ex xs ds) : Dz K H ex (.ref a) (.tuple ds)
  | dct {a : Addr} (h : H a = some (.dK [])) (hn : ¬ ex a) : Dz K H ex (.ref a) (.dict [])
inductive DzA (K : PySem.W.Frag) (H : Hp) (ex : Addr → Prop) : List V → List PyData → Prop
  | nil : DzA K H ex [] []
  | cons {v : V} {vs : List V} {d : PyData} {ds : List PyData} (h : Dz K H ex v d) (t : DzA K H ex vs ds) : DzA K H ex (v :: vs) (d :: ds)
end
/-- what changes leaves such things -/
structure Ch (K : PySem.W.Frag) (ex : Addr → Prop) (H H' : Hp) : Prop where
  tp : ∀ a xs, SqT K H a xs → SqT K H' a xs
  ob : ∀ b o, ¬ ex b → H b = some o → H' b = some o
section
variable {K : PySem.W.Frag} {ex ex' : Addr → Prop} {H H' H2 : Hp}
theorem Ch.of (s : Same H H') : Ch K ex H H' := ⟨fun _ _ => seqT s, fun b o _ e => s b o e⟩
theorem Ch.trans (a : Ch K ex H H') (b : Ch K ex H' H2) : Ch K ex H H2 := ⟨fun x y h => b.tp x y (a.tp x y h), fun x y n h => b.ob x y n (a.ob x y n h)⟩
theorem Ch.put {p : Addr} {ys zs : List V} (hp : H p = some (.lst ys)) (h : ex p) : Ch K ex H (upd H p (.lst zs)) := ⟨SameB.tup SameB.upd hp, fun b o n e => by rw [upd_ne (fun z => n (by rw [z]; exact h))]; exact e⟩
theorem Ch.but {l : Addr} {ys : List V} (hl : H l = some (.lst ys)) (s : SameB l H H') (h : ex l) : Ch K ex H H' := ⟨s.tup hl, fun b o n e => s b o (fun z => n (by rw [z]; exact h)) e⟩
mutual
theorem Dz.ch (c : Ch K ex H H') : ∀ (d : PyData) (v : V), Dz K H ex v d → Dz K H' ex v d
  | .none, _, h => by cases h; exact .non
  | .bool b, _, h => by cases h; exact .bl _
  | .int i, _, h => by cases h; exact .int _
  | .str x, _, h => by cases h; exact .str _
  | .list ds, _, h => by
    cases h with
    | lst h hn t => exact .lst (c.ob _ _ hn h) hn (DzA.ch c ds _ t)
  | .tuple ds, _, h => by
    cases h with
    | tup h t => exact .tup (c.tp _ _ h) (DzA.ch c ds _ t)
  | .dict ds, _, h => by
    cases h with
    | dct h hn => exact .dct (c.ob _ _ hn h) hn
theorem DzA.ch (c : Ch K ex H H') : ∀ (ds : List PyData) (vs : List V), DzA K H ex vs ds → DzA K H' ex vs ds
  | [], _, h => by cases h; exact .nil
  | d :: ds, _, h => by
    cases h with
    | cons h t => exact .cons (Dz.ch c d _ h) (DzA.ch c ds _ t)
end
mutual
theorem Dz.sub (s : ∀ a, ex' a → ex a) : ∀ (d : PyData) (v : V), Dz K H ex v d → Dz K H ex' v d
  | .none, _, h => by cases h; exact .non
  | .bool b, _, h => by cases h; exact .bl _
  | .int i, _, h => by cases h; exact .int _
  | .str x, _, h => by cases h; exact .str _
  | .list ds, _, h => by
    cases h with
    | lst h hn t => exact .lst h (fun z => hn (s _ z)) (DzA.sub s ds _ t)
  | .tuple ds, _, h => by
    cases h with
    | tup h t => exact .tup h (DzA.sub s ds _ t)
  | .dict ds, _, h => by
    cases h with
    | dct h hn => exact .dct h fun z => hn (s _ z)
theorem DzA.sub (s : ∀ a, ex' a → ex a) : ∀ (ds : List PyData) (vs : List V), DzA K H ex vs ds → DzA K H ex' vs ds
  | [], _, h => by cases h; exact .nil
  | d :: ds, _, h => by
    cases h with
    | cons h t => exact .cons (Dz.sub s d _ h) (DzA.sub s ds _ t)
end
mutual
theorem Dz.dp : ∀ (d : PyData) (v : V), Dz K H ex v d → d.hasDict = false → Dp K H v d
  | .none, _, h, _ => by cases h; exact .non
  | .bool b, _, h, _ => by cases h; exact .bl _
  | .int i, _, h, _ => by cases h; exact .int _
  | .str x, _, h, _ => by cases h; exact .str _
  | .list ds, _, h, e => by
    cases h with
    | lst h hn t => exact .lst (SqL.of h) (DzA.dp ds _ t (by simpa only [PyData.hasDict] using e))
  | .tuple ds, _, h, e => by
    cases h with
    | tup h t => exact .tup h (DzA.dp ds _ t (by simpa only [PyData.hasDict] using e))
  | .dict ds, _, h, e => by simp only [PyData.hasDict] at e; cases e
theorem DzA.dp : ∀ (ds : List PyData) (vs : List V), DzA K H ex vs ds → PyData.hasDictAll ds = false → DpAll K H vs ds
  | [], _, h, _ => by cases h; exact .nil
  | d :: ds, _, h, e => by
    cases h with
    | cons h t =>
      simp only [PyData.hasDictAll, Bool.or_eq_false_iff] at e
      exact .cons (Dz.dp d _ h e.1) (DzA.dp ds _ t e.2)
end
theorem Dz.same {d : PyData} {v : V} (h : Dz K H ex v d) (s : Same H H') : Dz K H' ex v d := Dz.ch (.of s) d v h
theorem DzA.same {d : List PyData} {v : List V} (h : DzA K H ex v d) (s : Same H H') : DzA K H' ex v d := DzA.ch (.of s) d v h
theorem Dz.cc {d : PyData} {v : V} (h : Dz K H ex v d) (c : Ch K ex H H') : Dz K H' ex v d := Dz.ch c d v h
theorem DzA.cc {d : List PyData} {v : List V} (h : DzA K H ex v d) (c : Ch K ex H H') : DzA K H' ex v d := DzA.ch c d v h
variable {vs us : List V} {ds es : List PyData}
theorem DzA.len (h : DzA K H ex vs ds) : vs.length = ds.length := by
  induction ds generalizing vs with
  | nil => cases h; rfl
  | cons d ds ih => cases h with | cons h t => rw [List.length_cons, List.length_cons, ih t]
theorem DzA.at_ (h : DzA K H ex vs ds) : ∀ {i : Nat} {v : V}, vs[i]? = some v → ∃ d, ds[i]? = some d ∧ Dz K H ex v d := by
  induction ds generalizing vs with
  | nil => cases h; intro i v e; simp at e
  | cons d ds ih =>
    cases h with
    | cons h t =>
      intro i v e
      cases i with
      | zero => cases (Option.some.inj e); exact ⟨_, rfl, h⟩
      | succ i => exact ih t e
theorem DzA.app (h : DzA K H ex vs ds) (g : DzA K H ex us es) : DzA K H ex (vs ++ us) (ds ++ es) := by
  induction ds generalizing vs with
  | nil => cases h; exact g
  | cons d ds ih => cases h with | cons h t => exact .cons h (ih t)
theorem DzA.drop (h : DzA K H ex vs ds) (n : Nat) : DzA K H ex (vs.drop n) (ds.drop n) := by
  induction ds generalizing vs n with
  | nil => cases h; rw [List.drop_nil, List.drop_nil]; exact .nil
  | cons d ds ih =>
    cases h with
    | cons h t =>
      cases n with
      | zero => exact .cons h t
      | succ n => exact ih t n
theorem DzA.take (h : DzA K H ex vs ds) (n : Nat) : DzA K H ex (vs.take n) (ds.take n) := by
  induction ds generalizing vs n with
  | nil => cases h; rw [List.take_nil, List.take_nil]; exact .nil
  | cons d ds ih =>
    cases h with
    | cons h t =>
      cases n with
      | zero => exact .nil
      | succ n => exact .cons h (ih t n)
theorem DzA.set {v : V} {d : PyData} (h : DzA K H ex vs ds) (j : Nat) (g : Dz K H ex v d) : DzA K H ex (vs.set j v) (ds.set j d) := by
  induction ds generalizing vs j with
  | nil => cases h; exact .nil
  | cons d ds ih =>
    cases h with
    | cons h t =>
      cases j with
      | zero => exact .cons g t
      | succ j => exact .cons h (ih t j)
theorem DzA.rep (h : DzA K H ex vs ds) : ∀ k : Nat, DzA K H ex (List.replicate k vs).flatten (List.replicate k ds).flatten
  | 0 => .nil
  | k + 1 => by
    rw [List.replicate_succ, List.replicate_succ, List.flatten_cons, List.flatten_cons]
    exact h.app (DzA.rep h k)
theorem DzA.of_mem : ∀ {vs : List V}, (∀ v ∈ vs, ∃ d, Dz K H ex v d) → ∃ ds, DzA K H ex vs ds
  | [], _ => ⟨[], .nil⟩
  | v :: vs, h => by
    obtain ⟨d, c⟩ := h v (List.mem_cons_self ..)
    obtain ⟨ds, t⟩ := DzA.of_mem fun x hx => h x (List.mem_cons_of_mem _ hx)
    exact ⟨d :: ds, .cons c t⟩
/-! ### kinds -/
def tyD : PyData → String
  | .none => "NoneType"
  | .bool _ => "bool"
  | .int _ => "int"
  | .str _ => "str"
  | .list _ => "list"
  | .tuple _ => "tuple"
  | .dict _ => "dict"
theorem Dz.ty {v : V} {d : PyData} (h : Dz K H ex v d) : TyX K H v (.type (tyD d)) := by
  cases h with
  | non => exact .base .non
  | bl b => exact .base (.bl _)
  | int i => exact .base (.int _)
  | str x => exact .base (.str _)
  | lst h hn t => exact .base (.lst h)
  | tup h t => exact tyT h
  | dct h hn => exact .base (.dK h)
def isL : PyData → Bool
  | .list _ => true
  | _ => false
def isT : PyData → Bool
  | .tuple _ => true
  | _ => false
def isI : PyData → Bool
  | .int _ => true
  | _ => false
def isIB : PyData → Bool
  | .int _ => true
  | .bool _ => true
  | _ => false
def isB : PyData → Bool
  | .bool _ => true
  | _ => false
def isS : PyData → Bool
  | .str _ => true
  | _ => false
theorem kit_isL (d : PyData) : kitB (tyD d) "list" = some (isL d) := by
  cases d with
  | none => show kitB "NoneType" "list" = some false; decide +kernel
  | bool x => show kitB "bool" "list" = some false; decide +kernel
  | int x => show kitB "int" "list" = some false; decide +kernel
  | str x => show kitB "str" "list" = some false; decide +kernel
  | list x => show kitB "list" "list" = some true; decide +kernel
  | tuple x => show kitB "tuple" "list" = some false; decide +kernel
  | dict x => show kitB "dict" "list" = some false; decide +kernel
theorem kit_isT (d : PyData) : kitB (tyD d) "tuple" = some (isT d) := by
  cases d with
  | none => show kitB "NoneType" "tuple" = some false; decide +kernel
  | bool x => show kitB "bool" "tuple" = some false; decide +kernel
  | int x => show kitB "int" "tuple" = some false; decide +kernel
  | str x => show kitB "str" "tuple" = some false; decide +kernel
  | list x => show kitB "list" "tuple" = some false; decide +kernel
  | tuple x => show kitB "tuple" "tuple" = some true; decide +kernel
  | dict x => show kitB "dict" "tuple" = some false; decide +kernel
theorem kit_isIB (d : PyData) : kitB (tyD d) "int" = some (isIB d) := by
  cases d with
  | none => show kitB "NoneType" "int" = some false; decide +kernel
  | bool x => show kitB "bool" "int" = some true; decide +kernel
  | int x => show kitB "int" "int" = some true; decide +kernel
  | str x => show kitB "str" "int" = some false; decide +kernel
  | list x => show kitB "list" "int" = some false; decide +kernel
  | tuple x => show kitB "tuple" "int" = some false; decide +kernel
  | dict x => show kitB "dict" "int" = some false; decide +kernel
theorem kit_isB (d : PyData) : kitB (tyD d) "bool" = some (isB d) := by
  cases d with
  | none => show kitB "NoneType" "bool" = some false; decide +kernel
  | bool x => show kitB "bool" "bool" = some true; decide +kernel
  | int x => show kitB "int" "bool" = some false; decide +kernel
  | str x => show kitB "str" "bool" = some false; decide +kernel
  | list x => show kitB "list" "bool" = some false; decide +kernel
  | tuple x => show kitB "tuple" "bool" = some false; decide +kernel
  | dict x => show kitB "dict" "bool" = some false; decide +kernel
theorem kit_isS (d : PyData) : kitB (tyD d) "str" = some (isS d) := by
  cases d with
  | none => show kitB "NoneType" "str" = some false; decide +kernel
  | bool x => show kitB "bool" "str" = some false; decide +kernel
  | int x => show kitB "int" "str" = some false; decide +kernel
  | str x => show kitB "str" "str" = some true; decide +kernel
  | list x => show kitB "list" "str" = some false; decide +kernel
  | tuple x => show kitB "tuple" "str" = some false; decide +kernel
  | dict x => show kitB "dict" "str" = some false; decide +kernel
/-- how many things a list has -/
def lenD : PyData → Option Nat
  | .list ds => some ds.length
  | _ => none
def lenOk : Option Nat → Int → Int → Bool
  | some n, lo, hi => decide (lo ≤ (n : Int)) && decide ((n : Int) ≤ hi)
  | none, _, _ => false
/-- the fraction that a thing is -/
def ratD : PyData → Option Rat
  | .tuple [.int t, .int b] => if 1 ≤ b ∧ Int.gcd t b = 1 then some (Rat.divInt t b) else none
  | _ => none
theorem ratD_num {t b : Int} (h1 : 1 ≤ b) (hg : Int.gcd t b = 1) : (Rat.divInt t b).num = t ∧ ((Rat.divInt t b).den : Int) = b := by
  have e1 := Fr.low_num (t := t) (b := b) (by omega)
  have e2 := Fr.low_den (t := t) (b := b) (by omega)
  rw [hg] at e1 e2
  rw [← e1, ← e2]
  exact ⟨Int.fdiv_one _, Int.fdiv_one _⟩
theorem Dz.rat {v : V} {d : PyData} {q : Rat} (h : Dz K H ex v d) (e : ratD d = some q) : ∃ a, v = .ref a ∧ SqT K H a (rp q) ∧ d = dR q := by
  unfold ratD at e
  split at e
  · rename_i t b
    split at e
    · rename_i c
      obtain ⟨e1, e2⟩ := ratD_num c.1 c.2
      cases e
      cases h with
      | @tup a xs _ h ts =>
        cases ts with
        | cons h1 ts =>
          cases ts with
          | cons h2 ts =>
            cases ts
            cases h1
            cases h2
            refine ⟨a, rfl, ?_, ?_⟩
            · unfold rp
              rw [e1, e2]
              exact h
            · unfold dR
              rw [e1, e2]
    · cases e
  · cases e
theorem ratD_dR (q : Rat) : ratD (dR q) = some q := by
  show (if 1 ≤ (q.den : Int) ∧ Int.gcd q.num q.den = 1 then some (Rat.divInt q.num q.den) else none) = some q
  have := Fr.den_pos q
  rw [if_pos ⟨by omega, Fr.ratio_gcd q⟩, Rat.num_divInt_den]
theorem dz_dR {a : Addr} {q : Rat} (h : SqT K H a (rp q)) : Dz K H ex (.ref a) (dR q) := .tup h (.cons (.int _) (.cons (.int _) .nil))
def shD (d : PyData) : Bool := match ratD d with
  | some q => decide (0 ≤ q.num)
  | none => false
def sumD (ds : List PyData) : Rat := (ds.map fun d => (ratD d).getD 0).sum
/-- things that are all fractions -/
theorem DzA.rats {n : Nat} (h : DzA K H ex vs ds) (hb : ∀ d ∈ ds, ∀ q, ratD d = some q → Bd n q) (g : ds.all (fun d => (ratD d).isSome) = true) : ∃ qs, ds = qs.map dR ∧ FrN K H n vs qs := by
  induction ds generalizing vs with
  | nil => cases h; exact ⟨[], rfl, FrN.nil⟩
  | cons d ds ih =>
    cases h with
    | @cons v vs _ _ h t =>
      rw [List.all_cons, Bool.and_eq_true] at g
      obtain ⟨qs, e1, e2⟩ := ih t (fun x hx => hb x (List.mem_cons_of_mem _ hx)) g.2
      obtain ⟨q, eq⟩ := Option.isSome_iff_exists.mp g.1
      obtain ⟨a, rfl, e3, e4⟩ := h.rat eq
      refine ⟨q :: qs, by rw [e4, e1]; rfl, ⟨by rw [List.length_cons, List.length_cons, e2.len], fun i x e => ?_⟩⟩
      cases i with
      | zero => cases (Option.some.inj e); exact ⟨a, q, rfl, rfl, e3, hb d (List.mem_cons_self ..) q eq⟩
      | succ i => exact e2.at_ i x e
theorem frn_dz : ∀ {vs : List V} {qs : List Rat} {n : Nat}, FrN K H n vs qs → DzA K H ex vs (qs.map dR)
  | [], [], _, _ => .nil
  | [], _ :: _, _, h => by have := h.len; simp at this
  | _ :: _, [], _, h => by have := h.len; simp at this
  | v :: vs, q :: qs, n, h => by
    obtain ⟨a, q', e1, rfl, e3, e4⟩ := h.at_ 0 v rfl
    cases (Option.some.inj e1)
    exact .cons (dz_dR e3) (frn_dz (n := n) ⟨by have := h.len; simpa using this, fun i v e => h.at_ (i + 1) v e⟩)
theorem rows_dz : ∀ {rs : List Addr} {rss : List (List Rat)} {n : Nat}, RowsAt K H n rs rss → (∀ r ∈ rs, ¬ ex r) → DzA K H ex (rs.map V.ref) (rss.map fun qs => .list (qs.map dR))
  | [], [], _, _, _ => .nil
  | [], _ :: _, _, h, _ => by have := h.1; simp at this
  | _ :: _, [], _, h, _ => by have := h.1; simp at this
  | r :: rs, q :: rss, n, h, hn => by
    obtain ⟨cs, qs, e1, e2, e3⟩ := h.2 0 r rfl
    have e : q = qs := Option.some.inj e1
    subst e
    exact .cons (.lst e2 (hn r (List.mem_cons_self ..)) (frn_dz e3)) (rows_dz (n := n) ⟨by have := h.1; simpa using this, fun j x e => h.2 (j + 1) x e⟩ fun r hr => hn r (List.mem_cons_of_mem _ hr))
end
/-! ### shown -/
section
variable {X : Cx} {pins : List (Addr × Obj)} {σ : L2.St} {H : Hp} {s : Shared} {ex : Addr → Prop}
mutual
theorem Dz.repk (I : Inv X pins σ H s) : ∀ (d : PyData) (v : V) (u : Value), Dz X.K H ex v d → RelV v u → d.showable = true → d.shown.length ≤ sizeLine → ∃ as bs, Reads s.heap u d as ∧ ReadAtMost s.heap d.depth bs ∧ ReprK X.prog X.w bs s.heap d.depth u d.shown
  | .none, _, _, h, r, _, _ => by
    cases h
    cases r
    exact ⟨[], [], .none, fun _ z => (nomatch z), ReprK.of_is ReprIs.none [] _ _⟩
  | .bool b, _, _, h, r, _, _ => by
    cases h
    cases r
    exact ⟨[], [], .bool b, fun _ z => (nomatch z), ReprK.of_is (ReprIs.bool b) [] _ _⟩
  | .int i, _, _, h, r, hs, _ => by
    cases h
    obtain ⟨t, rfl⟩ := r
    exact ⟨[], [], .int i t, fun _ z => (nomatch z), ReprK.of_is (ReprIs.int t (of_decide_eq_true hs)) [] _ _⟩
  | .str x, _, _, h, r, _, hz => by
    cases h
    obtain ⟨t, rfl⟩ := r
    exact ⟨[], [], .str x t, fun _ z => (nomatch z), ReprK.of_is (ReprIs.str x t hz) [] _ _⟩
  | .list ds, _, _, h, r, hs, hz => by
    cases h with
    | @lst a xs _ h hn t =>
      cases r
      obtain ⟨_, its, n, rv, e⟩ := (show ObjOk X.prog X.w H s.heap a (.lst xs) from I.hok a _ h)
      have hz1 : (listText (PyData.shownAll ds)).length ≤ sizeLine := hz
      obtain ⟨as, bs, h1, h2, h3⟩ := DzA.repk I ds xs its t rv hs fun y hy => Nat.le_trans (listText_mem_le hy) hz1
      have rd : Reads s.heap (.ref a) (.list ds) (a :: as) := .list e rfl rfl h1
      have na : a ∉ bs := not_mem_of_deeper rd (Nat.lt_succ_self _) h2
      refine ⟨_, a :: bs, rd, ReadAtMost.cons rd (Nat.le_succ _) h2, ?_⟩
      cases its with
      | nil =>
        cases h1
        exact ReprK.listEmpty e rfl rfl
      | cons x l => exact ReprK.list e rfl rfl na (by simpa using h3.length_eq) fun i y z => h3.item i y (by simpa using z)
  | .tuple ds, _, _, h, r, hs, hz => by
    cases h with
    | @tup a xs _ h t =>
      cases r
      obtain ⟨its, rv, ⟨o, ho, hc, n, hd⟩, _⟩ := I.tuple h
      have hz1 : (tupleText (PyData.shownAll ds)).length ≤ sizeLine := hz
      obtain ⟨as, bs, h1, h2, h3⟩ := DzA.repk I ds xs its t rv hs fun y hy => Nat.le_trans (tupleText_mem_le hy) hz1
      have rd : Reads s.heap (.ref a) (.tuple ds) as := .tuple ho hc hd h1
      exact ⟨_, a :: bs, rd, ReadAtMost.cons rd (Nat.le_succ _) h2, ReprK.tuple ho hc hd (not_mem_of_deeper rd (Nat.lt_succ_self _) h2) h3⟩
  | .dict ds, _, _, h, r, _, _ => by
    cases h with
    | @dct a h hn =>
      cases r
      obtain ⟨_, hns, vs, hkv, o, es, ep, h1, h2, h3, h4, h5, _⟩ := (show ObjOk X.prog X.w H s.heap a (.dK []) from I.hok a _ h)
      cases hkv
      have he : es.toList = [] := List.eq_nil_of_length_eq_zero h5.length
      have rd : Reads s.heap (.ref a) (.dict []) (a :: [] ++ []) := .dict h1 h2.1 h3 (by rw [he]; exact .nil) (by rw [he]; exact .nil)
      refine ⟨_, [a], rd, ReadAtMost.cons (n := 0) (bs := []) rd (Nat.zero_le _) (fun _ z => (nomatch z)), ReprK.dict (d := 0) (ps := []) h1 h2.1 h3 hns (by simp) (by rw [he]; exact .nil)⟩
theorem DzA.repk (I : Inv X pins σ H s) : ∀ (ds : List PyData) (vs : List V) (us : List Value), DzA X.K H ex vs ds → Vals vs us → PyData.showableAll ds = true → (∀ t ∈ PyData.shownAll ds, t.length ≤ sizeLine) → ∃ as bs, ReadsAll s.heap us ds as ∧ ReadAtMost s.heap (PyData.depthAll ds) bs ∧ ReprAllK X.prog X.w bs s.heap (PyData.depthAll ds) us (PyData.shownAll ds)
  | [], _, _, h, r, _, _ => by
    cases h
    cases r
    exact ⟨[], [], .nil, fun _ z => (nomatch z), .nil⟩
  | d :: ds, _, _, h, r, hs, hz => by
    cases h with
    | cons h t =>
      cases r with
      | cons r1 r2 =>
        have hs' : d.showable = true ∧ PyData.showableAll ds = true := Bool.and_eq_true _ _ ▸ (show (d.showable && PyData.showableAll ds) = true from hs)
        obtain ⟨as, bs, a1, a2, a3⟩ := Dz.repk I d _ _ h r1 hs'.1 (hz _ (List.mem_cons_self ..))
        obtain ⟨cs, es, b1, b2, b3⟩ := DzA.repk I ds _ _ t r2 hs'.2 fun y hy => hz y (List.mem_cons_of_mem _ hy)
        refine ⟨as ++ cs, bs ++ es, .cons a1 b1, fun b hb => ?_, .cons ((a3.more fun b hb => List.mem_append_left _ hb).level_le (Nat.le_max_left _ _)) (b3.more_le (fun b hb => List.mem_append_right _ hb) (Nat.le_max_right _ _))⟩
        rcases List.mem_append.mp hb with hb | hb
        · obtain ⟨x, y, z1, z2⟩ := a2 b hb
          exact ⟨x, y, z1, Nat.le_trans z2 (Nat.le_max_left _ _)⟩
        · obtain ⟨x, y, z1, z2⟩ := b2 b hb
          exact ⟨x, y, z1, Nat.le_trans z2 (Nat.le_max_right _ _)⟩
end
/-- repr of a list that is not empty -/
def rReprZ (K : PySem.W.Frag) : List V → Hp → VK → Prop := fun xs H Q => ∃ (ex : Addr → Prop) (x : V) (d : PyData) (ds : List PyData), xs = [x] ∧ Dz K H ex x (.list (d :: ds)) ∧ (PyData.list (d :: ds)).showable = true ∧ (PyData.list (d :: ds)).depth ≤ 64 ∧ (PyData.list (d :: ds)).shown.length ≤ sizeLine ∧ Q (.str (PyData.list (d :: ds)).shown) H
theorem call_reprZ {X : Cx} (hgd : X.A.guards = some []) (hu : X.A.units + 80 < cLine) : CallR X (.builtin "repr") (rReprZ X.K) := by
  intro pins s σ H xs us Q I r h
  obtain ⟨ex, x, d, ds, rfl, hd, hs, hdp, hsz, q⟩ := h
  cases r with
  | @cons _ u _ _ ru rn =>
    cases rn
    cases hd with
    | @lst a xs _ h hn t =>
      cases ru
      obtain ⟨_, its, n, rv, e⟩ := (show ObjOk X.prog X.w H s.heap a (.lst xs) from I.hok a _ h)
      have hz1 : (listText (PyData.shownAll (d :: ds))).length ≤ sizeLine := hsz
      obtain ⟨as, bs, h1, h2, h3⟩ := DzA.repk I (d :: ds) xs its t rv hs fun y hy => Nat.le_trans (listText_mem_le hy) hz1
      have rd : Reads s.heap (.ref a) (.list (d :: ds)) (a :: as) := .list e rfl rfl h1
      have na : a ∉ bs := not_mem_of_deeper rd (Nat.lt_succ_self _) h2
      have hdp' : PyData.depthAll (d :: ds) + 1 ≤ 64 := hdp
      cases its with
      | nil => cases h1
      | cons x l =>
        refine call_repr_slot (by omega) ⟨_, e, rfl⟩ F.slot_list_repr.toG (call_list_reprK e rfl rfl na (by simpa using h3.length_eq) (fun i y z => h3.item i y (by simpa using z)) hgd (fun b _ => Clear.nil b) (by show X.A.units + 1 + (_ + 1) < cLine; omega) (fun _ _ z => z) (fun h' u tk hk => ⟨_, _, rfl, ?_⟩) hz1)
        exact ⟨.str (PyData.list (d :: ds)).shown, H, I.kept (t' := tk) hk, ⟨_, rfl⟩, q⟩
end
/-! ### how long what is shown is -/
theorem textFrom_le : ∀ (ts : List Str) (k : Nat) (acc : Str), (textFrom k acc ts).length ≤ acc.length + piled ts
  | [], k, acc => Nat.le_add_right _ _
  | t :: ts, k, acc => by
    have h := textFrom_le ts (k + 1) (acc ++ (if k > 0 then ", " else "" : String) ++ t)
    rw [strLen_append, strLen_append] at h
    rw [piled_cons]
    have e : textFrom k acc (t :: ts) = textFrom (k + 1) (acc ++ (if k > 0 then ", " else "" : String) ++ t) ts := rfl
    rw [e]
    have hc : (((if k > 0 then ", " else "" : String) : Str)).length ≤ 2 := by split <;> decide
    omega
theorem listText_le (ts : List Str) : (listText ts).length ≤ 2 + piled ts := by
  have h := textFrom_le ts 0 "["
  unfold listText
  rw [strLen_append]
  have h1 : (("[" : String) : Str).length = 1 := by decide
  have h2 : (("]" : String) : Str).length = 1 := by decide
  omega
theorem tupleText_le (ts : List Str) : (tupleText ts).length ≤ 3 + piled ts := by
  unfold tupleText
  rw [strLen_append, strLen_append]
  have h1 : (("(" : String) : Str).length = 1 := by decide
  have h2 : (((if ts.length == 1 then ",)" else ")" : String) : Str)).length ≤ 2 := by split <;> decide
  cases ts with
  | nil =>
    have h3 : (Str.join ", " []).length = 0 := by decide
    omega
  | cons t ts =>
    have h3 := join_length_add (t :: ts) (by simp)
    omega
theorem piled_le {ts : List Str} {b : Nat} (h : ∀ t ∈ ts, t.length ≤ b) : piled ts ≤ ts.length * (b + 2) := by
  induction ts with
  | nil => exact Nat.zero_le _
  | cons t ts ih =>
    rw [piled_cons, List.length_cons, Nat.succ_mul]
    have h1 := h t (List.mem_cons_self ..)
    have h2 := ih fun x hx => h x (List.mem_cons_of_mem _ hx)
    omega
/-- data that can be shown, of so many levels, no longer than b -/
structure Sm (d : PyData) (k b : Nat) : Prop where
  sh : d.showable = true
  dp : d.depth ≤ k
  sz : d.shown.length ≤ b
  ly : d.canLay0 = true
theorem Sm.mono {d : PyData} {k b k' b' : Nat} (h : Sm d k b) (hk : k ≤ k') (hb : b ≤ b') : Sm d k' b' := ⟨h.sh, Nat.le_trans h.dp hk, Nat.le_trans h.sz hb, h.ly⟩
theorem shownAll_len : ∀ ds : List PyData, (PyData.shownAll ds).length = ds.length
  | [] => by simp only [PyData.shownAll, List.length_nil]
  | d :: ds => by simp only [PyData.shownAll, List.length_cons, shownAll_len ds]
theorem shownAll_mem : ∀ {ds : List PyData} {t : Str}, t ∈ PyData.shownAll ds → ∃ d ∈ ds, t = d.shown
  | [], t, h => by simp only [PyData.shownAll] at h; exact nomatch h
  | d :: ds, t, h => by
    simp only [PyData.shownAll, List.mem_cons] at h
    rcases h with rfl | h
    · exact ⟨d, List.mem_cons_self .., rfl⟩
    · obtain ⟨x, hx, e⟩ := shownAll_mem h
      exact ⟨x, List.mem_cons_of_mem _ hx, e⟩
theorem sm_piled {ds : List PyData} {k b n : Nat} (h : ∀ d ∈ ds, Sm d k b) (hn : ds.length ≤ n) : piled (PyData.shownAll ds) ≤ n * (b + 2) := by
  have h1 := piled_le (ts := PyData.shownAll ds) (b := b) fun t ht => by
    obtain ⟨d, hd, rfl⟩ := shownAll_mem ht
    exact (h d hd).sz
  rw [shownAll_len] at h1
  exact Nat.le_trans h1 (Nat.mul_le_mul_right _ hn)
theorem sm_shs : ∀ {ds : List PyData} {k b : Nat}, (∀ d ∈ ds, Sm d k b) → PyData.showableAll ds = true
  | [], _, _, _ => by simp only [PyData.showableAll]
  | d :: ds, k, b, h => by simp only [PyData.showableAll, (h d (List.mem_cons_self ..)).sh, sm_shs fun x hx => h x (List.mem_cons_of_mem _ hx), Bool.and_self]
theorem sm_lys : ∀ {ds : List PyData} {k b : Nat}, (∀ d ∈ ds, Sm d k b) → PyData.canLayAll0 ds = true
  | [], _, _, _ => rfl
  | d :: ds, k, b, h => by
    show (PyData.canLay0 d && PyData.canLayAll0 ds) = true
    rw [(h d (List.mem_cons_self ..)).ly, sm_lys fun x hx => h x (List.mem_cons_of_mem _ hx)]
    rfl
theorem sm_dps : ∀ {ds : List PyData} {k b : Nat}, (∀ d ∈ ds, Sm d k b) → PyData.depthAll ds ≤ k
  | [], _, _, _ => Nat.zero_le _
  | d :: ds, k, b, h => by
    show max (PyData.depth d) (PyData.depthAll ds) ≤ k
    have h1 := (h d (List.mem_cons_self ..)).dp
    have h2 := sm_dps fun x hx => h x (List.mem_cons_of_mem _ hx)
    omega
theorem sm_list {ds : List PyData} {k b n c : Nat} (h : ∀ d ∈ ds, Sm d k b) (hn : ds.length ≤ n) (hc : 3 + n * (b + 2) ≤ c) : Sm (.list ds) (k + 1) c := by
  refine ⟨by simp only [PyData.showable]; exact sm_shs h, ?_, ?_, sm_lys h⟩
  · have := sm_dps h
    show PyData.depthAll ds + 1 ≤ k + 1
    omega
  · have h1 := listText_le (PyData.shownAll ds)
    have h2 := sm_piled h hn
    simp only [PyData.shown]
    omega
theorem sm_tup {ds : List PyData} {k b n c : Nat} (h : ∀ d ∈ ds, Sm d k b) (hn : ds.length ≤ n) (hc : 3 + n * (b + 2) ≤ c) : Sm (.tuple ds) (k + 1) c := by
  refine ⟨by simp only [PyData.showable]; exact sm_shs h, ?_, ?_, sm_lys h⟩
  · have := sm_dps h
    show PyData.depthAll ds + 1 ≤ k + 1
    omega
  · have h1 := tupleText_le (PyData.shownAll ds)
    have h2 := sm_piled h hn
    simp only [PyData.shown]
    omega
end Dz

set_option Elab.async false
set_option linter.all false
set_option maxRecDepth 100000
set_option maxHeartbeats 4000000
namespace PySem.F
theorem exk_store : StoreFacts "KeyError" [.type "KeyError", .type "LookupError", .type "Exception", .type "BaseException", .type "object"] "object.__setattr__" "object" := { store_IndexError with
  mro := (by kernel_rfl)
  slot := (.of (owner := "object") (n := "__setattr__") (by rw [typeLookup_type, builtinLookup_eq_fast]; kernel_rfl) (by decide +kernel) (by decide +kernel) (by decide +kernel) (by first | exact .inl (by decide +kernel) | exact .inr (by decide +kernel)) (by rw [isSubtype_type]; kernel_rfl))
  passes := (fun self => by kernel_rfl) }
end PySem.F
namespace EXB
open PySem PySem.Spec PyProof.Rows L2
/-- what making an error by newId asks of the types above its class -/
def NwF (newId : String) (bm : List Value) : Prop := ∃ B initId bmB, ExcBaseFacts B newId initId bmB ∧ bm.contains (.type B) = true ∧ bm.contains (.type "AttributeError") = false ∧ bm.contains (.type "NameError") = false
theorem NwF.of {B newId initId : String} {bmB : List Value} (F : ExcBaseFacts B newId initId bmB) : NwF newId bmB := ⟨B, initId, bmB, F, F.hasB, F.noAttr, F.noName⟩
theorem nw_key : NwF "LookupError.__new__" [.type "KeyError", .type "LookupError", .type "Exception", .type "BaseException", .type "object"] := ⟨_, _, _, PySem.F.excBase_LookupError, by decide +kernel, by decide +kernel, by decide +kernel⟩
/-- what B.__init__(e, ..) asks -/
structure InF (B initId : String) (bm : List Value) : Prop where
  plain : plainId initId = true
  entry : entryFor table initId = some Builtin.«BaseException.__init__»
  split : splitId initId = some (B, "__init__")
  kind : builtinKind initId = some .slot
  row : Manifest.signature? initId = some ⟨.positional, "*", B, .self, [⟨"args", .varPos, false⟩]⟩
  star : (B != "*") = true
  hasB : bm.contains (.type B) = true
theorem InF.of {B newId initId : String} {bmB : List Value} (F : ExcBaseFacts B newId initId bmB) : InF B initId bmB := ⟨F.init.plain, F.initEntry, F.initSplit, F.initKind, F.initRow, F.noStar, F.hasB⟩
open PySem.F in
theorem in_key : InF "KeyError" "KeyError.__init__" [.type "KeyError", .type "LookupError", .type "Exception", .type "BaseException", .type "object"] where
  plain := (by decide +kernel)
  entry := (entryFor_alias (id' := "BaseException.__init__") (by rw [fastTable_eq_tree]; kernel_rfl) (by first | rfl | decide +kernel) (by decide +kernel) (by rw [fastTable_eq_tree]; kernel_rfl))
  split := (by kernel_rfl)
  kind := (by kernel_rfl)
  row := (by kernel_rfl)
  star := (by decide +kernel)
  hasB := (by decide +kernel)
section
variable {prog : Program} {w : World} {A : Around} {E : Value → Shared → Prop} {R : Result → Shared → Prop} {h : Heap} {g : Array GenState} {d : Drawn} {t : Nat} {os : OsState}
variable {nm q : Str} {C N : Addr} {bs bm : List Value} {hdct : Bool} {sn : List Str} {sub : List Value} {ab : Bool} {col : Option Bool} {dd : Option Addr} {k0 k1 k2 k3 k5 : Option Value} {B newId initId : String}
theorem newW (F : NwF newId bm) {rest : List Value} (hC : h.get? C = some (excClassObj nm q C N bs bm hdct sn sub ab col dd k0 k1 k2 k3 k5 newId))
    (hq : R (.ok (.ret (.ref (h.objs.size + 1)))) ⟨(h.push (PySem.W.kdv_tup rest)).push (PySem.HandSPX.excO C h.objs.size), g, d, t, os⟩) (hrest : rest.length ≤ sizeLine) :
    codeAny (model prog w) A (.builtin newId ⟨.ref C :: rest, []⟩) R ⟨h, g, d, t, os⟩ := by
  obtain ⟨B, initId, bmB, F, hB, hA, hN⟩ := F
  have hends := F.ends
  have cB : (Value.ref C :: bm).contains (.type B) = true := by rw [List.contains_cons, hB, Bool.or_true]
  have cA : (Value.ref C :: bm).contains (.type "AttributeError") = false := by rw [List.contains_cons, hA]; rfl
  have cN : (Value.ref C :: bm).contains (.type "NameError") = false := by rw [List.contains_cons, hN]; rfl
  refine codeAny_builtinAt F.entry ?_
  unfold Builtin.«BaseException.__new__»
  refine PySem.wpAt_bind ?_
  show PySem.wpAt _ _ _ (stack >>= _) _ _ _
  refine PySem.wpAt_bind (PySem.wpAt_stack fun p below => PySem.wpAt_of_wpAny ?_)
  wp_walk
  refine PySem.wpAt_of_wpAny ?_
  rw [F.owner]
  repeat (first | with_reducible refine wpAny_madeHere_exc F.canon hC ?_ | with_reducible refine wpAny_loadPart_at hC ?_ | (with_reducible refine wpAny_isSubtype_exc hC ?_; first | rw [cB] | rw [cA] | rw [cN]) | wp_step)
  show R _ _
  rw [Heap.size_push]
  exact hq
theorem chkW {M : Model} (F : NwF newId bm) {rest : List Value} {Q : Unit → Shared → Prop} (hC : h.get? C = some (excClassObj nm q C N bs bm hdct sn sub ab col dd k0 k1 k2 k3 k5 newId)) (hq : Q () ⟨h, g, d, t, os⟩) :
    wpAny M A (checkBuiltinCall newId ⟨.ref C :: rest, []⟩) Q E ⟨h, g, d, t, os⟩ := by
  obtain ⟨B, initId, bmB, F, hB, hA, hN⟩ := F
  have cB : (Value.ref C :: bm).contains (.type B) = true := by rw [List.contains_cons, hB, Bool.or_true]
  have hstar := F.noStar
  simp only [checkBuiltinCall, F.newKind, F.newSplit, F.newRow]
  repeat (first | refine wpAny_loadPart_at hC ?_ | (refine wpAny_isSubtype_exc hC ?_; rw [cB]) | refine wpAny_staticBase_exc hC ?_ | refine wpAny_madeBy_exc hC ?_ | simp only [bne_self_eq_false, Bool.false_eq_true, if_false] | wp_step)
  exact hq
theorem NwF.quiet (F : NwF newId bm) : newId.startsWith "lifetime." = false := by
  obtain ⟨B, initId, bmB, F, _⟩ := F
  exact F.quiet
theorem tcW (F : NwF newId bm) {rest : List Value} {fI : Addr} {Q : Fin → Shared → Prop}
    (hC : h.get? C = some (excClassObj nm q C N bs bm hdct sn sub ab col dd k0 k1 k2 k3 k5 newId)) (hi : PySem.W.Looks (model prog w) h (typeLookup (.ref C) "__init__") (some (.ref fI)))
    (hb : ∀ self, PySem.W.Looks (model prog w) h (bindSpecial (.ref fI) self) (.ref fI, [self])) (hrest : rest.length ≤ sizeLine)
    (hq : codeAny (model prog w) A (.call (.ref fI) ⟨.ref (h.objs.size + 1) :: rest, []⟩) (fun r s' => match r with | .ok (.ret v) => v = .none ∧ Q (.done (.ret (.ref (h.objs.size + 1)))) s' | .ok _ => False | .error e => E e s')
      ⟨(h.push (PySem.W.kdv_tup rest)).push (PySem.HandSPX.excO C h.objs.size), g, d, t, os⟩) :
    wpAny (model prog w) A (Builtin.«type.__call__» ⟨.ref C :: rest, []⟩) Q E ⟨h, g, d, t, os⟩ := by
  repeat (first | with_reducible refine wpAny_loadPart_at hC ?_ | with_reducible refine wpAny_madeBy_exc hC ?_ | wp_step)
  refine codeAny_call_builtin_code (Code.quiet_builtin _ F.quiet) (chkW F hC (newW F hC ?_ hrest))
  show wpAny _ _ _ _ _ _
  have k : ∀ b o, h.get? b = some o → ((h.push (PySem.W.kdv_tup rest)).push (PySem.HandSPX.excO C h.objs.size)).get? b = some o := fun b o e => Heap.get?_push_of_some _ (Heap.get?_push_of_some _ e)
  have hC1 := k _ _ hC
  have hget : ((h.push (PySem.W.kdv_tup rest)).push (PySem.HandSPX.excO C h.objs.size)).get? (h.objs.size + 1) = some (PySem.HandSPX.excO C h.objs.size) := by heap_get
  have cC : (Value.ref C :: bm).contains (.ref C) = true := by simp
  have i1 := hi.keeps k
  have b1 := (hb (.ref (h.objs.size + 1))).keeps k
  unfold isInstance
  repeat (first | with_reducible refine wpAny_loadPart_at hget ?_ | (with_reducible refine wpAny_isSubtype_exc hC1 ?_; rw [cC]) | wp_step)
  show wpAny _ _ (typeLookup (.ref C) _) _ _ _
  refine i1.at ?_
  refine wpAny_holding (wpAny_bind (b1.at ?_))
  refine wpAny_bind (wpAny_call (codeAny_mono hq fun r s' z => ?_))
  rcases r with e | (v | _ | _ | _) <;> first | exact z | exact z.elim | skip
  obtain ⟨rfl, z⟩ := z
  first
    | exact wpAny_pure (wpAny_pure z)
    | (wp_walk; exact z)
/-- C(..), C an own error class, by what stands above it -/
theorem callW (F : NwF newId bm) {rest : List Value} {fI : Addr}
    (hC : h.get? C = some (excClassObj nm q C N bs bm hdct sn sub ab col dd k0 k1 k2 k3 k5 newId)) (hi : PySem.W.Looks (model prog w) h (typeLookup (.ref C) "__init__") (some (.ref fI)))
    (hb : ∀ self, PySem.W.Looks (model prog w) h (bindSpecial (.ref fI) self) (.ref fI, [self])) (hrest : rest.length ≤ sizeLine)
    (hq : codeAny (model prog w) (A.under (.builtin "type.__call__" ⟨.ref C :: rest, []⟩)) (.call (.ref fI) ⟨.ref (h.objs.size + 1) :: rest, []⟩) (PySem.W.InitBack (h.objs.size + 1) R)
      ⟨(h.push (PySem.W.kdv_tup rest)).push (PySem.HandSPX.excO C h.objs.size), g, d, t, os⟩) :
    codeAny (model prog w) A (.call (.ref C) ⟨rest, []⟩) R ⟨h, g, d, t, os⟩ := by
  have f1 := tc_lookup
  have f2 := tc_bind (.ref C)
  have hTy : (⟨h, g, d, t, os⟩ : Shared).TypeIs (.ref C) "type" := ⟨_, hC, rfl⟩
  refine codeAny_of_tree ?_
  show wpAny _ _ (callAny (.ref C) _) _ _ _
  repeat (any_goals (first | assumption | with_reducible refine wpAny_loadPart_at hC ?_ | wp_step))
  refine ⟨rfl, ?_⟩
  refine codeAny_call_builtin_at (Code.quiet_builtin _ (by decide +kernel)) entry_typeCall (wpAny_check_type_call_sub hC (tcW F hC hi hb hrest ?_))
  refine codeAny_mono hq fun r s' z => ?_
  rcases r with e | (v | _ | _ | _) <;> exact z
/-- B.__init__(e, ..) by what it asks -/
theorem initW (F : InF B initId bm) {e t0 : Addr} {rest : List Value}
    (hC : h.get? C = some (excClassObj nm q C N bs bm hdct sn sub ab col dd k0 k1 k2 k3 k5 newId)) (he : h.get? e = some (PySem.HandSPX.excO C t0)) (hrest : rest.length ≤ sizeLine)
    (hq : ∀ h' t1, (∀ b o, b ≠ e → h.get? b = some o → h'.get? b = some o) → h'.get? e = some (PySem.HandSPX.excO C t1) → R (.ok (.ret .none)) ⟨h', g, d, t, os⟩) :
    codeAny (model prog w) A (.call (.builtin initId) ⟨.ref e :: rest, []⟩) R ⟨h, g, d, t, os⟩ := by
  have cB : (Value.ref C :: bm).contains (.type B) = true := by rw [List.contains_cons, F.hasB, Bool.or_true]
  have hstar := F.star
  refine codeAny_call_builtin F.plain F.entry ?_
  simp only [checkBuiltinCall, F.kind, F.split, F.row]
  repeat (first | with_reducible refine wpAny_loadPart_at he ?_ | with_reducible refine wpAny_loadPart_at hC ?_ | (with_reducible refine wpAny_isSubtype_exc hC ?_; rw [cB]) | wp_step)
  refine wpAny_onRaise ?_
  rw [show ∀ (a b : String) (n : Nat), Bind.check ⟨.positional, "*", B, .self, [⟨"args", .varPos, false⟩]⟩ a b n (List.map (fun x => x.fst) ({ pos := Value.ref e :: rest } : Args).kw) = pure () from fun a b n => check_star_args _ _ _ _ _ _]
  refine wpAny_pure ?_
  wp_walk
  refine hq _ h.objs.size (fun b o hb ho => ?_) ?_
  · rw [Heap.get?_update_other _ _ (Ne.symm hb)]
    exact Heap.get?_push_of_some _ ho
  · rw [Heap.get?_update_self _ (Heap.get?_push_of_some _ he) rfl]
    rfl
end
section
variable {X : Cx} {pins : List (Addr × Obj)} {σ : L2.St} {H : Hp} {s : Shared} {a C : Addr} {A : Around} {E : Value → Shared → Prop} {B newId initId : String} {bmB : List Value}
theorem einitW {us : List Value} {Q : Value → Shared → Prop} (F : InF B initId bmB) (T : ExC X.K C newId bmB) (I : Inv X pins σ H s) (e : H a = some (exo a C none)) (hl : us.length ≤ sizeLine) (h : ∀ s', Inv X pins σ H s' → Q .none s') :
    wpAny (model X.prog X.w) A (call (.builtin initId) (.ref a :: us)) Q E s := by
  obtain ⟨nm, q, N, bs, sn, sub, ab, col, dd, k0, k1, k2, k3, k5, hC⟩ := T.cls
  obtain ⟨t1, ho⟩ := exo_at I.hok e
  obtain ⟨hp, g, d, t, os⟩ := s
  refine wpAny_call (initW F (I.kIn _ _ hC) ho hl fun h' t2 k hx => ?_)
  have J := I.write (t' := t) (x := a) (e := a) (o := exo a C none) (by rw [e]; exact True.intro) (.inl rfl) k ⟨_, hx⟩ (exo_ok hx)
  have eu : upd H a (exo a C none) = H := by
    funext b
    by_cases hb : b = a
    · rw [hb, upd_same, e]
    · rw [upd_ne hb]
  rw [eu] at J
  exact h _ J
end
section
variable {X : Cx} {e : Expr} {es : List Expr} {ta : TA} {p p1 p2 pos : Pos} {B newId initId : String} {bmB : List Value}
theorem typ_ArithmeticError : typeOf (.type "ArithmeticError") = pure (.type "type") := by kernel_rfl
theorem pe_initArithmeticError {pl : Sem Bool} (hg : Gl X "ArithmeticError") (hm : X.mg "ArithmeticError" = none) (vV : PySem.W.findCls X.K (.type "ArithmeticError") (.type "type") "__init__" = some (.val (.builtin "ArithmeticError.__init__"))) (ha : PA X (e :: es) ta)
    (hc : eval (.Call (.Attribute (.Name "ArithmeticError" p1) "__init__" p2) (e :: es) [] pos) X.env = (do
      let ov ← eval (.Name "ArithmeticError" p1) X.env
      standAt p2.atName
      let (f, first) ← holding [ov] (getMethod ov "__init__" pl)
      callWith pos f first (backTo pos (starEach (e :: es) X.env)) (backToKw pos (keywordEach [] X.env))) := by rfl)
    (he : starEach (e :: es) X.env = (false, eval e X.env) :: starEach es X.env := by rfl) (hpl : (backTo pos (starEach es X.env)).any (·.1) = false := by rfl) :
    PE X (.Call (.Attribute (.Name "ArithmeticError" p1) "__init__" p2) (e :: es) [] pos) (tExI X.K "ArithmeticError.__new__" [.type "ArithmeticError", .type "Exception", .type "BaseException", .type "object"] ta) := by
  refine ⟨fun pins s σ H Q I h => ?_⟩
  refine PySem.W.methodCall_KW (ld_blt I hg hm PyProof.Rows.Boot.«ArithmeticError» ?_ (by decide) (by decide)) hc
  obtain ⟨m, fr⟩ := I.fr
  refine PySem.W.method_type fr I.ok.mod.kin typ_ArithmeticError (by decide +kernel) vV (by decide +kernel) ?_
  show wpAny _ _ (callWith pos (Value.builtin "ArithmeticError.__init__") [] (backTo pos (starEach (e :: es) X.env)) []) _ _ _
  refine PyProof.Rows.callWith_method1 (thn (ha.run pos pins _ σ H _ (I.tok _) h) fun us s1 ⟨vs, H1, I1, r1, a, C, ws, ev, hl, T, ea, q⟩ => ?_) he hpl
  subst ev
  cases r1 with
  | @cons _ u0 _ ur ra rw' =>
    obtain rfl : u0 = Value.ref a := ra
    have hlen : ur.length ≤ sizeLine := by
      rw [← Paired.length rw', sizeLine_eq]
      omega
    exact einitW (InF.of PySem.F.excBase_ArithmeticError) T I1 ea hlen fun s' J => ⟨.non, H1, J, rfl, q⟩
theorem typ_IndexError : typeOf (.type "IndexError") = pure (.type "type") := by kernel_rfl
theorem pe_initIndexError {pl : Sem Bool} (hg : Gl X "IndexError") (hm : X.mg "IndexError" = none) (vV : PySem.W.findCls X.K (.type "IndexError") (.type "type") "__init__" = some (.val (.builtin "IndexError.__init__"))) (ha : PA X (e :: es) ta)
    (hc : eval (.Call (.Attribute (.Name "IndexError" p1) "__init__" p2) (e :: es) [] pos) X.env = (do
      let ov ← eval (.Name "IndexError" p1) X.env
      standAt p2.atName
      let (f, first) ← holding [ov] (getMethod ov "__init__" pl)
      callWith pos f first (backTo pos (starEach (e :: es) X.env)) (backToKw pos (keywordEach [] X.env))) := by rfl)
    (he : starEach (e :: es) X.env = (false, eval e X.env) :: starEach es X.env := by rfl) (hpl : (backTo pos (starEach es X.env)).any (·.1) = false := by rfl) :
    PE X (.Call (.Attribute (.Name "IndexError" p1) "__init__" p2) (e :: es) [] pos) (tExI X.K "IndexError.__new__" [.type "IndexError", .type "LookupError", .type "Exception", .type "BaseException", .type "object"] ta) := by
  refine ⟨fun pins s σ H Q I h => ?_⟩
  refine PySem.W.methodCall_KW (ld_blt I hg hm PyProof.Rows.Boot.«IndexError» ?_ (by decide) (by decide)) hc
  obtain ⟨m, fr⟩ := I.fr
  refine PySem.W.method_type fr I.ok.mod.kin typ_IndexError (by decide +kernel) vV (by decide +kernel) ?_
  show wpAny _ _ (callWith pos (Value.builtin "IndexError.__init__") [] (backTo pos (starEach (e :: es) X.env)) []) _ _ _
  refine PyProof.Rows.callWith_method1 (thn (ha.run pos pins _ σ H _ (I.tok _) h) fun us s1 ⟨vs, H1, I1, r1, a, C, ws, ev, hl, T, ea, q⟩ => ?_) he hpl
  subst ev
  cases r1 with
  | @cons _ u0 _ ur ra rw' =>
    obtain rfl : u0 = Value.ref a := ra
    have hlen : ur.length ≤ sizeLine := by
      rw [← Paired.length rw', sizeLine_eq]
      omega
    exact einitW (InF.of PySem.F.excBase_IndexError) T I1 ea hlen fun s' J => ⟨.non, H1, J, rfl, q⟩
theorem typ_LookupError : typeOf (.type "LookupError") = pure (.type "type") := by kernel_rfl
theorem pe_initLookupError {pl : Sem Bool} (hg : Gl X "LookupError") (hm : X.mg "LookupError" = none) (vV : PySem.W.findCls X.K (.type "LookupError") (.type "type") "__init__" = some (.val (.builtin "LookupError.__init__"))) (ha : PA X (e :: es) ta)
    (hc : eval (.Call (.Attribute (.Name "LookupError" p1) "__init__" p2) (e :: es) [] pos) X.env = (do
      let ov ← eval (.Name "LookupError" p1) X.env
      standAt p2.atName
      let (f, first) ← holding [ov] (getMethod ov "__init__" pl)
      callWith pos f first (backTo pos (starEach (e :: es) X.env)) (backToKw pos (keywordEach [] X.env))) := by rfl)
    (he : starEach (e :: es) X.env = (false, eval e X.env) :: starEach es X.env := by rfl) (hpl : (backTo pos (starEach es X.env)).any (·.1) = false := by rfl) :
    PE X (.Call (.Attribute (.Name "LookupError" p1) "__init__" p2) (e :: es) [] pos) (tExI X.K "LookupError.__new__" [.type "LookupError", .type "Exception", .type "BaseException", .type "object"] ta) := by
  refine ⟨fun pins s σ H Q I h => ?_⟩
  refine PySem.W.methodCall_KW (ld_blt I hg hm PyProof.Rows.Boot.«LookupError» ?_ (by decide) (by decide)) hc
  obtain ⟨m, fr⟩ := I.fr
  refine PySem.W.method_type fr I.ok.mod.kin typ_LookupError (by decide +kernel) vV (by decide +kernel) ?_
  show wpAny _ _ (callWith pos (Value.builtin "LookupError.__init__") [] (backTo pos (starEach (e :: es) X.env)) []) _ _ _
  refine PyProof.Rows.callWith_method1 (thn (ha.run pos pins _ σ H _ (I.tok _) h) fun us s1 ⟨vs, H1, I1, r1, a, C, ws, ev, hl, T, ea, q⟩ => ?_) he hpl
  subst ev
  cases r1 with
  | @cons _ u0 _ ur ra rw' =>
    obtain rfl : u0 = Value.ref a := ra
    have hlen : ur.length ≤ sizeLine := by
      rw [← Paired.length rw', sizeLine_eq]
      omega
    exact einitW (InF.of PySem.F.excBase_LookupError) T I1 ea hlen fun s' J => ⟨.non, H1, J, rfl, q⟩
theorem typ_RuntimeError : typeOf (.type "RuntimeError") = pure (.type "type") := by kernel_rfl
theorem pe_initRuntimeError {pl : Sem Bool} (hg : Gl X "RuntimeError") (hm : X.mg "RuntimeError" = none) (vV : PySem.W.findCls X.K (.type "RuntimeError") (.type "type") "__init__" = some (.val (.builtin "RuntimeError.__init__"))) (ha : PA X (e :: es) ta)
    (hc : eval (.Call (.Attribute (.Name "RuntimeError" p1) "__init__" p2) (e :: es) [] pos) X.env = (do
      let ov ← eval (.Name "RuntimeError" p1) X.env
      standAt p2.atName
      let (f, first) ← holding [ov] (getMethod ov "__init__" pl)
      callWith pos f first (backTo pos (starEach (e :: es) X.env)) (backToKw pos (keywordEach [] X.env))) := by rfl)
    (he : starEach (e :: es) X.env = (false, eval e X.env) :: starEach es X.env := by rfl) (hpl : (backTo pos (starEach es X.env)).any (·.1) = false := by rfl) :
    PE X (.Call (.Attribute (.Name "RuntimeError" p1) "__init__" p2) (e :: es) [] pos) (tExI X.K "RuntimeError.__new__" [.type "RuntimeError", .type "Exception", .type "BaseException", .type "object"] ta) := by
  refine ⟨fun pins s σ H Q I h => ?_⟩
  refine PySem.W.methodCall_KW (ld_blt I hg hm PyProof.Rows.Boot.«RuntimeError» ?_ (by decide) (by decide)) hc
  obtain ⟨m, fr⟩ := I.fr
  refine PySem.W.method_type fr I.ok.mod.kin typ_RuntimeError (by decide +kernel) vV (by decide +kernel) ?_
  show wpAny _ _ (callWith pos (Value.builtin "RuntimeError.__init__") [] (backTo pos (starEach (e :: es) X.env)) []) _ _ _
  refine PyProof.Rows.callWith_method1 (thn (ha.run pos pins _ σ H _ (I.tok _) h) fun us s1 ⟨vs, H1, I1, r1, a, C, ws, ev, hl, T, ea, q⟩ => ?_) he hpl
  subst ev
  cases r1 with
  | @cons _ u0 _ ur ra rw' =>
    obtain rfl : u0 = Value.ref a := ra
    have hlen : ur.length ≤ sizeLine := by
      rw [← Paired.length rw', sizeLine_eq]
      omega
    exact einitW (InF.of PySem.F.excBase_RuntimeError) T I1 ea hlen fun s' J => ⟨.non, H1, J, rfl, q⟩
theorem typ_KeyError : typeOf (.type "KeyError") = pure (.type "type") := by kernel_rfl
theorem pe_initKeyError {pl : Sem Bool} (hg : Gl X "KeyError") (hm : X.mg "KeyError" = none) (vV : PySem.W.findCls X.K (.type "KeyError") (.type "type") "__init__" = some (.val (.builtin "KeyError.__init__"))) (ha : PA X (e :: es) ta)
    (hc : eval (.Call (.Attribute (.Name "KeyError" p1) "__init__" p2) (e :: es) [] pos) X.env = (do
      let ov ← eval (.Name "KeyError" p1) X.env
      standAt p2.atName
      let (f, first) ← holding [ov] (getMethod ov "__init__" pl)
      callWith pos f first (backTo pos (starEach (e :: es) X.env)) (backToKw pos (keywordEach [] X.env))) := by rfl)
    (he : starEach (e :: es) X.env = (false, eval e X.env) :: starEach es X.env := by rfl) (hpl : (backTo pos (starEach es X.env)).any (·.1) = false := by rfl) :
    PE X (.Call (.Attribute (.Name "KeyError" p1) "__init__" p2) (e :: es) [] pos) (tExI X.K "LookupError.__new__" [.type "KeyError", .type "LookupError", .type "Exception", .type "BaseException", .type "object"] ta) := by
  refine ⟨fun pins s σ H Q I h => ?_⟩
  refine PySem.W.methodCall_KW (ld_blt I hg hm PyProof.Rows.Boot.«KeyError» ?_ (by decide) (by decide)) hc
  obtain ⟨m, fr⟩ := I.fr
  refine PySem.W.method_type fr I.ok.mod.kin typ_KeyError (by decide +kernel) vV (by decide +kernel) ?_
  show wpAny _ _ (callWith pos (Value.builtin "KeyError.__init__") [] (backTo pos (starEach (e :: es) X.env)) []) _ _ _
  refine PyProof.Rows.callWith_method1 (thn (ha.run pos pins _ σ H _ (I.tok _) h) fun us s1 ⟨vs, H1, I1, r1, a, C, ws, ev, hl, T, ea, q⟩ => ?_) he hpl
  subst ev
  cases r1 with
  | @cons _ u0 _ ur ra rw' =>
    obtain rfl : u0 = Value.ref a := ra
    have hlen : ur.length ≤ sizeLine := by
      rw [← Paired.length rw', sizeLine_eq]
      omega
    exact einitW in_key T I1 ea hlen fun s' J => ⟨.non, H1, J, rfl, q⟩
end
/-- an error that stands, of the class at C -/
def IsEr (H : Hp) (C a : Addr) : Prop := H a = some (exo a C none) ∨ ∃ d fs, H a = some (exo a C (some d)) ∧ H d = some (exd d fs)
theorem IsEr.same {H H' : Hp} {C a : Addr} (h : IsEr H C a) (s : Same H H') : IsEr H' C a := by
  rcases h with h | ⟨d, fs, h1, h2⟩
  · exact .inl (s _ _ h)
  · exact .inr ⟨d, fs, s _ _ h1, s _ _ h2⟩
def tMkE (C : Addr) (sp : Sp) (ta : TA) : TE := fun σ H Q => ta σ H fun vs H1 => vs.length ≤ 1000 ∧ ∀ a, H1 a = none → sp (.ref a :: vs) (upd H1 a (exo a C none)) (fun v H2 => v = .non ∧ Q (.ref a) H2) (fun _ _ _ => False)
section
variable {X : Cx} {e : Expr} {es : List Expr} {ta : TA} {p pos : Pos} {B newId initId : String} {bmB : List Value}
/-- the call C(..) of arguments that stand -/
theorem mkE_run {C fI : Addr} {k : Nat} {fd : FuncData} {ps : List Str} {sp : Sp} {pins : List (Addr × Obj)} {σ : L2.St} {H1 : Hp} {s1 : Shared} {us : List Value} {vs : List V} {Q : VK} (Fb : NwF newId bmB) (T : ExC X.K C newId bmB) (iC : PySem.W.findIn X.K (.ref C) "__init__" = some (some (.ref fI))) (tI : PySem.W.typeIn X.K (.ref fI) = some (.type "function"))
    (F1 : FnOk X.prog X.w X.K X.mg X.base CX0 k fI fd ps sp) (hr : Room (k + 1) X.A) (hb : Binds X.K fd ps []) (I1 : Inv X pins σ H1 s1) (r1 : Vals vs us) (hz : vs.length ≤ 1000) (q1 : ∀ a, H1 a = none → sp (.ref a :: vs) (upd H1 a (exo a C none)) (fun v H2 => v = .non ∧ Q (.ref a) H2) (fun _ _ _ => False)) :
    wpAny (model X.prog X.w) X.A (call (.ref C) us) (EP X pins σ Q) X.xe s1 := by
  obtain ⟨nm, q, N, bs, sn, sub, ab, col, dd, k0, k1, k2, k3, k5, hC⟩ := T.cls
  obtain ⟨hp, g, dr, tk, os⟩ := s1
  have hsz : hp.objs.size ≤ hp.objs.size + 1 := Nat.le_succ _
  have hq := q1 (hp.objs.size + 1) (I1.hok.fresh hsz)
  have kk : ∀ b o, hp.get? b = some o → ((hp.push (PySem.W.kdv_tup us)).push (PySem.HandSPX.excO C hp.objs.size)).get? b = some o := fun b o z => Heap.get?_push_of_some _ (Heap.get?_push_of_some _ z)
  have hget : ((hp.push (PySem.W.kdv_tup us)).push (PySem.HandSPX.excO C hp.objs.size)).get? (hp.objs.size + 1) = some (PySem.HandSPX.excO C hp.objs.size) := by heap_get
  have I2 : Inv X pins σ (upd H1 (hp.objs.size + 1) (exo (hp.objs.size + 1) C none)) ⟨(hp.push (PySem.W.kdv_tup us)).push (PySem.HandSPX.excO C hp.objs.size), g, dr, tk, os⟩ :=
    I1.laid (t' := tk) (a := hp.objs.size + 1) (o := exo (hp.objs.size + 1) C none) (h' := (hp.push (PySem.W.kdv_tup us)).push (PySem.HandSPX.excO C hp.objs.size)) kk hsz (exo_ok hget)
  have r2 : Vals (V.ref (hp.objs.size + 1) :: vs) (Value.ref (hp.objs.size + 1) :: us) := .cons rfl r1
  have hl : (Value.ref (hp.objs.size + 1) :: us ++ []).length = ps.length := by
    have z := r2.length
    rw [F1.len _ _ _ _ hq] at z
    simpa using z.symm
  have hus : us.length ≤ sizeLine := by
    rw [← Paired.length r1, sizeLine_eq]
    omega
  refine wpAny_call (callW Fb (I1.kIn _ _ hC) (PySem.W.looks_findIn I1.kIn iC) (fun self => PySem.W.bind_fn I1.kIn self tI) hus
    (codeAny_mono (F1.run _ X.stack _ _ ⟨Value.ref (hp.objs.size + 1) :: us, []⟩ (Value.ref (hp.objs.size + 1) :: us) _ _ (fun _ _ _ => False) (hr.make C us []) (I2.env0.make C us []) (by simpa using hb _ (Value.ref (hp.objs.size + 1) :: us) I2.kIn hl) r2 hq) fun r s' hq' => ?_))
  cases r with
  | error er => exact False.elim hq'
  | ok fl =>
    cases fl with
    | ret u =>
      obtain ⟨v, H', I3, rv, ev, q3⟩ := I2.after hq'
      subst ev
      exact ⟨rv, ⟨V.ref (hp.objs.size + 1), H', (I3 : Inv X pins σ H' s'), rfl, q3⟩⟩
    | next => exact False.elim hq'
    | brk => exact False.elim hq'
    | cont => exact False.elim hq'
/-- C(e, ..), the error being kept -/
theorem pe_mkE {x : Str} {C fI : Addr} {k : Nat} {fd : FuncData} {ps : List Str} {sp : Sp} (Fb : NwF newId bmB) (T : ExC X.K C newId bmB) (iC : PySem.W.findIn X.K (.ref C) "__init__" = some (some (.ref fI))) (tI : PySem.W.typeIn X.K (.ref fI) = some (.type "function"))
    (F1 : FnOk X.prog X.w X.K X.mg X.base CX0 k fI fd ps sp) (hr : Room (k + 1) X.A) (hb : Binds X.K fd ps []) (hg : Gl X x) (hm : X.mg x = some (.ref C)) (ha : PA X (e :: es) ta)
    (hdb : (x == ("__debug__" : Str)) = false := by decide) (he : starEach (e :: es) X.env = (false, eval e X.env) :: starEach es X.env := by rfl) (hpl : (backTo pos (starEach es X.env)).any (·.1) = false := by rfl) :
    PE X (.Call (.Name x p) (e :: es) [] pos) (tMkE C sp ta) := by
  refine ⟨fun pins s σ H Q I h => ?_⟩
  refine wpAny_Call_Name_kw (ld_glob I hg hm ?_ hdb)
  refine PySem.W.callWith_K (h₀ := X.base) I.ok.mod.kin T.kC (thn (ha.run pos pins s σ H _ I h) fun us s1 ⟨vs, H1, I1, r1, hz, q1⟩ => ⟨I1.kIn, ?_⟩) he hpl
  exact mkE_run Fb T iC tI F1 hr hb I1 r1 hz q1
/-- C(), the error being kept -/
theorem pe_mkE0 {x : Str} {C fI : Addr} {k : Nat} {fd : FuncData} {ps : List Str} {sp : Sp} (Fb : NwF newId bmB) (T : ExC X.K C newId bmB) (iC : PySem.W.findIn X.K (.ref C) "__init__" = some (some (.ref fI))) (tI : PySem.W.typeIn X.K (.ref fI) = some (.type "function"))
    (F1 : FnOk X.prog X.w X.K X.mg X.base CX0 k fI fd ps sp) (hr : Room (k + 1) X.A) (hb : Binds X.K fd ps []) (hg : Gl X x) (hm : X.mg x = some (.ref C)) (hdb : (x == ("__debug__" : Str)) = false := by decide) :
    PE X (.Call (.Name x p) [] [] pos) (tMkE C sp tNil) := by
  refine ⟨fun pins s σ H Q I h => ?_⟩
  refine wpAny_Call_Name_kw (ld_glob I hg hm ?_ hdb)
  refine PySem.W.callWith_K0 I.kIn T.kC ?_
  have h' : ([] : List V).length ≤ 1000 ∧ ∀ a, H a = none → sp (.ref a :: []) (upd H a (exo a C none)) (fun v H2 => v = .non ∧ Q (.ref a) H2) (fun _ _ _ => False) := h
  exact mkE_run Fb T iC tI F1 hr hb I .nil h'.1 h'.2
end
/-- isinstance(x, c), x an error that stands -/
def rIsV (K : PySem.W.Frag) : List V → Hp → VK → Prop := fun xs H Q => ∃ (a D : Addr) (c : V) (u : Value) (b : Bool), xs = [.ref a, c] ∧ IsEr H D a ∧ ExcC K D ∧ (∀ w, RelV c w → w = u) ∧ PySem.W.kitOne K (.ref D) u = some b ∧ Q (.bl b) H
theorem call_isV {X : Cx} : CallR X (.builtin "isinstance") (rIsV X.K) := by
  intro pins s σ H xs us Q I r h
  obtain ⟨a, D, c, u, b, rfl, he, C, hcv, e, q⟩ := h
  cases r with
  | cons rx rr =>
    cases rr with
    | cons rt rr =>
      cases rr
      cases rx
      have ec := hcv _ rt
      subst ec
      have hcl : (PySem.W.clsIn X.K D).isSome = true := by
        obtain ⟨cd, hc, _⟩ := PySem.W.any_some C.hd
        rw [hc]
        rfl
      have J : ∃ oe od, PySem.W.InstAt s.heap a oe D od := by
        rcases he with he | ⟨d, fs, h1, h2⟩
        · obtain ⟨t1, ho⟩ := exo_at I.hok he
          exact ⟨_, none, ho, rfl, rfl, trivial⟩
        · obtain ⟨t1, ho⟩ := exo_at I.hok h1
          obtain ⟨o, hd⟩ := objOk_get (I.hok d _ h2)
          exact ⟨_, some o, ho, rfl, rfl, hd⟩
      obtain ⟨oe, od, J⟩ := J
      exact PySem.W.kia_one (PySem.W.kitx_exc hcl C.hg C.hk C.hs C.ha C.hn C.ht C.hm) I.kIn J e (fun z => nomatch z) fun tk => ⟨.bl b, H, I.kept (t' := tk) fun _ _ z => z, rfl, q⟩
/-- the field n of an error that stands -/
def tFE (K : PySem.W.Frag) (n : Str) (te : TE) : TE := fun σ H Q => te σ H fun x H1 => ∃ (a C dd : Addr) (fs : List (Str × V)) (v : V), x = .ref a ∧ H1 a = some (exo a C (some dd)) ∧ H1 dd = some (exd dd fs) ∧ XfC K C ∧ PySem.W.findIn K (.ref C) n = some none ∧ fs.lookup n = some v ∧ Q v H1
theorem pe_fE {X : Cx} {e : Expr} {te : TE} {pos : Pos} {n : Str} (he : PE X e te) (hb : attributeBase e n X.env (eval e X.env) = eval e X.env := by rfl) : PE X (.Attribute e n pos) (tFE X.K n te) := by
  refine ⟨fun pins s σ H Q I h => ?_⟩
  refine attr_of hb (thn (he.run pins s σ H _ I h) fun u s1 hh => ?_)
  obtain ⟨x, H1, I1, rx, a, C, dd, fs, v, ex, ea, ed, T, hno, l, q⟩ := hh
  subst ex
  obtain rfl : u = Value.ref a := rx
  obtain ⟨t1, ha⟩ := exo_at I1.hok ea
  obtain ⟨mA, hns, hr⟩ := exd_at I1.hok ed
  obtain ⟨od, ho, hl⟩ := lookIn_ns hns
  obtain ⟨u, hu, ru⟩ := RelO.some_of (v := v) (o := mA n) (by rw [← l]; exact hr n)
  have J : PySem.W.InstAt s1.heap a { cls := .ref C, dict := some dd, data := .fields #[.ref t1, .none, .none, .none, .bool false, .none] } C (some od) := ⟨ha, rfl, rfl, ho⟩
  exact HandSPX.exc_get I1.kIn J T.ga T.gg T.exC (PySem.W.findObj_own T.hdC hno rfl (by rw [hl, hu])) (handed_of ru) ⟨v, H1, I1.tok _, ru, q⟩
end EXB

set_option Elab.async false
set_option linter.all false
set_option maxRecDepth 100000
set_option maxHeartbeats 4000000
namespace BX
open PySem PySem.Spec PyProof.Rows L2
def tMethD (C : Addr) (m : Str) (sp : Sp) (dvs : List V) (E : L2.St → XK) (ta : TE) (t : TA) : TE := fun σ H Q => ta σ H fun x H1 => ∃ a dx fs, x = .ref a ∧ H1 a = some (.ins C dx fs) ∧ fs.lookup m = none ∧ t σ H1 fun vs H2 => sp (x :: (vs ++ dvs)) H2 Q (E σ)
section
variable {X : Cx} {CX : CXT} {k : Nat} {f C : Addr} {fd : FuncData} {ps : List Str} {sp : Sp} {E : L2.St → XK} {m : Str} {apos pos : Pos} {o e : Expr} {es : List Expr} {ta : TE} {t : TA} {ds : List Value} {dvs : List V}
/-- o.m(e, ..), what it raises being wished for at the caller's slots -/
theorem pe_methD {pl : Sem Bool} (c : Cls X.K C) (hm : Meth X.K C m f) (F : FnOk X.prog X.w X.K X.mg X.base CX k f fd ps sp) (hr : Room k X.A) (hb : Binds X.K fd ps ds) (hd : Vals dvs ds) (hx : ∀ σ, PassesAt CX X σ (E σ)) (he : PE X o ta) (ha : PA X (e :: es) t) (hst : starEach (e :: es) X.env = (false, eval e X.env) :: starEach es X.env := by rfl) (hpl : (backTo pos (starEach es X.env)).any (·.1) = false := by rfl)
    (ht : eval (.Call (.Attribute o m apos) (e :: es) [] pos) X.env = (do let ov ← eval o X.env; standAt apos.atName; let (f, first) ← holding [ov] (getMethod ov m pl); callWith pos f first (backTo pos (starEach (e :: es) X.env)) (backToKw pos (keywordEach [] X.env))) := by rfl) :
    PE X (.Call (.Attribute o m apos) (e :: es) [] pos) (tMethD C m sp dvs E ta t) := by
  refine ⟨fun pins s σ H Q I h => ?_⟩
  refine PySem.W.methodCall_KW (pl := pl) (thn (he.run pins s σ H _ I h) fun u s1 ⟨x, H1, I1, rx, a, dx, fs, ex, ea, l, q⟩ => ?_) ht
  subst ex
  obtain rfl : u = Value.ref a := rx
  refine getmeth_ok I1 ea c hm l ?_
  refine PySem.W.callWith_K (first := [.ref a]) (h₀ := X.base) I.ok.mod.kin hm.kp (thn (ha.run pos pins s1 σ H1 _ I1 q) fun us s2 ⟨vs, H2, I2, r, q2⟩ => ⟨I2.kIn, ?_⟩) hst hpl
  have r2 : Vals (V.ref a :: (vs ++ dvs)) (Value.ref a :: (us ++ ds)) := .cons rfl (r.append hd)
  have hl : (Value.ref a :: us ++ ds).length = ps.length := by
    have z := r2.length
    rw [F.len _ _ _ _ q2] at z
    exact z.symm
  refine wpAny_call (codeAny_mono (F.run X.A X.stack s2 H2 ⟨Value.ref a :: us, []⟩ (Value.ref a :: (us ++ ds)) _ Q (E σ) hr I2.env0 (hb s2 (Value.ref a :: us) I2.kIn hl) r2 q2) fun r s' hq => ?_)
  cases r with
  | error er => exact hx σ pins _ _ er s' I2 hq
  | ok fl =>
    cases fl with
    | ret u => exact I2.after hq
    | next => exact False.elim hq
    | brk => exact False.elim hq
    | cont => exact False.elim hq
end
end BX

set_option Elab.async false
set_option linter.all false
set_option maxRecDepth 100000
set_option maxHeartbeats 8000000
namespace K4
open PySem PySem.Spec PyProof.Rows L2 BX EXB Co Ru
open Dz
open Rs (Rsp Rv Ret tYes_of dV datR Flat Okr spShares spRowsL spTotal spCopied eqv_dR)
open Fr (Bd)
def topS (i : Nat) : Stmt := PySem.Challenge.pw_besttelling_k04_refusals_apart.main.body.getD i (.Pass ⟨0, 0, 0, 0⟩)
abbrev sNoNumberI : Stmt := inClass (topS 1) 0
abbrev sNoTextI : Stmt := inClass (topS 2) 0
abbrev sNoCaseI : Stmt := inClass (topS 3) 0
abbrev sNoRuleI : Stmt := inClass (topS 4) 0
abbrev sNoBeliefsI : Stmt := inClass (topS 5) 0
abbrev sNoSharesI : Stmt := inClass (topS 6) 0
abbrev sNoAdviceI : Stmt := inClass (topS 7) 0
abbrev sNoGroupsI : Stmt := inClass (topS 8) 0
abbrev sNoHearersI : Stmt := inClass (topS 9) 0
abbrev sNoCountsI : Stmt := inClass (topS 10) 0
abbrev sNoOrderI : Stmt := inClass (topS 11) 0
abbrev sNoRowI : Stmt := inClass (topS 12) 0
abbrev sUnlikeI : Stmt := inClass (topS 13) 0
abbrev sNotTwoI : Stmt := inClass (topS 14) 0
abbrev sByNoughtI : Stmt := inClass (topS 15) 0
abbrev sTooManyI : Stmt := inClass (topS 16) 0
abbrev sNoWordI : Stmt := inClass (topS 17) 0
abbrev sNoDeedI : Stmt := inClass (topS 18) 0
abbrev sNoNameI : Stmt := inClass (topS 19) 0
abbrev sUnsaidI : Stmt := inClass (topS 20) 0
abbrev sNoPartI : Stmt := inClass (topS 21) 0
abbrev sBareI : Stmt := inClass (topS 22) 0
abbrev sLeft : Stmt := topS 24
abbrev sDigit : Stmt := topS 25
abbrev sAll : Stmt := topS 26
abbrev sKinds : Stmt := topS 27
abbrev sAbove : Stmt := topS 28
abbrev sFields : Stmt := topS 29
abbrev sRaised : Stmt := topS 30
abbrev sLaw : Stmt := topS 31
/-- an own error class: what is known of it -/
structure ErF (K : PySem.W.Frag) (mg : Str → Option Value) (nm : Str) (base newId : String) (tl : List Value) (C f : Addr) (fs : List Str) : Prop where
  s : ExS K C newId tl
  no : ∀ n ∈ fs, PySem.W.findIn K (.ref C) n = some none
  g : mg nm = some (.ref C)
  i : PySem.W.findIn K (.ref C) "__init__" = some (some (.ref f))
  t : PySem.W.typeIn K (.ref f) = some (.type "function")
  v : PySem.W.findCls K (.type base) (.type "type") "__init__" = some (.val (.builtin (base ++ ".__init__")))
  ex : ExcC K C
  xf : XfC K C
theorem oex_of {K : PySem.W.Frag} {C : Addr} (h : ExS K C "ValueError.__new__" [.type "ValueError", .type "Exception", .type "BaseException", .type "object"]) : OexC K C := by
  obtain ⟨⟨⟨nm, q, N, bs, sn, sub, ab, col, dd, k0, k1, k2, k3, k5, hC⟩, e, t, k⟩, sa⟩ := h
  exact ⟨⟨nm, q, N, bs, _, sn, sub, ab, col, dd, k0, k1, k2, k3, k5, hC, by decide +kernel⟩, sa, e, t, k⟩
section
variable {P : Program} {w : World} {K : PySem.W.Frag} {mg : Str → Option Value} {base : Heap}
theorem scNoNumberI : FnScope ["self", "number"] ["self", "number"] (defScope sNoNumberI) := ⟨rfl, rfl, rfl, by decide +kernel, rfl, by decide +kernel, by decide +kernel⟩
theorem ok_NoNumberI {C f : Addr} {fd : FuncData} {k : Nat} (F : Fun K "__init__" "NoNumber.__init__" sNoNumberI f fd) (T : ErF K mg "NoNumber" "ValueError" "ValueError.__new__" [.type "ValueError", .type "Exception", .type "BaseException", .type "object"] C f ["number"]) (B : Blt mg) : FnOk P w K mg base CX0 (k + 1) f fd ["self", "number"] (spE1 C "number") := by
  refine F.ok scNoNumberI (fun vs H Q E h => ?_) (fun cdv A outer s H vs Q E hr h => ?_)
  · obtain ⟨a, v, rfl, _⟩ := h
    rfl
  · obtain ⟨a, v, rfl, ha, q⟩ := h
    refine ⟨_, pss_cons (ps_expr (pe_veinit (by rfl) B.ValueError_ (by have z := T.v; exact z) (pa_cons (pv 0) (pa_cons pe_str pa_nil)))) (pss_one (ps_ost (pv 0) (pv 1))), ?_⟩
    refine ⟨_, rfl, a, C, _, rfl, (by show 1 ≤ 1000; decide), (oex_of T.s), ha, ?_⟩
    exact ⟨_, rfl, _, rfl, a, C, rfl, (oex_of T.s), T.no _ (by simp), .inl ⟨ha, q⟩⟩
theorem scNoTextI : FnScope ["self", "part"] ["self", "part"] (defScope sNoTextI) := ⟨rfl, rfl, rfl, by decide +kernel, rfl, by decide +kernel, by decide +kernel⟩
theorem ok_NoTextI {C f : Addr} {fd : FuncData} {k : Nat} (F : Fun K "__init__" "NoText.__init__" sNoTextI f fd) (T : ErF K mg "NoText" "ValueError" "ValueError.__new__" [.type "ValueError", .type "Exception", .type "BaseException", .type "object"] C f ["part"]) (B : Blt mg) : FnOk P w K mg base CX0 (k + 1) f fd ["self", "part"] (spE1 C "part") := by
  refine F.ok scNoTextI (fun vs H Q E h => ?_) (fun cdv A outer s H vs Q E hr h => ?_)
  · obtain ⟨a, v, rfl, _⟩ := h
    rfl
  · obtain ⟨a, v, rfl, ha, q⟩ := h
    refine ⟨_, pss_cons (ps_expr (pe_veinit (by rfl) B.ValueError_ (by have z := T.v; exact z) (pa_cons (pv 0) (pa_cons pe_str pa_nil)))) (pss_one (ps_ost (pv 0) (pv 1))), ?_⟩
    refine ⟨_, rfl, a, C, _, rfl, (by show 1 ≤ 1000; decide), (oex_of T.s), ha, ?_⟩
    exact ⟨_, rfl, _, rfl, a, C, rfl, (oex_of T.s), T.no _ (by simp), .inl ⟨ha, q⟩⟩
theorem scNoCaseI : FnScope ["self", "part", "number"] ["self", "part", "number"] (defScope sNoCaseI) := ⟨rfl, rfl, rfl, by decide +kernel, rfl, by decide +kernel, by decide +kernel⟩
theorem ok_NoCaseI {C f : Addr} {fd : FuncData} {k : Nat} (F : Fun K "__init__" "NoCase.__init__" sNoCaseI f fd) (T : ErF K mg "NoCase" "ValueError" "ValueError.__new__" [.type "ValueError", .type "Exception", .type "BaseException", .type "object"] C f ["part", "number"]) (B : Blt mg) : FnOk P w K mg base CX0 (k + 1) f fd ["self", "part", "number"] (spE2 C "part" "number") := by
  refine F.ok scNoCaseI (fun vs H Q E h => ?_) (fun cdv A outer s H vs Q E hr h => ?_)
  · obtain ⟨a, v, u, rfl, _⟩ := h
    rfl
  · obtain ⟨a, v, u, rfl, ha, q⟩ := h
    refine ⟨_, pss_cons (ps_expr (pe_veinit (by rfl) B.ValueError_ (by have z := T.v; exact z) (pa_cons (pv 0) (pa_cons pe_str pa_nil)))) (pss_cons (ps_ost (pv 0) (pv 1)) (pss_one (ps_ost (pv 0) (pv 2)))), ?_⟩
    refine ⟨_, rfl, a, C, _, rfl, (by show 1 ≤ 1000; decide), (oex_of T.s), ha, ?_⟩
    refine ⟨_, rfl, _, rfl, a, C, rfl, (oex_of T.s), T.no _ (by simp), .inl ⟨ha, fun dx hdx hne => ?_⟩⟩
    refine ⟨_, rfl, _, rfl, a, C, rfl, (oex_of T.s), T.no _ (by simp), .inr ⟨dx, _, upd_same, by rw [upd_ne hne, upd_same], (by show 1 ≤ 900; decide), ?_⟩⟩
    rw [Rs.upd_swap hne]
    exact q dx hdx hne
theorem scNoRuleI : FnScope ["self", "world"] ["self", "world"] (defScope sNoRuleI) := ⟨rfl, rfl, rfl, by decide +kernel, rfl, by decide +kernel, by decide +kernel⟩
theorem ok_NoRuleI {C f : Addr} {fd : FuncData} {k : Nat} (F : Fun K "__init__" "NoRule.__init__" sNoRuleI f fd) (T : ErF K mg "NoRule" "ValueError" "ValueError.__new__" [.type "ValueError", .type "Exception", .type "BaseException", .type "object"] C f ["world"]) (B : Blt mg) : FnOk P w K mg base CX0 (k + 1) f fd ["self", "world"] (spE1 C "world") := by
  refine F.ok scNoRuleI (fun vs H Q E h => ?_) (fun cdv A outer s H vs Q E hr h => ?_)
  · obtain ⟨a, v, rfl, _⟩ := h
    rfl
  · obtain ⟨a, v, rfl, ha, q⟩ := h
    refine ⟨_, pss_cons (ps_expr (pe_veinit (by rfl) B.ValueError_ (by have z := T.v; exact z) (pa_cons (pv 0) (pa_cons pe_str pa_nil)))) (pss_one (ps_ost (pv 0) (pv 1))), ?_⟩
    refine ⟨_, rfl, a, C, _, rfl, (by show 1 ≤ 1000; decide), (oex_of T.s), ha, ?_⟩
    exact ⟨_, rfl, _, rfl, a, C, rfl, (oex_of T.s), T.no _ (by simp), .inl ⟨ha, q⟩⟩
theorem scNoBeliefsI : FnScope ["self"] ["self"] (defScope sNoBeliefsI) := ⟨rfl, rfl, rfl, by decide +kernel, rfl, by decide +kernel, by decide +kernel⟩
theorem ok_NoBeliefsI {C f : Addr} {fd : FuncData} {k : Nat} (F : Fun K "__init__" "NoBeliefs.__init__" sNoBeliefsI f fd) (T : ErF K mg "NoBeliefs" "ValueError" "ValueError.__new__" [.type "ValueError", .type "Exception", .type "BaseException", .type "object"] C f []) (B : Blt mg) : FnOk P w K mg base CX0 (k + 1) f fd ["self"] (spEi C) := by
  refine F.ok scNoBeliefsI (fun vs H Q E h => ?_) (fun cdv A outer s H vs Q E hr h => ?_)
  · obtain ⟨a, rfl, _⟩ := h
    rfl
  · obtain ⟨a, rfl, ha, q⟩ := h
    refine ⟨_, pss_one (ps_expr (pe_veinit (by rfl) B.ValueError_ (by have z := T.v; exact z) (pa_cons (pv 0) (pa_cons pe_str pa_nil)))), ?_⟩
    refine ⟨_, rfl, a, C, _, rfl, (by show 1 ≤ 1000; decide), (oex_of T.s), ha, ?_⟩
    exact q
theorem scNoSharesI : FnScope ["self"] ["self"] (defScope sNoSharesI) := ⟨rfl, rfl, rfl, by decide +kernel, rfl, by decide +kernel, by decide +kernel⟩
theorem ok_NoSharesI {C f : Addr} {fd : FuncData} {k : Nat} (F : Fun K "__init__" "NoShares.__init__" sNoSharesI f fd) (T : ErF K mg "NoShares" "ValueError" "ValueError.__new__" [.type "ValueError", .type "Exception", .type "BaseException", .type "object"] C f []) (B : Blt mg) : FnOk P w K mg base CX0 (k + 1) f fd ["self"] (spEi C) := by
  refine F.ok scNoSharesI (fun vs H Q E h => ?_) (fun cdv A outer s H vs Q E hr h => ?_)
  · obtain ⟨a, rfl, _⟩ := h
    rfl
  · obtain ⟨a, rfl, ha, q⟩ := h
    refine ⟨_, pss_one (ps_expr (pe_veinit (by rfl) B.ValueError_ (by have z := T.v; exact z) (pa_cons (pv 0) (pa_cons pe_str pa_nil)))), ?_⟩
    refine ⟨_, rfl, a, C, _, rfl, (by show 1 ≤ 1000; decide), (oex_of T.s), ha, ?_⟩
    exact q
theorem scNoAdviceI : FnScope ["self", "words"] ["self", "words"] (defScope sNoAdviceI) := ⟨rfl, rfl, rfl, by decide +kernel, rfl, by decide +kernel, by decide +kernel⟩
theorem ok_NoAdviceI {C f : Addr} {fd : FuncData} {k : Nat} (F : Fun K "__init__" "NoAdvice.__init__" sNoAdviceI f fd) (T : ErF K mg "NoAdvice" "ValueError" "ValueError.__new__" [.type "ValueError", .type "Exception", .type "BaseException", .type "object"] C f ["words"]) (B : Blt mg) : FnOk P w K mg base CX0 (k + 1) f fd ["self", "words"] (spE1 C "words") := by
  refine F.ok scNoAdviceI (fun vs H Q E h => ?_) (fun cdv A outer s H vs Q E hr h => ?_)
  · obtain ⟨a, v, rfl, _⟩ := h
    rfl
  · obtain ⟨a, v, rfl, ha, q⟩ := h
    refine ⟨_, pss_cons (ps_expr (pe_veinit (by rfl) B.ValueError_ (by have z := T.v; exact z) (pa_cons (pv 0) (pa_cons pe_str pa_nil)))) (pss_one (ps_ost (pv 0) (pv 1))), ?_⟩
    refine ⟨_, rfl, a, C, _, rfl, (by show 1 ≤ 1000; decide), (oex_of T.s), ha, ?_⟩
    exact ⟨_, rfl, _, rfl, a, C, rfl, (oex_of T.s), T.no _ (by simp), .inl ⟨ha, q⟩⟩
theorem scNoGroupsI : FnScope ["self", "word"] ["self", "word"] (defScope sNoGroupsI) := ⟨rfl, rfl, rfl, by decide +kernel, rfl, by decide +kernel, by decide +kernel⟩
theorem ok_NoGroupsI {C f : Addr} {fd : FuncData} {k : Nat} (F : Fun K "__init__" "NoGroups.__init__" sNoGroupsI f fd) (T : ErF K mg "NoGroups" "ValueError" "ValueError.__new__" [.type "ValueError", .type "Exception", .type "BaseException", .type "object"] C f ["word"]) (B : Blt mg) : FnOk P w K mg base CX0 (k + 1) f fd ["self", "word"] (spE1 C "word") := by
  refine F.ok scNoGroupsI (fun vs H Q E h => ?_) (fun cdv A outer s H vs Q E hr h => ?_)
  · obtain ⟨a, v, rfl, _⟩ := h
    rfl
  · obtain ⟨a, v, rfl, ha, q⟩ := h
    refine ⟨_, pss_cons (ps_expr (pe_veinit (by rfl) B.ValueError_ (by have z := T.v; exact z) (pa_cons (pv 0) (pa_cons pe_str pa_nil)))) (pss_one (ps_ost (pv 0) (pv 1))), ?_⟩
    refine ⟨_, rfl, a, C, _, rfl, (by show 1 ≤ 1000; decide), (oex_of T.s), ha, ?_⟩
    exact ⟨_, rfl, _, rfl, a, C, rfl, (oex_of T.s), T.no _ (by simp), .inl ⟨ha, q⟩⟩
theorem scNoHearersI : FnScope ["self", "number"] ["self", "number"] (defScope sNoHearersI) := ⟨rfl, rfl, rfl, by decide +kernel, rfl, by decide +kernel, by decide +kernel⟩
theorem ok_NoHearersI {C f : Addr} {fd : FuncData} {k : Nat} (F : Fun K "__init__" "NoHearers.__init__" sNoHearersI f fd) (T : ErF K mg "NoHearers" "ValueError" "ValueError.__new__" [.type "ValueError", .type "Exception", .type "BaseException", .type "object"] C f ["number"]) (B : Blt mg) : FnOk P w K mg base CX0 (k + 1) f fd ["self", "number"] (spE1 C "number") := by
  refine F.ok scNoHearersI (fun vs H Q E h => ?_) (fun cdv A outer s H vs Q E hr h => ?_)
  · obtain ⟨a, v, rfl, _⟩ := h
    rfl
  · obtain ⟨a, v, rfl, ha, q⟩ := h
    refine ⟨_, pss_cons (ps_expr (pe_veinit (by rfl) B.ValueError_ (by have z := T.v; exact z) (pa_cons (pv 0) (pa_cons pe_str pa_nil)))) (pss_one (ps_ost (pv 0) (pv 1))), ?_⟩
    refine ⟨_, rfl, a, C, _, rfl, (by show 1 ≤ 1000; decide), (oex_of T.s), ha, ?_⟩
    exact ⟨_, rfl, _, rfl, a, C, rfl, (oex_of T.s), T.no _ (by simp), .inl ⟨ha, q⟩⟩
theorem scNoCountsI : FnScope ["self"] ["self"] (defScope sNoCountsI) := ⟨rfl, rfl, rfl, by decide +kernel, rfl, by decide +kernel, by decide +kernel⟩
theorem ok_NoCountsI {C f : Addr} {fd : FuncData} {k : Nat} (F : Fun K "__init__" "NoCounts.__init__" sNoCountsI f fd) (T : ErF K mg "NoCounts" "ValueError" "ValueError.__new__" [.type "ValueError", .type "Exception", .type "BaseException", .type "object"] C f []) (B : Blt mg) : FnOk P w K mg base CX0 (k + 1) f fd ["self"] (spEi C) := by
  refine F.ok scNoCountsI (fun vs H Q E h => ?_) (fun cdv A outer s H vs Q E hr h => ?_)
  · obtain ⟨a, rfl, _⟩ := h
    rfl
  · obtain ⟨a, rfl, ha, q⟩ := h
    refine ⟨_, pss_one (ps_expr (pe_veinit (by rfl) B.ValueError_ (by have z := T.v; exact z) (pa_cons (pv 0) (pa_cons pe_str pa_nil)))), ?_⟩
    refine ⟨_, rfl, a, C, _, rfl, (by show 1 ≤ 1000; decide), (oex_of T.s), ha, ?_⟩
    exact q
theorem scNoOrderI : FnScope ["self", "part"] ["self", "part"] (defScope sNoOrderI) := ⟨rfl, rfl, rfl, by decide +kernel, rfl, by decide +kernel, by decide +kernel⟩
theorem ok_NoOrderI {C f : Addr} {fd : FuncData} {k : Nat} (F : Fun K "__init__" "NoOrder.__init__" sNoOrderI f fd) (T : ErF K mg "NoOrder" "ValueError" "ValueError.__new__" [.type "ValueError", .type "Exception", .type "BaseException", .type "object"] C f ["part"]) (B : Blt mg) : FnOk P w K mg base CX0 (k + 1) f fd ["self", "part"] (spE1 C "part") := by
  refine F.ok scNoOrderI (fun vs H Q E h => ?_) (fun cdv A outer s H vs Q E hr h => ?_)
  · obtain ⟨a, v, rfl, _⟩ := h
    rfl
  · obtain ⟨a, v, rfl, ha, q⟩ := h
    refine ⟨_, pss_cons (ps_expr (pe_veinit (by rfl) B.ValueError_ (by have z := T.v; exact z) (pa_cons (pv 0) (pa_cons pe_str pa_nil)))) (pss_one (ps_ost (pv 0) (pv 1))), ?_⟩
    refine ⟨_, rfl, a, C, _, rfl, (by show 1 ≤ 1000; decide), (oex_of T.s), ha, ?_⟩
    exact ⟨_, rfl, _, rfl, a, C, rfl, (oex_of T.s), T.no _ (by simp), .inl ⟨ha, q⟩⟩
theorem scNoRowI : FnScope ["self"] ["self"] (defScope sNoRowI) := ⟨rfl, rfl, rfl, by decide +kernel, rfl, by decide +kernel, by decide +kernel⟩
theorem ok_NoRowI {C f : Addr} {fd : FuncData} {k : Nat} (F : Fun K "__init__" "NoRow.__init__" sNoRowI f fd) (T : ErF K mg "NoRow" "ValueError" "ValueError.__new__" [.type "ValueError", .type "Exception", .type "BaseException", .type "object"] C f []) (B : Blt mg) : FnOk P w K mg base CX0 (k + 1) f fd ["self"] (spEi C) := by
  refine F.ok scNoRowI (fun vs H Q E h => ?_) (fun cdv A outer s H vs Q E hr h => ?_)
  · obtain ⟨a, rfl, _⟩ := h
    rfl
  · obtain ⟨a, rfl, ha, q⟩ := h
    refine ⟨_, pss_one (ps_expr (pe_veinit (by rfl) B.ValueError_ (by have z := T.v; exact z) (pa_cons (pv 0) (pa_cons pe_str pa_nil)))), ?_⟩
    refine ⟨_, rfl, a, C, _, rfl, (by show 1 ≤ 1000; decide), (oex_of T.s), ha, ?_⟩
    exact q
theorem scUnlikeI : FnScope ["self", "one", "other"] ["self", "one", "other"] (defScope sUnlikeI) := ⟨rfl, rfl, rfl, by decide +kernel, rfl, by decide +kernel, by decide +kernel⟩
theorem ok_UnlikeI {C f : Addr} {fd : FuncData} {k : Nat} (F : Fun K "__init__" "Unlike.__init__" sUnlikeI f fd) (T : ErF K mg "Unlike" "ValueError" "ValueError.__new__" [.type "ValueError", .type "Exception", .type "BaseException", .type "object"] C f ["one", "other"]) (B : Blt mg) : FnOk P w K mg base CX0 (k + 1) f fd ["self", "one", "other"] (spE2 C "one" "other") := by
  refine F.ok scUnlikeI (fun vs H Q E h => ?_) (fun cdv A outer s H vs Q E hr h => ?_)
  · obtain ⟨a, v, u, rfl, _⟩ := h
    rfl
  · obtain ⟨a, v, u, rfl, ha, q⟩ := h
    refine ⟨_, pss_cons (ps_expr (pe_veinit (by rfl) B.ValueError_ (by have z := T.v; exact z) (pa_cons (pv 0) (pa_cons pe_str pa_nil)))) (pss_cons (ps_ost (pv 0) (pv 1)) (pss_one (ps_ost (pv 0) (pv 2)))), ?_⟩
    refine ⟨_, rfl, a, C, _, rfl, (by show 1 ≤ 1000; decide), (oex_of T.s), ha, ?_⟩
    refine ⟨_, rfl, _, rfl, a, C, rfl, (oex_of T.s), T.no _ (by simp), .inl ⟨ha, fun dx hdx hne => ?_⟩⟩
    refine ⟨_, rfl, _, rfl, a, C, rfl, (oex_of T.s), T.no _ (by simp), .inr ⟨dx, _, upd_same, by rw [upd_ne hne, upd_same], (by show 1 ≤ 900; decide), ?_⟩⟩
    rw [Rs.upd_swap hne]
    exact q dx hdx hne
theorem scNotTwoI : FnScope ["self", "many"] ["self", "many"] (defScope sNotTwoI) := ⟨rfl, rfl, rfl, by decide +kernel, rfl, by decide +kernel, by decide +kernel⟩
theorem ok_NotTwoI {C f : Addr} {fd : FuncData} {k : Nat} (F : Fun K "__init__" "NotTwo.__init__" sNotTwoI f fd) (T : ErF K mg "NotTwo" "ArithmeticError" "ArithmeticError.__new__" [.type "ArithmeticError", .type "Exception", .type "BaseException", .type "object"] C f ["many"]) (B : Blt mg) : FnOk P w K mg base CX0 (k + 1) f fd ["self", "many"] (spE1 C "many") := by
  refine F.ok scNotTwoI (fun vs H Q E h => ?_) (fun cdv A outer s H vs Q E hr h => ?_)
  · obtain ⟨a, v, rfl, _⟩ := h
    rfl
  · obtain ⟨a, v, rfl, ha, q⟩ := h
    refine ⟨_, pss_cons (ps_expr (pe_initArithmeticError (by rfl) B.ArithmeticError_ (by have z := T.v; exact z) (pa_cons (pv 0) (pa_cons pe_str pa_nil)))) (pss_one (ps_osG (newId := "ArithmeticError.__new__") PySem.F.store_ArithmeticError (by decide) (pv 0) (pv 1))), ?_⟩
    refine ⟨_, rfl, a, C, _, rfl, (by show 1 ≤ 1000; decide), T.s.c, ha, ?_⟩
    exact ⟨_, rfl, _, rfl, a, C, rfl, T.s, T.no _ (by simp), ha, q⟩
theorem scByNoughtI : FnScope ["self"] ["self"] (defScope sByNoughtI) := ⟨rfl, rfl, rfl, by decide +kernel, rfl, by decide +kernel, by decide +kernel⟩
theorem ok_ByNoughtI {C f : Addr} {fd : FuncData} {k : Nat} (F : Fun K "__init__" "ByNought.__init__" sByNoughtI f fd) (T : ErF K mg "ByNought" "ZeroDivisionError" "ZeroDivisionError.__new__" [.type "ZeroDivisionError", .type "ArithmeticError", .type "Exception", .type "BaseException", .type "object"] C f []) (B : Blt mg) : FnOk P w K mg base CX0 (k + 1) f fd ["self"] (spEi C) := by
  refine F.ok scByNoughtI (fun vs H Q E h => ?_) (fun cdv A outer s H vs Q E hr h => ?_)
  · obtain ⟨a, rfl, _⟩ := h
    rfl
  · obtain ⟨a, rfl, ha, q⟩ := h
    refine ⟨_, pss_one (ps_expr (pe_zdinit (by rfl) B.ZeroDivisionError_ (by have z := T.v; exact z) (pa_cons (pv 0) (pa_cons pe_str pa_nil)))), ?_⟩
    refine ⟨_, rfl, a, C, _, rfl, (by show 1 ≤ 1000; decide), T.s.c, ha, ?_⟩
    exact q
theorem scTooManyI : FnScope ["self", "many"] ["self", "many"] (defScope sTooManyI) := ⟨rfl, rfl, rfl, by decide +kernel, rfl, by decide +kernel, by decide +kernel⟩
theorem ok_TooManyI {C f : Addr} {fd : FuncData} {k : Nat} (F : Fun K "__init__" "TooMany.__init__" sTooManyI f fd) (T : ErF K mg "TooMany" "OverflowError" "OverflowError.__new__" [.type "OverflowError", .type "ArithmeticError", .type "Exception", .type "BaseException", .type "object"] C f ["many"]) (B : Blt mg) : FnOk P w K mg base CX0 (k + 1) f fd ["self", "many"] (spE1 C "many") := by
  refine F.ok scTooManyI (fun vs H Q E h => ?_) (fun cdv A outer s H vs Q E hr h => ?_)
  · obtain ⟨a, v, rfl, _⟩ := h
    rfl
  · obtain ⟨a, v, rfl, ha, q⟩ := h
    refine ⟨_, pss_cons (ps_expr (pe_initOverflowError (by rfl) B.OverflowError_ (by have z := T.v; exact z) (pa_cons (pv 0) (pa_cons pe_str pa_nil)))) (pss_one (ps_osG (newId := "OverflowError.__new__") PySem.F.store_OverflowError (by decide) (pv 0) (pv 1))), ?_⟩
    refine ⟨_, rfl, a, C, _, rfl, (by show 1 ≤ 1000; decide), T.s.c, ha, ?_⟩
    exact ⟨_, rfl, _, rfl, a, C, rfl, T.s, T.no _ (by simp), ha, q⟩
theorem scNoWordI : FnScope ["self", "word"] ["self", "word"] (defScope sNoWordI) := ⟨rfl, rfl, rfl, by decide +kernel, rfl, by decide +kernel, by decide +kernel⟩
theorem ok_NoWordI {C f : Addr} {fd : FuncData} {k : Nat} (F : Fun K "__init__" "NoWord.__init__" sNoWordI f fd) (T : ErF K mg "NoWord" "IndexError" "IndexError.__new__" [.type "IndexError", .type "LookupError", .type "Exception", .type "BaseException", .type "object"] C f ["word"]) (B : Blt mg) : FnOk P w K mg base CX0 (k + 1) f fd ["self", "word"] (spE1 C "word") := by
  refine F.ok scNoWordI (fun vs H Q E h => ?_) (fun cdv A outer s H vs Q E hr h => ?_)
  · obtain ⟨a, v, rfl, _⟩ := h
    rfl
  · obtain ⟨a, v, rfl, ha, q⟩ := h
    refine ⟨_, pss_cons (ps_expr (pe_initIndexError (by rfl) B.IndexError_ (by have z := T.v; exact z) (pa_cons (pv 0) (pa_cons pe_str pa_nil)))) (pss_one (ps_osG (newId := "IndexError.__new__") PySem.F.store_IndexError (by decide) (pv 0) (pv 1))), ?_⟩
    refine ⟨_, rfl, a, C, _, rfl, (by show 1 ≤ 1000; decide), T.s.c, ha, ?_⟩
    exact ⟨_, rfl, _, rfl, a, C, rfl, T.s, T.no _ (by simp), ha, q⟩
theorem scNoDeedI : FnScope ["self", "number"] ["self", "number"] (defScope sNoDeedI) := ⟨rfl, rfl, rfl, by decide +kernel, rfl, by decide +kernel, by decide +kernel⟩
theorem ok_NoDeedI {C f : Addr} {fd : FuncData} {k : Nat} (F : Fun K "__init__" "NoDeed.__init__" sNoDeedI f fd) (T : ErF K mg "NoDeed" "IndexError" "IndexError.__new__" [.type "IndexError", .type "LookupError", .type "Exception", .type "BaseException", .type "object"] C f ["number"]) (B : Blt mg) : FnOk P w K mg base CX0 (k + 1) f fd ["self", "number"] (spE1 C "number") := by
  refine F.ok scNoDeedI (fun vs H Q E h => ?_) (fun cdv A outer s H vs Q E hr h => ?_)
  · obtain ⟨a, v, rfl, _⟩ := h
    rfl
  · obtain ⟨a, v, rfl, ha, q⟩ := h
    refine ⟨_, pss_cons (ps_expr (pe_initIndexError (by rfl) B.IndexError_ (by have z := T.v; exact z) (pa_cons (pv 0) (pa_cons pe_str pa_nil)))) (pss_one (ps_osG (newId := "IndexError.__new__") PySem.F.store_IndexError (by decide) (pv 0) (pv 1))), ?_⟩
    refine ⟨_, rfl, a, C, _, rfl, (by show 1 ≤ 1000; decide), T.s.c, ha, ?_⟩
    exact ⟨_, rfl, _, rfl, a, C, rfl, T.s, T.no _ (by simp), ha, q⟩
theorem scNoNameI : FnScope ["self", "name"] ["self", "name"] (defScope sNoNameI) := ⟨rfl, rfl, rfl, by decide +kernel, rfl, by decide +kernel, by decide +kernel⟩
theorem ok_NoNameI {C f : Addr} {fd : FuncData} {k : Nat} (F : Fun K "__init__" "NoName.__init__" sNoNameI f fd) (T : ErF K mg "NoName" "KeyError" "LookupError.__new__" [.type "KeyError", .type "LookupError", .type "Exception", .type "BaseException", .type "object"] C f ["name"]) (B : Blt mg) : FnOk P w K mg base CX0 (k + 1) f fd ["self", "name"] (spE1 C "name") := by
  refine F.ok scNoNameI (fun vs H Q E h => ?_) (fun cdv A outer s H vs Q E hr h => ?_)
  · obtain ⟨a, v, rfl, _⟩ := h
    rfl
  · obtain ⟨a, v, rfl, ha, q⟩ := h
    refine ⟨_, pss_cons (ps_expr (pe_initKeyError (by rfl) B.KeyError_ (by have z := T.v; exact z) (pa_cons (pv 0) (pa_cons pe_str pa_nil)))) (pss_one (ps_osG (newId := "LookupError.__new__") PySem.F.exk_store (by decide) (pv 0) (pv 1))), ?_⟩
    refine ⟨_, rfl, a, C, _, rfl, (by show 1 ≤ 1000; decide), T.s.c, ha, ?_⟩
    exact ⟨_, rfl, _, rfl, a, C, rfl, T.s, T.no _ (by simp), ha, q⟩
theorem scUnsaidI : FnScope ["self", "word"] ["self", "word"] (defScope sUnsaidI) := ⟨rfl, rfl, rfl, by decide +kernel, rfl, by decide +kernel, by decide +kernel⟩
theorem ok_UnsaidI {C f : Addr} {fd : FuncData} {k : Nat} (F : Fun K "__init__" "Unsaid.__init__" sUnsaidI f fd) (T : ErF K mg "Unsaid" "LookupError" "LookupError.__new__" [.type "LookupError", .type "Exception", .type "BaseException", .type "object"] C f ["word"]) (B : Blt mg) : FnOk P w K mg base CX0 (k + 1) f fd ["self", "word"] (spE1 C "word") := by
  refine F.ok scUnsaidI (fun vs H Q E h => ?_) (fun cdv A outer s H vs Q E hr h => ?_)
  · obtain ⟨a, v, rfl, _⟩ := h
    rfl
  · obtain ⟨a, v, rfl, ha, q⟩ := h
    refine ⟨_, pss_cons (ps_expr (pe_initLookupError (by rfl) B.LookupError_ (by have z := T.v; exact z) (pa_cons (pv 0) (pa_cons pe_str pa_nil)))) (pss_one (ps_osG (newId := "LookupError.__new__") PySem.F.store_LookupError (by decide) (pv 0) (pv 1))), ?_⟩
    refine ⟨_, rfl, a, C, _, rfl, (by show 1 ≤ 1000; decide), T.s.c, ha, ?_⟩
    exact ⟨_, rfl, _, rfl, a, C, rfl, T.s, T.no _ (by simp), ha, q⟩
theorem scNoPartI : FnScope ["self", "part"] ["self", "part"] (defScope sNoPartI) := ⟨rfl, rfl, rfl, by decide +kernel, rfl, by decide +kernel, by decide +kernel⟩
theorem ok_NoPartI {C f : Addr} {fd : FuncData} {k : Nat} (F : Fun K "__init__" "NoPart.__init__" sNoPartI f fd) (T : ErF K mg "NoPart" "LookupError" "LookupError.__new__" [.type "LookupError", .type "Exception", .type "BaseException", .type "object"] C f ["part"]) (B : Blt mg) : FnOk P w K mg base CX0 (k + 1) f fd ["self", "part"] (spE1 C "part") := by
  refine F.ok scNoPartI (fun vs H Q E h => ?_) (fun cdv A outer s H vs Q E hr h => ?_)
  · obtain ⟨a, v, rfl, _⟩ := h
    rfl
  · obtain ⟨a, v, rfl, ha, q⟩ := h
    refine ⟨_, pss_cons (ps_expr (pe_initLookupError (by rfl) B.LookupError_ (by have z := T.v; exact z) (pa_cons (pv 0) (pa_cons pe_str pa_nil)))) (pss_one (ps_osG (newId := "LookupError.__new__") PySem.F.store_LookupError (by decide) (pv 0) (pv 1))), ?_⟩
    refine ⟨_, rfl, a, C, _, rfl, (by show 1 ≤ 1000; decide), T.s.c, ha, ?_⟩
    exact ⟨_, rfl, _, rfl, a, C, rfl, T.s, T.no _ (by simp), ha, q⟩
theorem scBareI : FnScope ["self", "many"] ["self", "many"] (defScope sBareI) := ⟨rfl, rfl, rfl, by decide +kernel, rfl, by decide +kernel, by decide +kernel⟩
theorem ok_BareI {C f : Addr} {fd : FuncData} {k : Nat} (F : Fun K "__init__" "Bare.__init__" sBareI f fd) (T : ErF K mg "Bare" "RuntimeError" "RuntimeError.__new__" [.type "RuntimeError", .type "Exception", .type "BaseException", .type "object"] C f ["many"]) (B : Blt mg) : FnOk P w K mg base CX0 (k + 1) f fd ["self", "many"] (spE1 C "many") := by
  refine F.ok scBareI (fun vs H Q E h => ?_) (fun cdv A outer s H vs Q E hr h => ?_)
  · obtain ⟨a, v, rfl, _⟩ := h
    rfl
  · obtain ⟨a, v, rfl, ha, q⟩ := h
    refine ⟨_, pss_cons (ps_expr (pe_initRuntimeError (by rfl) B.RuntimeError_ (by have z := T.v; exact z) (pa_cons (pv 0) (pa_cons pe_str pa_nil)))) (pss_one (ps_osG (newId := "RuntimeError.__new__") PySem.F.store_RuntimeError (by decide) (pv 0) (pv 1))), ?_⟩
    refine ⟨_, rfl, a, C, _, rfl, (by show 1 ≤ 1000; decide), T.s.c, ha, ?_⟩
    exact ⟨_, rfl, _, rfl, a, C, rfl, T.s, T.no _ (by simp), ha, q⟩
end
end K4

set_option Elab.async false
set_option linter.all false
set_option maxRecDepth 100000
set_option maxHeartbeats 8000000
namespace K4
open PySem PySem.Spec PyProof.Rows L2 BX EXB Co Ru
open Dz
open Rs (Rsp Rv Ret tYes_of dV datR Flat Okr spShares spRowsL spTotal spCopied eqv_dR)
open Fr (Bd)
def onlyT (bm : List Value) : Bool := bm.all fun v => match v with | .type _ => true | _ => false
theorem not_ref {C : Addr} : ∀ {bm : List Value}, onlyT bm = true → bm.contains (.ref C) = false
  | [], _ => rfl
  | .type n :: r, h => by
    have h' : onlyT r = true := h
    rw [List.contains_cons, not_ref h']
    rfl
theorem clsOf {K : PySem.W.Frag} {D : Addr} {n : String} {bm : List Value} (h : ExC K D n bm) : ∃ cd, PySem.W.clsIn K D = some cd ∧ cd.mro = .ref D :: bm := by
  obtain ⟨nm, q, N, bs, sn, sub, ab, col, dd, k0, k1, k2, k3, k5, hC⟩ := h.cls
  unfold PySem.W.clsIn
  rw [hC]
  exact ⟨_, rfl, rfl⟩
theorem kit_ref {K : PySem.W.Frag} {D C : Addr} {n n' : String} {bm bm' : List Value} (h : ExC K D n bm) (h' : ExC K C n' bm') (o : onlyT bm = true) : PySem.W.kitOne K (.ref D) (.ref C) = some (D == C) := by
  unfold PySem.W.kitOne
  by_cases e : D = C
  · subst e
    simp
  · have e1 : ((Value.ref D == Value.ref C) = true) = False := by simp [e]
    have e2 : (D == C) = false := by simp [e]
    have e3 : (Value.ref C == Value.ref D) = false := by
      have z : ¬ C = D := fun z => e z.symm
      simp [z]
    rw [if_neg (by rw [e1]; exact id), e2]
    obtain ⟨cd, c1, c2⟩ := clsOf h
    obtain ⟨cd', c1', c2'⟩ := clsOf h'
    show (if _ then _ else _) = _
    rw [if_pos (by rw [c1', h'.tyC]; rfl)]
    show PySem.W.mroIn K D (.ref C) = _
    unfold PySem.W.mroIn
    rw [c1, Option.bind_some, c2, if_neg (by simp), List.contains_cons, not_ref o, e3]
    rfl
theorem kit_typ {K : PySem.W.Frag} {D : Addr} {n T : String} {bm : List Value} (h : ExC K D n bm) (m : PySem.W.kitMeta T = true) : PySem.W.kitOne K (.ref D) (.type T) = some (bm.contains (.type T)) := by
  obtain ⟨cd, c1, c2⟩ := clsOf h
  show (if (Value.ref D == Value.type T) = true then _ else _) = _
  rw [show (Value.ref D == Value.type T) = false from rfl, if_neg Bool.false_ne_true]
  show (if _ then _ else _) = _
  rw [if_pos m]
  show PySem.W.mroIn K D (.type T) = _
  unfold PySem.W.mroIn
  rw [c1, Option.bind_some, c2, if_neg (by simp), List.contains_cons]
  rfl
theorem isv {K : PySem.W.Frag} {H : Hp} {D a c : Addr} {b : Bool} {Q : VK} (he : IsEr H D a) (hx : ExcC K D) (k : PySem.W.kitOne K (.ref D) (.ref c) = some b) (q : Q (.bl b) H) : rIsV K [.ref a, .ref c] H Q :=
  ⟨a, D, .ref c, .ref c, b, rfl, he, hx, fun _ h => h, k, q⟩
theorem isvT {K : PySem.W.Frag} {H : Hp} {D a : Addr} {T : String} {b : Bool} {Q : VK} (he : IsEr H D a) (hx : ExcC K D) (k : PySem.W.kitOne K (.ref D) (.type T) = some b) (q : Q (.bl b) H) : rIsV K [.ref a, .ty T] H Q :=
  ⟨a, D, .ty T, .type T, b, rfl, he, hx, fun _ h => h, k, q⟩
theorem lstR {zs : List V} {H : Hp} {Q : VK} (n : zs.length ≤ 1000) (q : ∀ p H', Same H H' → H' p = some (.lst zs) → Q (.ref p) H') : zs.length ≤ sizeLine ∧ ∀ p, H p = none → Q (.ref p) (upd H p (.lst zs)) :=
  ⟨by rw [sizeLine_eq]; omega, fun p hp => q p _ (same_new hp _) upd_same⟩
theorem catR {p1 : Addr} {xs zs : List V} {H : Hp} {Q : VK} (h1 : H p1 = some (.lst xs)) (n : xs.length + zs.length ≤ 1000) (q : ∀ p H', Same H H' → H' p = some (.lst (xs ++ zs)) → Q (.ref p) H') :
    zs.length ≤ sizeLine ∧ ∀ p, H p = none → rCat (.ref p1) (.ref p) (upd H p (.lst zs)) Q :=
  lstR (zs := zs) (Q := fun v H' => rCat (.ref p1) v H' Q) (by omega) fun p H' s e => ⟨p1, p, xs, zs, rfl, rfl, s _ _ h1, e, by rw [sizeLine_eq]; omega, fun r hr => q r _ (fun b o z => same_new hr _ _ _ (s _ _ z)) upd_same⟩
def boolsOf (cs : List Addr) (D : Addr) : List V := cs.map fun c => V.bl (D == c)
def aboveT (bm : List Value) : Str := if bm.contains (.type "ValueError") = true then "value" else if bm.contains (.type "ZeroDivisionError") = true then "nought" else if bm.contains (.type "OverflowError") = true then "many" else if bm.contains (.type "ArithmeticError") = true then "sums" else if bm.contains (.type "IndexError") = true then "index" else if bm.contains (.type "KeyError") = true then "key" else if bm.contains (.type "LookupError") = true then "look" else if bm.contains (.type "RuntimeError") = true then "run" else "none"
def spKinds (K : PySem.W.Frag) (cs : List Addr) : Sp := fun vs H Q _ => ∃ (a D : Addr) (n : String) (bm : List Value), vs = [.ref a] ∧ IsEr H D a ∧ ExcC K D ∧ ExC K D n bm ∧ onlyT bm = true ∧ ∀ p H', Same H H' → H' p = some (.lst (boolsOf cs D)) → Q (.ref p) H'
def spAbove (K : PySem.W.Frag) : Sp := fun vs H Q _ => ∃ (a D : Addr) (n : String) (bm : List Value), vs = [.ref a] ∧ IsEr H D a ∧ ExcC K D ∧ ExC K D n bm ∧ Q (.str (aboveT bm)) H
/-- an own error class that can be made -/
structure MkF (P : Program) (w : World) (K : PySem.W.Frag) (mg : Str → Option Value) (base : Heap) (k : Nat) (nm : Str) (bs newId : String) (tl : List Value) (C f : Addr) (fs ps : List Str) (sp : Sp) : Prop where
  e : ErF K mg nm bs newId tl C f fs
  g : ∃ fd, FnOk P w K mg base CX0 k f fd ps sp ∧ Binds K fd ps []
structure AE (P : Program) (w : World) (K : PySem.W.Frag) (mg : Str → Option Value) (base : Heap) (k : Nat) (c0 c1 c2 c3 c4 c5 c6 c7 c8 c9 c10 c11 c12 c13 c14 c15 c16 c17 c18 c19 c20 c21 f0 f1 f2 f3 f4 f5 f6 f7 f8 f9 f10 f11 f12 f13 f14 f15 f16 f17 f18 f19 f20 f21 : Addr) : Prop where
  e0 : MkF P w K mg base k "NoNumber" "ValueError" "ValueError.__new__" [.type "ValueError", .type "Exception", .type "BaseException", .type "object"] c0 f0 ["number"] ["self", "number"] (spE1 c0 "number")
  e1 : MkF P w K mg base k "NoText" "ValueError" "ValueError.__new__" [.type "ValueError", .type "Exception", .type "BaseException", .type "object"] c1 f1 ["part"] ["self", "part"] (spE1 c1 "part")
  e2 : MkF P w K mg base k "NoCase" "ValueError" "ValueError.__new__" [.type "ValueError", .type "Exception", .type "BaseException", .type "object"] c2 f2 ["part", "number"] ["self", "part", "number"] (spE2 c2 "part" "number")
  e3 : MkF P w K mg base k "NoRule" "ValueError" "ValueError.__new__" [.type "ValueError", .type "Exception", .type "BaseException", .type "object"] c3 f3 ["world"] ["self", "world"] (spE1 c3 "world")
  e4 : MkF P w K mg base k "NoBeliefs" "ValueError" "ValueError.__new__" [.type "ValueError", .type "Exception", .type "BaseException", .type "object"] c4 f4 [] ["self"] (spEi c4)
  e5 : MkF P w K mg base k "NoShares" "ValueError" "ValueError.__new__" [.type "ValueError", .type "Exception", .type "BaseException", .type "object"] c5 f5 [] ["self"] (spEi c5)
  e6 : MkF P w K mg base k "NoAdvice" "ValueError" "ValueError.__new__" [.type "ValueError", .type "Exception", .type "BaseException", .type "object"] c6 f6 ["words"] ["self", "words"] (spE1 c6 "words")
  e7 : MkF P w K mg base k "NoGroups" "ValueError" "ValueError.__new__" [.type "ValueError", .type "Exception", .type "BaseException", .type "object"] c7 f7 ["word"] ["self", "word"] (spE1 c7 "word")
  e8 : MkF P w K mg base k "NoHearers" "ValueError" "ValueError.__new__" [.type "ValueError", .type "Exception", .type "BaseException", .type "object"] c8 f8 ["number"] ["self", "number"] (spE1 c8 "number")
  e9 : MkF P w K mg base k "NoCounts" "ValueError" "ValueError.__new__" [.type "ValueError", .type "Exception", .type "BaseException", .type "object"] c9 f9 [] ["self"] (spEi c9)
  e10 : MkF P w K mg base k "NoOrder" "ValueError" "ValueError.__new__" [.type "ValueError", .type "Exception", .type "BaseException", .type "object"] c10 f10 ["part"] ["self", "part"] (spE1 c10 "part")
  e11 : MkF P w K mg base k "NoRow" "ValueError" "ValueError.__new__" [.type "ValueError", .type "Exception", .type "BaseException", .type "object"] c11 f11 [] ["self"] (spEi c11)
  e12 : MkF P w K mg base k "Unlike" "ValueError" "ValueError.__new__" [.type "ValueError", .type "Exception", .type "BaseException", .type "object"] c12 f12 ["one", "other"] ["self", "one", "other"] (spE2 c12 "one" "other")
  e13 : MkF P w K mg base k "NotTwo" "ArithmeticError" "ArithmeticError.__new__" [.type "ArithmeticError", .type "Exception", .type "BaseException", .type "object"] c13 f13 ["many"] ["self", "many"] (spE1 c13 "many")
  e14 : MkF P w K mg base k "ByNought" "ZeroDivisionError" "ZeroDivisionError.__new__" [.type "ZeroDivisionError", .type "ArithmeticError", .type "Exception", .type "BaseException", .type "object"] c14 f14 [] ["self"] (spEi c14)
  e15 : MkF P w K mg base k "TooMany" "OverflowError" "OverflowError.__new__" [.type "OverflowError", .type "ArithmeticError", .type "Exception", .type "BaseException", .type "object"] c15 f15 ["many"] ["self", "many"] (spE1 c15 "many")
  e16 : MkF P w K mg base k "NoWord" "IndexError" "IndexError.__new__" [.type "IndexError", .type "LookupError", .type "Exception", .type "BaseException", .type "object"] c16 f16 ["word"] ["self", "word"] (spE1 c16 "word")
  e17 : MkF P w K mg base k "NoDeed" "IndexError" "IndexError.__new__" [.type "IndexError", .type "LookupError", .type "Exception", .type "BaseException", .type "object"] c17 f17 ["number"] ["self", "number"] (spE1 c17 "number")
  e18 : MkF P w K mg base k "NoName" "KeyError" "LookupError.__new__" [.type "KeyError", .type "LookupError", .type "Exception", .type "BaseException", .type "object"] c18 f18 ["name"] ["self", "name"] (spE1 c18 "name")
  e19 : MkF P w K mg base k "Unsaid" "LookupError" "LookupError.__new__" [.type "LookupError", .type "Exception", .type "BaseException", .type "object"] c19 f19 ["word"] ["self", "word"] (spE1 c19 "word")
  e20 : MkF P w K mg base k "NoPart" "LookupError" "LookupError.__new__" [.type "LookupError", .type "Exception", .type "BaseException", .type "object"] c20 f20 ["part"] ["self", "part"] (spE1 c20 "part")
  e21 : MkF P w K mg base k "Bare" "RuntimeError" "RuntimeError.__new__" [.type "RuntimeError", .type "Exception", .type "BaseException", .type "object"] c21 f21 ["many"] ["self", "many"] (spE1 c21 "many")
section
variable {P : Program} {w : World} {K : PySem.W.Frag} {mg : Str → Option Value} {base : Heap} {c0 c1 c2 c3 c4 c5 c6 c7 c8 c9 c10 c11 c12 c13 c14 c15 c16 c17 c18 c19 c20 c21 f0 f1 f2 f3 f4 f5 f6 f7 f8 f9 f10 f11 f12 f13 f14 f15 f16 f17 f18 f19 f20 f21 : Addr} {k : Nat}
theorem scKinds : FnScope ["_law_error", "_law_found"] ["_law_error"] (defScope sKinds) := ⟨rfl, rfl, rfl, by decide +kernel, rfl, by decide +kernel, by decide +kernel⟩
theorem ok_Kinds {f : Addr} {fd : FuncData} {j : Nat} (F : Fun K "_law_kinds" "_law_kinds" sKinds f fd) (A : AE P w K mg base k c0 c1 c2 c3 c4 c5 c6 c7 c8 c9 c10 c11 c12 c13 c14 c15 c16 c17 c18 c19 c20 c21 f0 f1 f2 f3 f4 f5 f6 f7 f8 f9 f10 f11 f12 f13 f14 f15 f16 f17 f18 f19 f20 f21) (B : Blt mg) : FnOk P w K mg base CX0 (j + 1) f fd ["_law_error"] (spKinds K [c0, c1, c2, c3, c4, c5, c6, c7, c8, c9, c10, c11, c12, c13, c14, c15, c16, c17, c18, c19, c20, c21]) := by
  refine F.ok scKinds (fun vs H Q E h => ?_) (fun cdv A' outer s H vs Q E hr h => ?_)
  · obtain ⟨a, D, n, bm, rfl, _⟩ := h
    rfl
  · obtain ⟨a, D, n, bm, rfl, he, hx, hD, hT, q⟩ := h
    refine ⟨_, (pss_cons (ps_set (i := 1) scKinds.nd rfl (.inl rfl) (pe_lst (pa_cons (pe_callB call_isV (by rfl) B.isinstance_ (by decide +kernel) (pa_cons (pv 0) (pa_cons (pe_glob (v := .ref c0) (by rfl) A.e0.e.g rfl) pa_nil))) (pa_cons (pe_callB call_isV (by rfl) B.isinstance_ (by decide +kernel) (pa_cons (pv 0) (pa_cons (pe_glob (v := .ref c1) (by rfl) A.e1.e.g rfl) pa_nil))) (pa_cons (pe_callB call_isV (by rfl) B.isinstance_ (by decide +kernel) (pa_cons (pv 0) (pa_cons (pe_glob (v := .ref c2) (by rfl) A.e2.e.g rfl) pa_nil))) pa_nil)))))
      (pss_cons (ps_set (i := 1) scKinds.nd rfl (.inl rfl) (pe_op op_cat (pv 1) (pe_lst (pa_cons (pe_callB call_isV (by rfl) B.isinstance_ (by decide +kernel) (pa_cons (pv 0) (pa_cons (pe_glob (v := .ref c3) (by rfl) A.e3.e.g rfl) pa_nil))) (pa_cons (pe_callB call_isV (by rfl) B.isinstance_ (by decide +kernel) (pa_cons (pv 0) (pa_cons (pe_glob (v := .ref c4) (by rfl) A.e4.e.g rfl) pa_nil))) (pa_cons (pe_callB call_isV (by rfl) B.isinstance_ (by decide +kernel) (pa_cons (pv 0) (pa_cons (pe_glob (v := .ref c5) (by rfl) A.e5.e.g rfl) pa_nil))) pa_nil))))))
      (pss_cons (ps_set (i := 1) scKinds.nd rfl (.inl rfl) (pe_op op_cat (pv 1) (pe_lst (pa_cons (pe_callB call_isV (by rfl) B.isinstance_ (by decide +kernel) (pa_cons (pv 0) (pa_cons (pe_glob (v := .ref c6) (by rfl) A.e6.e.g rfl) pa_nil))) (pa_cons (pe_callB call_isV (by rfl) B.isinstance_ (by decide +kernel) (pa_cons (pv 0) (pa_cons (pe_glob (v := .ref c7) (by rfl) A.e7.e.g rfl) pa_nil))) (pa_cons (pe_callB call_isV (by rfl) B.isinstance_ (by decide +kernel) (pa_cons (pv 0) (pa_cons (pe_glob (v := .ref c8) (by rfl) A.e8.e.g rfl) pa_nil))) pa_nil))))))
      (pss_cons (ps_set (i := 1) scKinds.nd rfl (.inl rfl) (pe_op op_cat (pv 1) (pe_lst (pa_cons (pe_callB call_isV (by rfl) B.isinstance_ (by decide +kernel) (pa_cons (pv 0) (pa_cons (pe_glob (v := .ref c9) (by rfl) A.e9.e.g rfl) pa_nil))) (pa_cons (pe_callB call_isV (by rfl) B.isinstance_ (by decide +kernel) (pa_cons (pv 0) (pa_cons (pe_glob (v := .ref c10) (by rfl) A.e10.e.g rfl) pa_nil))) (pa_cons (pe_callB call_isV (by rfl) B.isinstance_ (by decide +kernel) (pa_cons (pv 0) (pa_cons (pe_glob (v := .ref c11) (by rfl) A.e11.e.g rfl) pa_nil))) pa_nil))))))
      (pss_cons (ps_set (i := 1) scKinds.nd rfl (.inl rfl) (pe_op op_cat (pv 1) (pe_lst (pa_cons (pe_callB call_isV (by rfl) B.isinstance_ (by decide +kernel) (pa_cons (pv 0) (pa_cons (pe_glob (v := .ref c12) (by rfl) A.e12.e.g rfl) pa_nil))) (pa_cons (pe_callB call_isV (by rfl) B.isinstance_ (by decide +kernel) (pa_cons (pv 0) (pa_cons (pe_glob (v := .ref c13) (by rfl) A.e13.e.g rfl) pa_nil))) (pa_cons (pe_callB call_isV (by rfl) B.isinstance_ (by decide +kernel) (pa_cons (pv 0) (pa_cons (pe_glob (v := .ref c14) (by rfl) A.e14.e.g rfl) pa_nil))) pa_nil))))))
      (pss_cons (ps_set (i := 1) scKinds.nd rfl (.inl rfl) (pe_op op_cat (pv 1) (pe_lst (pa_cons (pe_callB call_isV (by rfl) B.isinstance_ (by decide +kernel) (pa_cons (pv 0) (pa_cons (pe_glob (v := .ref c15) (by rfl) A.e15.e.g rfl) pa_nil))) (pa_cons (pe_callB call_isV (by rfl) B.isinstance_ (by decide +kernel) (pa_cons (pv 0) (pa_cons (pe_glob (v := .ref c16) (by rfl) A.e16.e.g rfl) pa_nil))) (pa_cons (pe_callB call_isV (by rfl) B.isinstance_ (by decide +kernel) (pa_cons (pv 0) (pa_cons (pe_glob (v := .ref c17) (by rfl) A.e17.e.g rfl) pa_nil))) pa_nil))))))
      (pss_cons (ps_set (i := 1) scKinds.nd rfl (.inl rfl) (pe_op op_cat (pv 1) (pe_lst (pa_cons (pe_callB call_isV (by rfl) B.isinstance_ (by decide +kernel) (pa_cons (pv 0) (pa_cons (pe_glob (v := .ref c18) (by rfl) A.e18.e.g rfl) pa_nil))) (pa_cons (pe_callB call_isV (by rfl) B.isinstance_ (by decide +kernel) (pa_cons (pv 0) (pa_cons (pe_glob (v := .ref c19) (by rfl) A.e19.e.g rfl) pa_nil))) (pa_cons (pe_callB call_isV (by rfl) B.isinstance_ (by decide +kernel) (pa_cons (pv 0) (pa_cons (pe_glob (v := .ref c20) (by rfl) A.e20.e.g rfl) pa_nil))) pa_nil))))))
      (pss_one (ps_ret (pe_op op_cat (pv 1) (pe_lst (pa_cons (pe_callB call_isV (by rfl) B.isinstance_ (by decide +kernel) (pa_cons (pv 0) (pa_cons (pe_glob (v := .ref c21) (by rfl) A.e21.e.g rfl) pa_nil))) pa_nil)))))))))))), ?_⟩
    have he0 := he
    have S0 : Same H H := fun _ _ z => z
    refine ⟨_, rfl, a, D, .ref c0, .ref c0, _, rfl, he0, hx, (fun _ h => h), kit_ref hD A.e0.e.s.c hT, (⟨_, rfl, a, D, .ref c1, .ref c1, _, rfl, he0, hx, (fun _ h => h), kit_ref hD A.e1.e.s.c hT, (⟨_, rfl, a, D, .ref c2, .ref c2, _, rfl, he0, hx, (fun _ h => h), kit_ref hD A.e2.e.s.c hT, (⟨by rw [sizeLine_eq]; simp, fun p1 n1 => ?_⟩)⟩)⟩)⟩
    have s1 := same_new n1 (.lst [V.bl (D == c0), V.bl (D == c1), V.bl (D == c2)])
    have h1 : upd H p1 (.lst [V.bl (D == c0), V.bl (D == c1), V.bl (D == c2)]) p1 = some (.lst [V.bl (D == c0), V.bl (D == c1), V.bl (D == c2)]) := upd_same
    generalize upd H p1 (.lst [V.bl (D == c0), V.bl (D == c1), V.bl (D == c2)]) = H1 at s1 h1 ⊢
    have S1 : Same H H1 := fun _ _ z => s1 _ _ (S0 _ _ z)
    have he1 := he.same S1
    refine ⟨_, rfl, ⟨_, rfl, a, D, .ref c3, .ref c3, _, rfl, he1, hx, (fun _ h => h), kit_ref hD A.e3.e.s.c hT, (⟨_, rfl, a, D, .ref c4, .ref c4, _, rfl, he1, hx, (fun _ h => h), kit_ref hD A.e4.e.s.c hT, (⟨_, rfl, a, D, .ref c5, .ref c5, _, rfl, he1, hx, (fun _ h => h), kit_ref hD A.e5.e.s.c hT, (⟨by rw [sizeLine_eq]; simp, fun u2 m2 => ⟨p1, u2, _, _, rfl, rfl, same_new m2 _ _ _ h1, upd_same, by rw [sizeLine_eq]; simp, fun p2 n2 => ?_⟩⟩)⟩)⟩)⟩⟩
    have s2 : Same H1 (upd (upd H1 u2 (.lst [V.bl (D == c3), V.bl (D == c4), V.bl (D == c5)])) p2 (.lst ([V.bl (D == c0), V.bl (D == c1), V.bl (D == c2)] ++ [V.bl (D == c3), V.bl (D == c4), V.bl (D == c5)]))) := fun _ _ z => same_new n2 _ _ _ (same_new m2 _ _ _ z)
    have h2 : (upd (upd H1 u2 (.lst [V.bl (D == c3), V.bl (D == c4), V.bl (D == c5)])) p2 (.lst ([V.bl (D == c0), V.bl (D == c1), V.bl (D == c2)] ++ [V.bl (D == c3), V.bl (D == c4), V.bl (D == c5)]))) p2 = some (.lst ([V.bl (D == c0), V.bl (D == c1), V.bl (D == c2)] ++ [V.bl (D == c3), V.bl (D == c4), V.bl (D == c5)])) := upd_same
    generalize upd (upd H1 u2 (.lst [V.bl (D == c3), V.bl (D == c4), V.bl (D == c5)])) p2 (.lst ([V.bl (D == c0), V.bl (D == c1), V.bl (D == c2)] ++ [V.bl (D == c3), V.bl (D == c4), V.bl (D == c5)])) = H2 at s2 h2 ⊢
    have S2 : Same H H2 := fun _ _ z => s2 _ _ (S1 _ _ z)
    have he2 := he.same S2
    refine ⟨_, rfl, ⟨_, rfl, a, D, .ref c6, .ref c6, _, rfl, he2, hx, (fun _ h => h), kit_ref hD A.e6.e.s.c hT, (⟨_, rfl, a, D, .ref c7, .ref c7, _, rfl, he2, hx, (fun _ h => h), kit_ref hD A.e7.e.s.c hT, (⟨_, rfl, a, D, .ref c8, .ref c8, _, rfl, he2, hx, (fun _ h => h), kit_ref hD A.e8.e.s.c hT, (⟨by rw [sizeLine_eq]; simp, fun u3 m3 => ⟨p2, u3, _, _, rfl, rfl, same_new m3 _ _ _ h2, upd_same, by rw [sizeLine_eq]; simp, fun p3 n3 => ?_⟩⟩)⟩)⟩)⟩⟩
    have s3 : Same H2 (upd (upd H2 u3 (.lst [V.bl (D == c6), V.bl (D == c7), V.bl (D == c8)])) p3 (.lst (([V.bl (D == c0), V.bl (D == c1), V.bl (D == c2)] ++ [V.bl (D == c3), V.bl (D == c4), V.bl (D == c5)]) ++ [V.bl (D == c6), V.bl (D == c7), V.bl (D == c8)]))) := fun _ _ z => same_new n3 _ _ _ (same_new m3 _ _ _ z)
    have h3 : (upd (upd H2 u3 (.lst [V.bl (D == c6), V.bl (D == c7), V.bl (D == c8)])) p3 (.lst (([V.bl (D == c0), V.bl (D == c1), V.bl (D == c2)] ++ [V.bl (D == c3), V.bl (D == c4), V.bl (D == c5)]) ++ [V.bl (D == c6), V.bl (D == c7), V.bl (D == c8)]))) p3 = some (.lst (([V.bl (D == c0), V.bl (D == c1), V.bl (D == c2)] ++ [V.bl (D == c3), V.bl (D == c4), V.bl (D == c5)]) ++ [V.bl (D == c6), V.bl (D == c7), V.bl (D == c8)])) := upd_same
    generalize upd (upd H2 u3 (.lst [V.bl (D == c6), V.bl (D == c7), V.bl (D == c8)])) p3 (.lst (([V.bl (D == c0), V.bl (D == c1), V.bl (D == c2)] ++ [V.bl (D == c3), V.bl (D == c4), V.bl (D == c5)]) ++ [V.bl (D == c6), V.bl (D == c7), V.bl (D == c8)])) = H3 at s3 h3 ⊢
    have S3 : Same H H3 := fun _ _ z => s3 _ _ (S2 _ _ z)
    have he3 := he.same S3
    refine ⟨_, rfl, ⟨_, rfl, a, D, .ref c9, .ref c9, _, rfl, he3, hx, (fun _ h => h), kit_ref hD A.e9.e.s.c hT, (⟨_, rfl, a, D, .ref c10, .ref c10, _, rfl, he3, hx, (fun _ h => h), kit_ref hD A.e10.e.s.c hT, (⟨_, rfl, a, D, .ref c11, .ref c11, _, rfl, he3, hx, (fun _ h => h), kit_ref hD A.e11.e.s.c hT, (⟨by rw [sizeLine_eq]; simp, fun u4 m4 => ⟨p3, u4, _, _, rfl, rfl, same_new m4 _ _ _ h3, upd_same, by rw [sizeLine_eq]; simp, fun p4 n4 => ?_⟩⟩)⟩)⟩)⟩⟩
    have s4 : Same H3 (upd (upd H3 u4 (.lst [V.bl (D == c9), V.bl (D == c10), V.bl (D == c11)])) p4 (.lst ((([V.bl (D == c0), V.bl (D == c1), V.bl (D == c2)] ++ [V.bl (D == c3), V.bl (D == c4), V.bl (D == c5)]) ++ [V.bl (D == c6), V.bl (D == c7), V.bl (D == c8)]) ++ [V.bl (D == c9), V.bl (D == c10), V.bl (D == c11)]))) := fun _ _ z => same_new n4 _ _ _ (same_new m4 _ _ _ z)
    have h4 : (upd (upd H3 u4 (.lst [V.bl (D == c9), V.bl (D == c10), V.bl (D == c11)])) p4 (.lst ((([V.bl (D == c0), V.bl (D == c1), V.bl (D == c2)] ++ [V.bl (D == c3), V.bl (D == c4), V.bl (D == c5)]) ++ [V.bl (D == c6), V.bl (D == c7), V.bl (D == c8)]) ++ [V.bl (D == c9), V.bl (D == c10), V.bl (D == c11)]))) p4 = some (.lst ((([V.bl (D == c0), V.bl (D == c1), V.bl (D == c2)] ++ [V.bl (D == c3), V.bl (D == c4), V.bl (D == c5)]) ++ [V.bl (D == c6), V.bl (D == c7), V.bl (D == c8)]) ++ [V.bl (D == c9), V.bl (D == c10), V.bl (D == c11)])) := upd_same
    generalize upd (upd H3 u4 (.lst [V.bl (D == c9), V.bl (D == c10), V.bl (D == c11)])) p4 (.lst ((([V.bl (D == c0), V.bl (D == c1), V.bl (D == c2)] ++ [V.bl (D == c3), V.bl (D == c4), V.bl (D == c5)]) ++ [V.bl (D == c6), V.bl (D == c7), V.bl (D == c8)]) ++ [V.bl (D == c9), V.bl (D == c10), V.bl (D == c11)])) = H4 at s4 h4 ⊢
    have S4 : Same H H4 := fun _ _ z => s4 _ _ (S3 _ _ z)
    have he4 := he.same S4
    refine ⟨_, rfl, ⟨_, rfl, a, D, .ref c12, .ref c12, _, rfl, he4, hx, (fun _ h => h), kit_ref hD A.e12.e.s.c hT, (⟨_, rfl, a, D, .ref c13, .ref c13, _, rfl, he4, hx, (fun _ h => h), kit_ref hD A.e13.e.s.c hT, (⟨_, rfl, a, D, .ref c14, .ref c14, _, rfl, he4, hx, (fun _ h => h), kit_ref hD A.e14.e.s.c hT, (⟨by rw [sizeLine_eq]; simp, fun u5 m5 => ⟨p4, u5, _, _, rfl, rfl, same_new m5 _ _ _ h4, upd_same, by rw [sizeLine_eq]; simp, fun p5 n5 => ?_⟩⟩)⟩)⟩)⟩⟩
    have s5 : Same H4 (upd (upd H4 u5 (.lst [V.bl (D == c12), V.bl (D == c13), V.bl (D == c14)])) p5 (.lst (((([V.bl (D == c0), V.bl (D == c1), V.bl (D == c2)] ++ [V.bl (D == c3), V.bl (D == c4), V.bl (D == c5)]) ++ [V.bl (D == c6), V.bl (D == c7), V.bl (D == c8)]) ++ [V.bl (D == c9), V.bl (D == c10), V.bl (D == c11)]) ++ [V.bl (D == c12), V.bl (D == c13), V.bl (D == c14)]))) := fun _ _ z => same_new n5 _ _ _ (same_new m5 _ _ _ z)
    have h5 : (upd (upd H4 u5 (.lst [V.bl (D == c12), V.bl (D == c13), V.bl (D == c14)])) p5 (.lst (((([V.bl (D == c0), V.bl (D == c1), V.bl (D == c2)] ++ [V.bl (D == c3), V.bl (D == c4), V.bl (D == c5)]) ++ [V.bl (D == c6), V.bl (D == c7), V.bl (D == c8)]) ++ [V.bl (D == c9), V.bl (D == c10), V.bl (D == c11)]) ++ [V.bl (D == c12), V.bl (D == c13), V.bl (D == c14)]))) p5 = some (.lst (((([V.bl (D == c0), V.bl (D == c1), V.bl (D == c2)] ++ [V.bl (D == c3), V.bl (D == c4), V.bl (D == c5)]) ++ [V.bl (D == c6), V.bl (D == c7), V.bl (D == c8)]) ++ [V.bl (D == c9), V.bl (D == c10), V.bl (D == c11)]) ++ [V.bl (D == c12), V.bl (D == c13), V.bl (D == c14)])) := upd_same
    generalize upd (upd H4 u5 (.lst [V.bl (D == c12), V.bl (D == c13), V.bl (D == c14)])) p5 (.lst (((([V.bl (D == c0), V.bl (D == c1), V.bl (D == c2)] ++ [V.bl (D == c3), V.bl (D == c4), V.bl (D == c5)]) ++ [V.bl (D == c6), V.bl (D == c7), V.bl (D == c8)]) ++ [V.bl (D == c9), V.bl (D == c10), V.bl (D == c11)]) ++ [V.bl (D == c12), V.bl (D == c13), V.bl (D == c14)])) = H5 at s5 h5 ⊢
    have S5 : Same H H5 := fun _ _ z => s5 _ _ (S4 _ _ z)
    have he5 := he.same S5
    refine ⟨_, rfl, ⟨_, rfl, a, D, .ref c15, .ref c15, _, rfl, he5, hx, (fun _ h => h), kit_ref hD A.e15.e.s.c hT, (⟨_, rfl, a, D, .ref c16, .ref c16, _, rfl, he5, hx, (fun _ h => h), kit_ref hD A.e16.e.s.c hT, (⟨_, rfl, a, D, .ref c17, .ref c17, _, rfl, he5, hx, (fun _ h => h), kit_ref hD A.e17.e.s.c hT, (⟨by rw [sizeLine_eq]; simp, fun u6 m6 => ⟨p5, u6, _, _, rfl, rfl, same_new m6 _ _ _ h5, upd_same, by rw [sizeLine_eq]; simp, fun p6 n6 => ?_⟩⟩)⟩)⟩)⟩⟩
    have s6 : Same H5 (upd (upd H5 u6 (.lst [V.bl (D == c15), V.bl (D == c16), V.bl (D == c17)])) p6 (.lst ((((([V.bl (D == c0), V.bl (D == c1), V.bl (D == c2)] ++ [V.bl (D == c3), V.bl (D == c4), V.bl (D == c5)]) ++ [V.bl (D == c6), V.bl (D == c7), V.bl (D == c8)]) ++ [V.bl (D == c9), V.bl (D == c10), V.bl (D == c11)]) ++ [V.bl (D == c12), V.bl (D == c13), V.bl (D == c14)]) ++ [V.bl (D == c15), V.bl (D == c16), V.bl (D == c17)]))) := fun _ _ z => same_new n6 _ _ _ (same_new m6 _ _ _ z)
    have h6 : (upd (upd H5 u6 (.lst [V.bl (D == c15), V.bl (D == c16), V.bl (D == c17)])) p6 (.lst ((((([V.bl (D == c0), V.bl (D == c1), V.bl (D == c2)] ++ [V.bl (D == c3), V.bl (D == c4), V.bl (D == c5)]) ++ [V.bl (D == c6), V.bl (D == c7), V.bl (D == c8)]) ++ [V.bl (D == c9), V.bl (D == c10), V.bl (D == c11)]) ++ [V.bl (D == c12), V.bl (D == c13), V.bl (D == c14)]) ++ [V.bl (D == c15), V.bl (D == c16), V.bl (D == c17)]))) p6 = some (.lst ((((([V.bl (D == c0), V.bl (D == c1), V.bl (D == c2)] ++ [V.bl (D == c3), V.bl (D == c4), V.bl (D == c5)]) ++ [V.bl (D == c6), V.bl (D == c7), V.bl (D == c8)]) ++ [V.bl (D == c9), V.bl (D == c10), V.bl (D == c11)]) ++ [V.bl (D == c12), V.bl (D == c13), V.bl (D == c14)]) ++ [V.bl (D == c15), V.bl (D == c16), V.bl (D == c17)])) := upd_same
    generalize upd (upd H5 u6 (.lst [V.bl (D == c15), V.bl (D == c16), V.bl (D == c17)])) p6 (.lst ((((([V.bl (D == c0), V.bl (D == c1), V.bl (D == c2)] ++ [V.bl (D == c3), V.bl (D == c4), V.bl (D == c5)]) ++ [V.bl (D == c6), V.bl (D == c7), V.bl (D == c8)]) ++ [V.bl (D == c9), V.bl (D == c10), V.bl (D == c11)]) ++ [V.bl (D == c12), V.bl (D == c13), V.bl (D == c14)]) ++ [V.bl (D == c15), V.bl (D == c16), V.bl (D == c17)])) = H6 at s6 h6 ⊢
    have S6 : Same H H6 := fun _ _ z => s6 _ _ (S5 _ _ z)
    have he6 := he.same S6
    refine ⟨_, rfl, ⟨_, rfl, a, D, .ref c18, .ref c18, _, rfl, he6, hx, (fun _ h => h), kit_ref hD A.e18.e.s.c hT, (⟨_, rfl, a, D, .ref c19, .ref c19, _, rfl, he6, hx, (fun _ h => h), kit_ref hD A.e19.e.s.c hT, (⟨_, rfl, a, D, .ref c20, .ref c20, _, rfl, he6, hx, (fun _ h => h), kit_ref hD A.e20.e.s.c hT, (⟨by rw [sizeLine_eq]; simp, fun u7 m7 => ⟨p6, u7, _, _, rfl, rfl, same_new m7 _ _ _ h6, upd_same, by rw [sizeLine_eq]; simp, fun p7 n7 => ?_⟩⟩)⟩)⟩)⟩⟩
    have s7 : Same H6 (upd (upd H6 u7 (.lst [V.bl (D == c18), V.bl (D == c19), V.bl (D == c20)])) p7 (.lst (((((([V.bl (D == c0), V.bl (D == c1), V.bl (D == c2)] ++ [V.bl (D == c3), V.bl (D == c4), V.bl (D == c5)]) ++ [V.bl (D == c6), V.bl (D == c7), V.bl (D == c8)]) ++ [V.bl (D == c9), V.bl (D == c10), V.bl (D == c11)]) ++ [V.bl (D == c12), V.bl (D == c13), V.bl (D == c14)]) ++ [V.bl (D == c15), V.bl (D == c16), V.bl (D == c17)]) ++ [V.bl (D == c18), V.bl (D == c19), V.bl (D == c20)]))) := fun _ _ z => same_new n7 _ _ _ (same_new m7 _ _ _ z)
    have h7 : (upd (upd H6 u7 (.lst [V.bl (D == c18), V.bl (D == c19), V.bl (D == c20)])) p7 (.lst (((((([V.bl (D == c0), V.bl (D == c1), V.bl (D == c2)] ++ [V.bl (D == c3), V.bl (D == c4), V.bl (D == c5)]) ++ [V.bl (D == c6), V.bl (D == c7), V.bl (D == c8)]) ++ [V.bl (D == c9), V.bl (D == c10), V.bl (D == c11)]) ++ [V.bl (D == c12), V.bl (D == c13), V.bl (D == c14)]) ++ [V.bl (D == c15), V.bl (D == c16), V.bl (D == c17)]) ++ [V.bl (D == c18), V.bl (D == c19), V.bl (D == c20)]))) p7 = some (.lst (((((([V.bl (D == c0), V.bl (D == c1), V.bl (D == c2)] ++ [V.bl (D == c3), V.bl (D == c4), V.bl (D == c5)]) ++ [V.bl (D == c6), V.bl (D == c7), V.bl (D == c8)]) ++ [V.bl (D == c9), V.bl (D == c10), V.bl (D == c11)]) ++ [V.bl (D == c12), V.bl (D == c13), V.bl (D == c14)]) ++ [V.bl (D == c15), V.bl (D == c16), V.bl (D == c17)]) ++ [V.bl (D == c18), V.bl (D == c19), V.bl (D == c20)])) := upd_same
    generalize upd (upd H6 u7 (.lst [V.bl (D == c18), V.bl (D == c19), V.bl (D == c20)])) p7 (.lst (((((([V.bl (D == c0), V.bl (D == c1), V.bl (D == c2)] ++ [V.bl (D == c3), V.bl (D == c4), V.bl (D == c5)]) ++ [V.bl (D == c6), V.bl (D == c7), V.bl (D == c8)]) ++ [V.bl (D == c9), V.bl (D == c10), V.bl (D == c11)]) ++ [V.bl (D == c12), V.bl (D == c13), V.bl (D == c14)]) ++ [V.bl (D == c15), V.bl (D == c16), V.bl (D == c17)]) ++ [V.bl (D == c18), V.bl (D == c19), V.bl (D == c20)])) = H7 at s7 h7 ⊢
    have S7 : Same H H7 := fun _ _ z => s7 _ _ (S6 _ _ z)
    have he7 := he.same S7
    refine ⟨_, rfl, ⟨_, rfl, a, D, .ref c21, .ref c21, _, rfl, he7, hx, (fun _ h => h), kit_ref hD A.e21.e.s.c hT, (⟨by rw [sizeLine_eq]; simp, fun u8 m8 => ⟨p7, u8, _, _, rfl, rfl, same_new m8 _ _ _ h7, upd_same, by rw [sizeLine_eq]; simp, fun p8 n8 => ?_⟩⟩)⟩⟩
    have s8 : Same H7 (upd (upd H7 u8 (.lst [V.bl (D == c21)])) p8 (.lst ((((((([V.bl (D == c0), V.bl (D == c1), V.bl (D == c2)] ++ [V.bl (D == c3), V.bl (D == c4), V.bl (D == c5)]) ++ [V.bl (D == c6), V.bl (D == c7), V.bl (D == c8)]) ++ [V.bl (D == c9), V.bl (D == c10), V.bl (D == c11)]) ++ [V.bl (D == c12), V.bl (D == c13), V.bl (D == c14)]) ++ [V.bl (D == c15), V.bl (D == c16), V.bl (D == c17)]) ++ [V.bl (D == c18), V.bl (D == c19), V.bl (D == c20)]) ++ [V.bl (D == c21)]))) := fun _ _ z => same_new n8 _ _ _ (same_new m8 _ _ _ z)
    have h8 : (upd (upd H7 u8 (.lst [V.bl (D == c21)])) p8 (.lst ((((((([V.bl (D == c0), V.bl (D == c1), V.bl (D == c2)] ++ [V.bl (D == c3), V.bl (D == c4), V.bl (D == c5)]) ++ [V.bl (D == c6), V.bl (D == c7), V.bl (D == c8)]) ++ [V.bl (D == c9), V.bl (D == c10), V.bl (D == c11)]) ++ [V.bl (D == c12), V.bl (D == c13), V.bl (D == c14)]) ++ [V.bl (D == c15), V.bl (D == c16), V.bl (D == c17)]) ++ [V.bl (D == c18), V.bl (D == c19), V.bl (D == c20)]) ++ [V.bl (D == c21)]))) p8 = some (.lst ((((((([V.bl (D == c0), V.bl (D == c1), V.bl (D == c2)] ++ [V.bl (D == c3), V.bl (D == c4), V.bl (D == c5)]) ++ [V.bl (D == c6), V.bl (D == c7), V.bl (D == c8)]) ++ [V.bl (D == c9), V.bl (D == c10), V.bl (D == c11)]) ++ [V.bl (D == c12), V.bl (D == c13), V.bl (D == c14)]) ++ [V.bl (D == c15), V.bl (D == c16), V.bl (D == c17)]) ++ [V.bl (D == c18), V.bl (D == c19), V.bl (D == c20)]) ++ [V.bl (D == c21)])) := upd_same
    generalize upd (upd H7 u8 (.lst [V.bl (D == c21)])) p8 (.lst ((((((([V.bl (D == c0), V.bl (D == c1), V.bl (D == c2)] ++ [V.bl (D == c3), V.bl (D == c4), V.bl (D == c5)]) ++ [V.bl (D == c6), V.bl (D == c7), V.bl (D == c8)]) ++ [V.bl (D == c9), V.bl (D == c10), V.bl (D == c11)]) ++ [V.bl (D == c12), V.bl (D == c13), V.bl (D == c14)]) ++ [V.bl (D == c15), V.bl (D == c16), V.bl (D == c17)]) ++ [V.bl (D == c18), V.bl (D == c19), V.bl (D == c20)]) ++ [V.bl (D == c21)])) = H8 at s8 h8 ⊢
    have S8 : Same H H8 := fun _ _ z => s8 _ _ (S7 _ _ z)
    have he8 := he.same S8
    exact q _ _ S8 h8
theorem scAbove : FnScope ["_law_error"] ["_law_error"] (defScope sAbove) := ⟨rfl, rfl, rfl, by decide +kernel, rfl, by decide +kernel, by decide +kernel⟩
theorem ok_Above {f : Addr} {fd : FuncData} {j : Nat} (F : Fun K "_law_above" "_law_above" sAbove f fd) (B : Blt mg) : FnOk P w K mg base CX0 (j + 1) f fd ["_law_error"] (spAbove K) := by
  refine F.ok scAbove (fun vs H Q E h => ?_) (fun cdv A' outer s H vs Q E hr h => ?_)
  · obtain ⟨a, D, n, bm, rfl, _⟩ := h
    rfl
  · obtain ⟨a, D, n, bm, rfl, he, hx, hD, q⟩ := h
    refine ⟨_, (pss_cons (ps_if (pt_val (pe_callB call_isV (by rfl) B.isinstance_ (by decide +kernel) (pa_cons (pv 0) (pa_cons (pe_bltn (v := .ty "ValueError") (by rfl) B.ValueError_ (by decide +kernel) rfl) pa_nil)))) (pss_one (ps_ret pe_str)) pss_nil)
      (pss_cons (ps_if (pt_val (pe_callB call_isV (by rfl) B.isinstance_ (by decide +kernel) (pa_cons (pv 0) (pa_cons (pe_bltn (v := .ty "ZeroDivisionError") (by rfl) B.ZeroDivisionError_ (by decide +kernel) rfl) pa_nil)))) (pss_one (ps_ret pe_str)) pss_nil)
      (pss_cons (ps_if (pt_val (pe_callB call_isV (by rfl) B.isinstance_ (by decide +kernel) (pa_cons (pv 0) (pa_cons (pe_bltn (v := .ty "OverflowError") (by rfl) B.OverflowError_ (by decide +kernel) rfl) pa_nil)))) (pss_one (ps_ret pe_str)) pss_nil)
      (pss_cons (ps_if (pt_val (pe_callB call_isV (by rfl) B.isinstance_ (by decide +kernel) (pa_cons (pv 0) (pa_cons (pe_bltn (v := .ty "ArithmeticError") (by rfl) B.ArithmeticError_ (by decide +kernel) rfl) pa_nil)))) (pss_one (ps_ret pe_str)) pss_nil)
      (pss_cons (ps_if (pt_val (pe_callB call_isV (by rfl) B.isinstance_ (by decide +kernel) (pa_cons (pv 0) (pa_cons (pe_bltn (v := .ty "IndexError") (by rfl) B.IndexError_ (by decide +kernel) rfl) pa_nil)))) (pss_one (ps_ret pe_str)) pss_nil)
      (pss_cons (ps_if (pt_val (pe_callB call_isV (by rfl) B.isinstance_ (by decide +kernel) (pa_cons (pv 0) (pa_cons (pe_bltn (v := .ty "KeyError") (by rfl) B.KeyError_ (by decide +kernel) rfl) pa_nil)))) (pss_one (ps_ret pe_str)) pss_nil)
      (pss_cons (ps_if (pt_val (pe_callB call_isV (by rfl) B.isinstance_ (by decide +kernel) (pa_cons (pv 0) (pa_cons (pe_bltn (v := .ty "LookupError") (by rfl) B.LookupError_ (by decide +kernel) rfl) pa_nil)))) (pss_one (ps_ret pe_str)) pss_nil)
      (pss_one (ps_ret (pe_ifExp (pt_val (pe_callB call_isV (by rfl) B.isinstance_ (by decide +kernel) (pa_cons (pv 0) (pa_cons (pe_bltn (v := .ty "RuntimeError") (by rfl) B.RuntimeError_ (by decide +kernel) rfl) pa_nil)))) pe_str pe_str)))))))))), ?_⟩
    unfold aboveT at q
    refine ⟨_, rfl, a, D, .ty "ValueError", .type "ValueError", _, rfl, he, hx, (fun _ h => h), kit_typ hD (by decide +kernel), _, rfl, ?_⟩
    cases hb : bm.contains (.type "ValueError") with
    | true =>
      rw [hb, if_pos rfl] at q
      exact iteT q
    | false =>
    rw [hb, if_neg (by decide)] at q
    refine iteF ?_
    refine ⟨_, rfl, a, D, .ty "ZeroDivisionError", .type "ZeroDivisionError", _, rfl, he, hx, (fun _ h => h), kit_typ hD (by decide +kernel), _, rfl, ?_⟩
    cases hb : bm.contains (.type "ZeroDivisionError") with
    | true =>
      rw [hb, if_pos rfl] at q
      exact iteT q
    | false =>
    rw [hb, if_neg (by decide)] at q
    refine iteF ?_
    refine ⟨_, rfl, a, D, .ty "OverflowError", .type "OverflowError", _, rfl, he, hx, (fun _ h => h), kit_typ hD (by decide +kernel), _, rfl, ?_⟩
    cases hb : bm.contains (.type "OverflowError") with
    | true =>
      rw [hb, if_pos rfl] at q
      exact iteT q
    | false =>
    rw [hb, if_neg (by decide)] at q
    refine iteF ?_
    refine ⟨_, rfl, a, D, .ty "ArithmeticError", .type "ArithmeticError", _, rfl, he, hx, (fun _ h => h), kit_typ hD (by decide +kernel), _, rfl, ?_⟩
    cases hb : bm.contains (.type "ArithmeticError") with
    | true =>
      rw [hb, if_pos rfl] at q
      exact iteT q
    | false =>
    rw [hb, if_neg (by decide)] at q
    refine iteF ?_
    refine ⟨_, rfl, a, D, .ty "IndexError", .type "IndexError", _, rfl, he, hx, (fun _ h => h), kit_typ hD (by decide +kernel), _, rfl, ?_⟩
    cases hb : bm.contains (.type "IndexError") with
    | true =>
      rw [hb, if_pos rfl] at q
      exact iteT q
    | false =>
    rw [hb, if_neg (by decide)] at q
    refine iteF ?_
    refine ⟨_, rfl, a, D, .ty "KeyError", .type "KeyError", _, rfl, he, hx, (fun _ h => h), kit_typ hD (by decide +kernel), _, rfl, ?_⟩
    cases hb : bm.contains (.type "KeyError") with
    | true =>
      rw [hb, if_pos rfl] at q
      exact iteT q
    | false =>
    rw [hb, if_neg (by decide)] at q
    refine iteF ?_
    refine ⟨_, rfl, a, D, .ty "LookupError", .type "LookupError", _, rfl, he, hx, (fun _ h => h), kit_typ hD (by decide +kernel), _, rfl, ?_⟩
    cases hb : bm.contains (.type "LookupError") with
    | true =>
      rw [hb, if_pos rfl] at q
      exact iteT q
    | false =>
    rw [hb, if_neg (by decide)] at q
    refine iteF ?_
    refine ⟨_, rfl, a, D, .ty "RuntimeError", .type "RuntimeError", _, rfl, he, hx, (fun _ h => h), kit_typ hD (by decide +kernel), _, rfl, ?_⟩
    cases hb : bm.contains (.type "RuntimeError") with
    | true =>
      rw [hb, if_pos rfl] at q
      exact iteT q
    | false =>
    rw [hb, if_neg (by decide)] at q
    refine iteF ?_
    exact q
end
end K4

set_option Elab.async false
set_option linter.all false
set_option maxRecDepth 100000
set_option maxHeartbeats 16000000
namespace K4
open PySem PySem.Spec PyProof.Rows L2 BX EXB Co Ru
open Dz
open Rs (Rsp Rv Ret tYes_of dV datR Flat Okr spShares spRowsL spTotal spCopied eqv_dR)
open Fr (Bd)
theorem mk_er {H : Hp} {a d C : Addr} {fs : List (Str × V)} (n : H a = none) (m : upd H a (exo a C none) d = none) (e : d ≠ a) :
    Same H (upd (upd (upd H a (exo a C none)) d (exd d fs)) a (exo a C (some d))) ∧ upd (upd (upd H a (exo a C none)) d (exd d fs)) a (exo a C (some d)) a = some (exo a C (some d)) ∧ upd (upd (upd H a (exo a C none)) d (exd d fs)) a (exo a C (some d)) d = some (exd d fs) := by
  have m' : H d = none := by rw [upd_ne e] at m; exact m
  refine ⟨fun b o z => ?_, upd_same, by rw [upd_ne e, upd_same]⟩
  rw [upd_ne (ne_of_none z n), upd_ne (ne_of_none z m'), upd_ne (ne_of_none z n)]
  exact z
/-- errors of these classes, in their order -/
inductive Ers (H : Hp) : List Addr → List V → Prop
  | nil : Ers H [] []
  | cons {C a : Addr} {cs : List Addr} {vs : List V} (h : IsEr H C a) (r : Ers H cs vs) : Ers H (C :: cs) (.ref a :: vs)
theorem Ers.same {H H' : Hp} {cs : List Addr} {vs : List V} (h : Ers H cs vs) (s : Same H H') : Ers H' cs vs := by
  induction h with
  | nil => exact .nil
  | cons h _ ih => exact .cons (h.same s) ih
theorem Ers.append {H : Hp} {cs cs' : List Addr} {vs vs' : List V} (h : Ers H cs vs) (h' : Ers H cs' vs') : Ers H (cs ++ cs') (vs ++ vs') := by
  induction h with
  | nil => exact h'
  | cons h _ ih => exact .cons h ih
def spAll (cs : List Addr) : Sp := fun vs H Q _ => ∃ v u : V, vs = [v, u] ∧ ∀ p H' xs, Same H H' → H' p = some (.lst xs) → Ers H' cs xs → Q (.ref p) H'
section
variable {P : Program} {w : World} {K : PySem.W.Frag} {mg : Str → Option Value} {base : Heap} {c0 c1 c2 c3 c4 c5 c6 c7 c8 c9 c10 c11 c12 c13 c14 c15 c16 c17 c18 c19 c20 c21 f0 f1 f2 f3 f4 f5 f6 f7 f8 f9 f10 f11 f12 f13 f14 f15 f16 f17 f18 f19 f20 f21 : Addr} {k : Nat}
theorem scAll : FnScope ["_law_one", "_law_other", "_law_first"] ["_law_one", "_law_other"] (defScope sAll) := ⟨rfl, rfl, rfl, by decide +kernel, rfl, by decide +kernel, by decide +kernel⟩
theorem ok_All {f : Addr} {fd : FuncData} (F : Fun K "_law_all" "_law_all" sAll f fd) (A : AE P w K mg base k c0 c1 c2 c3 c4 c5 c6 c7 c8 c9 c10 c11 c12 c13 c14 c15 c16 c17 c18 c19 c20 c21 f0 f1 f2 f3 f4 f5 f6 f7 f8 f9 f10 f11 f12 f13 f14 f15 f16 f17 f18 f19 f20 f21) : FnOk P w K mg base CX0 (k + 2) f fd ["_law_one", "_law_other"] (spAll [c0, c1, c2, c3, c4, c5, c6, c7, c8, c9, c10, c11, c12, c13, c14, c15, c16, c17, c18, c19]) := by
  refine F.ok scAll (fun vs H Q E h => ?_) (fun cdv A' outer s H vs Q E hr h => ?_)
  · obtain ⟨v, u, rfl, _⟩ := h
    rfl
  · obtain ⟨v, u, rfl, q⟩ := h
    obtain ⟨fd0, G0, b0⟩ := A.e0.g
    obtain ⟨fd1, G1, b1⟩ := A.e1.g
    obtain ⟨fd2, G2, b2⟩ := A.e2.g
    obtain ⟨fd3, G3, b3⟩ := A.e3.g
    obtain ⟨fd4, G4, b4⟩ := A.e4.g
    obtain ⟨fd5, G5, b5⟩ := A.e5.g
    obtain ⟨fd6, G6, b6⟩ := A.e6.g
    obtain ⟨fd7, G7, b7⟩ := A.e7.g
    obtain ⟨fd8, G8, b8⟩ := A.e8.g
    obtain ⟨fd9, G9, b9⟩ := A.e9.g
    obtain ⟨fd10, G10, b10⟩ := A.e10.g
    obtain ⟨fd11, G11, b11⟩ := A.e11.g
    obtain ⟨fd12, G12, b12⟩ := A.e12.g
    obtain ⟨fd13, G13, b13⟩ := A.e13.g
    obtain ⟨fd14, G14, b14⟩ := A.e14.g
    obtain ⟨fd15, G15, b15⟩ := A.e15.g
    obtain ⟨fd16, G16, b16⟩ := A.e16.g
    obtain ⟨fd17, G17, b17⟩ := A.e17.g
    obtain ⟨fd18, G18, b18⟩ := A.e18.g
    obtain ⟨fd19, G19, b19⟩ := A.e19.g
    obtain ⟨fd20, G20, b20⟩ := A.e20.g
    obtain ⟨fd21, G21, b21⟩ := A.e21.g
    refine ⟨_, (pss_cons (ps_set (i := 2) scAll.nd rfl (.inl rfl) (pe_lst (pa_cons (pe_mkE (NwF.of PySem.F.excBase_ValueError) A.e0.e.s.c A.e0.e.i A.e0.e.t G0 hr b0 (by rfl) A.e0.e.g (pa_cons (pv 0) pa_nil)) (pa_cons (pe_mkE (NwF.of PySem.F.excBase_ValueError) A.e1.e.s.c A.e1.e.i A.e1.e.t G1 hr b1 (by rfl) A.e1.e.g (pa_cons (pv 0) pa_nil)) (pa_cons (pe_mkE (NwF.of PySem.F.excBase_ValueError) A.e2.e.s.c A.e2.e.i A.e2.e.t G2 hr b2 (by rfl) A.e2.e.g (pa_cons (pv 0) (pa_cons (pv 1) pa_nil))) (pa_cons (pe_mkE (NwF.of PySem.F.excBase_ValueError) A.e3.e.s.c A.e3.e.i A.e3.e.t G3 hr b3 (by rfl) A.e3.e.g (pa_cons (pv 0) pa_nil)) (pa_cons (pe_mkE0 (NwF.of PySem.F.excBase_ValueError) A.e4.e.s.c A.e4.e.i A.e4.e.t G4 hr b4 (by rfl) A.e4.e.g) (pa_cons (pe_mkE0 (NwF.of PySem.F.excBase_ValueError) A.e5.e.s.c A.e5.e.i A.e5.e.t G5 hr b5 (by rfl) A.e5.e.g) (pa_cons (pe_mkE (NwF.of PySem.F.excBase_ValueError) A.e6.e.s.c A.e6.e.i A.e6.e.t G6 hr b6 (by rfl) A.e6.e.g (pa_cons (pv 0) pa_nil)) pa_nil)))))))))
      (pss_cons (ps_set (i := 2) scAll.nd rfl (.inl rfl) (pe_op op_cat (pv 2) (pe_lst (pa_cons (pe_mkE (NwF.of PySem.F.excBase_ValueError) A.e7.e.s.c A.e7.e.i A.e7.e.t G7 hr b7 (by rfl) A.e7.e.g (pa_cons (pv 0) pa_nil)) (pa_cons (pe_mkE (NwF.of PySem.F.excBase_ValueError) A.e8.e.s.c A.e8.e.i A.e8.e.t G8 hr b8 (by rfl) A.e8.e.g (pa_cons (pv 0) pa_nil)) (pa_cons (pe_mkE0 (NwF.of PySem.F.excBase_ValueError) A.e9.e.s.c A.e9.e.i A.e9.e.t G9 hr b9 (by rfl) A.e9.e.g) (pa_cons (pe_mkE (NwF.of PySem.F.excBase_ValueError) A.e10.e.s.c A.e10.e.i A.e10.e.t G10 hr b10 (by rfl) A.e10.e.g (pa_cons (pv 0) pa_nil)) (pa_cons (pe_mkE0 (NwF.of PySem.F.excBase_ValueError) A.e11.e.s.c A.e11.e.i A.e11.e.t G11 hr b11 (by rfl) A.e11.e.g) (pa_cons (pe_mkE (NwF.of PySem.F.excBase_ValueError) A.e12.e.s.c A.e12.e.i A.e12.e.t G12 hr b12 (by rfl) A.e12.e.g (pa_cons (pv 0) (pa_cons (pv 1) pa_nil))) pa_nil)))))))))
      (pss_one (ps_ret (pe_op op_cat (pv 2) (pe_lst (pa_cons (pe_mkE (NwF.of PySem.F.excBase_ArithmeticError) A.e13.e.s.c A.e13.e.i A.e13.e.t G13 hr b13 (by rfl) A.e13.e.g (pa_cons (pv 0) pa_nil)) (pa_cons (pe_mkE0 (NwF.of PySem.F.excBase_ZeroDivisionError) A.e14.e.s.c A.e14.e.i A.e14.e.t G14 hr b14 (by rfl) A.e14.e.g) (pa_cons (pe_mkE (NwF.of PySem.F.excBase_OverflowError) A.e15.e.s.c A.e15.e.i A.e15.e.t G15 hr b15 (by rfl) A.e15.e.g (pa_cons (pv 0) pa_nil)) (pa_cons (pe_mkE (NwF.of PySem.F.excBase_IndexError) A.e16.e.s.c A.e16.e.i A.e16.e.t G16 hr b16 (by rfl) A.e16.e.g (pa_cons (pv 0) pa_nil)) (pa_cons (pe_mkE (NwF.of PySem.F.excBase_IndexError) A.e17.e.s.c A.e17.e.i A.e17.e.t G17 hr b17 (by rfl) A.e17.e.g (pa_cons (pv 0) pa_nil)) (pa_cons (pe_mkE nw_key A.e18.e.s.c A.e18.e.i A.e18.e.t G18 hr b18 (by rfl) A.e18.e.g (pa_cons (pv 0) pa_nil)) (pa_cons (pe_mkE (NwF.of PySem.F.excBase_LookupError) A.e19.e.s.c A.e19.e.i A.e19.e.t G19 hr b19 (by rfl) A.e19.e.g (pa_cons (pv 0) pa_nil)) pa_nil))))))))))))), ?_⟩
    refine ⟨_, rfl, Nat.le_of_ble_eq_true rfl, fun a0 n0 => ⟨a0, _, rfl, upd_same, fun d0 m0 t0 => ⟨rfl, ?_⟩⟩⟩
    obtain ⟨s0, y0, x0⟩ := mk_er (C := c0) (fs := [("number", v)]) n0 m0 t0
    generalize upd (upd (upd H a0 (exo a0 c0 none)) d0 (exd d0 [("number", v)])) a0 (exo a0 c0 (some d0)) = H0 at s0 y0 x0 ⊢
    have e0 : IsEr H0 c0 a0 := .inr ⟨_, _, y0, x0⟩
    refine ⟨_, rfl, Nat.le_of_ble_eq_true rfl, fun a1 n1 => ⟨a1, _, rfl, upd_same, fun d1 m1 t1 => ⟨rfl, ?_⟩⟩⟩
    obtain ⟨s1, y1, x1⟩ := mk_er (C := c1) (fs := [("part", v)]) n1 m1 t1
    generalize upd (upd (upd H0 a1 (exo a1 c1 none)) d1 (exd d1 [("part", v)])) a1 (exo a1 c1 (some d1)) = H1 at s1 y1 x1 ⊢
    have e1 : IsEr H1 c1 a1 := .inr ⟨_, _, y1, x1⟩
    refine ⟨_, rfl, _, rfl, Nat.le_of_ble_eq_true rfl, fun a2 n2 => ⟨a2, _, _, rfl, upd_same, fun d2 m2 t2 => ⟨rfl, ?_⟩⟩⟩
    obtain ⟨s2, y2, x2⟩ := mk_er (C := c2) (fs := [("number", u), ("part", v)]) n2 m2 t2
    generalize upd (upd (upd H1 a2 (exo a2 c2 none)) d2 (exd d2 [("number", u), ("part", v)])) a2 (exo a2 c2 (some d2)) = H2 at s2 y2 x2 ⊢
    have e2 : IsEr H2 c2 a2 := .inr ⟨_, _, y2, x2⟩
    refine ⟨_, rfl, Nat.le_of_ble_eq_true rfl, fun a3 n3 => ⟨a3, _, rfl, upd_same, fun d3 m3 t3 => ⟨rfl, ?_⟩⟩⟩
    obtain ⟨s3, y3, x3⟩ := mk_er (C := c3) (fs := [("world", v)]) n3 m3 t3
    generalize upd (upd (upd H2 a3 (exo a3 c3 none)) d3 (exd d3 [("world", v)])) a3 (exo a3 c3 (some d3)) = H3 at s3 y3 x3 ⊢
    have e3 : IsEr H3 c3 a3 := .inr ⟨_, _, y3, x3⟩
    refine ⟨Nat.zero_le _, fun a4 n4 => ⟨a4, rfl, upd_same, rfl, ?_⟩⟩
    have s4 := same_new n4 (exo a4 c4 none)
    have e4 : IsEr (upd H3 a4 (exo a4 c4 none)) c4 a4 := .inl upd_same
    generalize upd H3 a4 (exo a4 c4 none) = H4 at s4 e4 ⊢
    refine ⟨Nat.zero_le _, fun a5 n5 => ⟨a5, rfl, upd_same, rfl, ?_⟩⟩
    have s5 := same_new n5 (exo a5 c5 none)
    have e5 : IsEr (upd H4 a5 (exo a5 c5 none)) c5 a5 := .inl upd_same
    generalize upd H4 a5 (exo a5 c5 none) = H5 at s5 e5 ⊢
    refine ⟨_, rfl, Nat.le_of_ble_eq_true rfl, fun a6 n6 => ⟨a6, _, rfl, upd_same, fun d6 m6 t6 => ⟨rfl, ?_⟩⟩⟩
    obtain ⟨s6, y6, x6⟩ := mk_er (C := c6) (fs := [("words", v)]) n6 m6 t6
    generalize upd (upd (upd H5 a6 (exo a6 c6 none)) d6 (exd d6 [("words", v)])) a6 (exo a6 c6 (some d6)) = H6 at s6 y6 x6 ⊢
    have e6 : IsEr H6 c6 a6 := .inr ⟨_, _, y6, x6⟩
    refine ⟨by rw [sizeLine_eq]; simp, fun p0 q0 => ?_⟩
    have z0 := same_new q0 (.lst [V.ref a0, V.ref a1, V.ref a2, V.ref a3, V.ref a4, V.ref a5, V.ref a6])
    have h0 : (upd H6 p0 (.lst [V.ref a0, V.ref a1, V.ref a2, V.ref a3, V.ref a4, V.ref a5, V.ref a6])) p0 = some (.lst [V.ref a0, V.ref a1, V.ref a2, V.ref a3, V.ref a4, V.ref a5, V.ref a6]) := upd_same
    generalize upd H6 p0 (.lst [V.ref a0, V.ref a1, V.ref a2, V.ref a3, V.ref a4, V.ref a5, V.ref a6]) = L0 at z0 h0 ⊢
    refine ⟨_, rfl, ?_⟩
    refine ⟨_, rfl, Nat.le_of_ble_eq_true rfl, fun a7 n7 => ⟨a7, _, rfl, upd_same, fun d7 m7 t7 => ⟨rfl, ?_⟩⟩⟩
    obtain ⟨s7, y7, x7⟩ := mk_er (C := c7) (fs := [("word", v)]) n7 m7 t7
    generalize upd (upd (upd L0 a7 (exo a7 c7 none)) d7 (exd d7 [("word", v)])) a7 (exo a7 c7 (some d7)) = H7 at s7 y7 x7 ⊢
    have e7 : IsEr H7 c7 a7 := .inr ⟨_, _, y7, x7⟩
    refine ⟨_, rfl, Nat.le_of_ble_eq_true rfl, fun a8 n8 => ⟨a8, _, rfl, upd_same, fun d8 m8 t8 => ⟨rfl, ?_⟩⟩⟩
    obtain ⟨s8, y8, x8⟩ := mk_er (C := c8) (fs := [("number", v)]) n8 m8 t8
    generalize upd (upd (upd H7 a8 (exo a8 c8 none)) d8 (exd d8 [("number", v)])) a8 (exo a8 c8 (some d8)) = H8 at s8 y8 x8 ⊢
    have e8 : IsEr H8 c8 a8 := .inr ⟨_, _, y8, x8⟩
    refine ⟨Nat.zero_le _, fun a9 n9 => ⟨a9, rfl, upd_same, rfl, ?_⟩⟩
    have s9 := same_new n9 (exo a9 c9 none)
    have e9 : IsEr (upd H8 a9 (exo a9 c9 none)) c9 a9 := .inl upd_same
    generalize upd H8 a9 (exo a9 c9 none) = H9 at s9 e9 ⊢
    refine ⟨_, rfl, Nat.le_of_ble_eq_true rfl, fun a10 n10 => ⟨a10, _, rfl, upd_same, fun d10 m10 t10 => ⟨rfl, ?_⟩⟩⟩
    obtain ⟨s10, y10, x10⟩ := mk_er (C := c10) (fs := [("part", v)]) n10 m10 t10
    generalize upd (upd (upd H9 a10 (exo a10 c10 none)) d10 (exd d10 [("part", v)])) a10 (exo a10 c10 (some d10)) = H10 at s10 y10 x10 ⊢
    have e10 : IsEr H10 c10 a10 := .inr ⟨_, _, y10, x10⟩
    refine ⟨Nat.zero_le _, fun a11 n11 => ⟨a11, rfl, upd_same, rfl, ?_⟩⟩
    have s11 := same_new n11 (exo a11 c11 none)
    have e11 : IsEr (upd H10 a11 (exo a11 c11 none)) c11 a11 := .inl upd_same
    generalize upd H10 a11 (exo a11 c11 none) = H11 at s11 e11 ⊢
    refine ⟨_, rfl, _, rfl, Nat.le_of_ble_eq_true rfl, fun a12 n12 => ⟨a12, _, _, rfl, upd_same, fun d12 m12 t12 => ⟨rfl, ?_⟩⟩⟩
    obtain ⟨s12, y12, x12⟩ := mk_er (C := c12) (fs := [("other", u), ("one", v)]) n12 m12 t12
    generalize upd (upd (upd H11 a12 (exo a12 c12 none)) d12 (exd d12 [("other", u), ("one", v)])) a12 (exo a12 c12 (some d12)) = H12 at s12 y12 x12 ⊢
    have e12 : IsEr H12 c12 a12 := .inr ⟨_, _, y12, x12⟩
    refine ⟨by rw [sizeLine_eq]; simp, fun g1 w1 => ⟨p0, g1, _, _, rfl, rfl, same_new w1 _ _ _ (s12 _ _ (s11 _ _ (s10 _ _ (s9 _ _ (s8 _ _ (s7 _ _ h0)))))), upd_same, by rw [sizeLine_eq]; simp, fun p1 q1 => ?_⟩⟩
    have z1 : Same H12 (upd (upd H12 g1 (.lst [V.ref a7, V.ref a8, V.ref a9, V.ref a10, V.ref a11, V.ref a12])) p1 (.lst ([V.ref a0, V.ref a1, V.ref a2, V.ref a3, V.ref a4, V.ref a5, V.ref a6] ++ [V.ref a7, V.ref a8, V.ref a9, V.ref a10, V.ref a11, V.ref a12]))) := fun _ _ z => same_new q1 _ _ _ (same_new w1 _ _ _ z)
    have h1 : (upd (upd H12 g1 (.lst [V.ref a7, V.ref a8, V.ref a9, V.ref a10, V.ref a11, V.ref a12])) p1 (.lst ([V.ref a0, V.ref a1, V.ref a2, V.ref a3, V.ref a4, V.ref a5, V.ref a6] ++ [V.ref a7, V.ref a8, V.ref a9, V.ref a10, V.ref a11, V.ref a12]))) p1 = some (.lst ([V.ref a0, V.ref a1, V.ref a2, V.ref a3, V.ref a4, V.ref a5, V.ref a6] ++ [V.ref a7, V.ref a8, V.ref a9, V.ref a10, V.ref a11, V.ref a12])) := upd_same
    generalize upd (upd H12 g1 (.lst [V.ref a7, V.ref a8, V.ref a9, V.ref a10, V.ref a11, V.ref a12])) p1 (.lst ([V.ref a0, V.ref a1, V.ref a2, V.ref a3, V.ref a4, V.ref a5, V.ref a6] ++ [V.ref a7, V.ref a8, V.ref a9, V.ref a10, V.ref a11, V.ref a12])) = L1 at z1 h1 ⊢
    refine ⟨_, rfl, ?_⟩
    refine ⟨_, rfl, Nat.le_of_ble_eq_true rfl, fun a13 n13 => ⟨a13, _, rfl, upd_same, fun d13 m13 t13 => ⟨rfl, ?_⟩⟩⟩
    obtain ⟨s13, y13, x13⟩ := mk_er (C := c13) (fs := [("many", v)]) n13 m13 t13
    generalize upd (upd (upd L1 a13 (exo a13 c13 none)) d13 (exd d13 [("many", v)])) a13 (exo a13 c13 (some d13)) = H13 at s13 y13 x13 ⊢
    have e13 : IsEr H13 c13 a13 := .inr ⟨_, _, y13, x13⟩
    refine ⟨Nat.zero_le _, fun a14 n14 => ⟨a14, rfl, upd_same, rfl, ?_⟩⟩
    have s14 := same_new n14 (exo a14 c14 none)
    have e14 : IsEr (upd H13 a14 (exo a14 c14 none)) c14 a14 := .inl upd_same
    generalize upd H13 a14 (exo a14 c14 none) = H14 at s14 e14 ⊢
    refine ⟨_, rfl, Nat.le_of_ble_eq_true rfl, fun a15 n15 => ⟨a15, _, rfl, upd_same, fun d15 m15 t15 => ⟨rfl, ?_⟩⟩⟩
    obtain ⟨s15, y15, x15⟩ := mk_er (C := c15) (fs := [("many", v)]) n15 m15 t15
    generalize upd (upd (upd H14 a15 (exo a15 c15 none)) d15 (exd d15 [("many", v)])) a15 (exo a15 c15 (some d15)) = H15 at s15 y15 x15 ⊢
    have e15 : IsEr H15 c15 a15 := .inr ⟨_, _, y15, x15⟩
    refine ⟨_, rfl, Nat.le_of_ble_eq_true rfl, fun a16 n16 => ⟨a16, _, rfl, upd_same, fun d16 m16 t16 => ⟨rfl, ?_⟩⟩⟩
    obtain ⟨s16, y16, x16⟩ := mk_er (C := c16) (fs := [("word", v)]) n16 m16 t16
    generalize upd (upd (upd H15 a16 (exo a16 c16 none)) d16 (exd d16 [("word", v)])) a16 (exo a16 c16 (some d16)) = H16 at s16 y16 x16 ⊢
    have e16 : IsEr H16 c16 a16 := .inr ⟨_, _, y16, x16⟩
    refine ⟨_, rfl, Nat.le_of_ble_eq_true rfl, fun a17 n17 => ⟨a17, _, rfl, upd_same, fun d17 m17 t17 => ⟨rfl, ?_⟩⟩⟩
    obtain ⟨s17, y17, x17⟩ := mk_er (C := c17) (fs := [("number", v)]) n17 m17 t17
    generalize upd (upd (upd H16 a17 (exo a17 c17 none)) d17 (exd d17 [("number", v)])) a17 (exo a17 c17 (some d17)) = H17 at s17 y17 x17 ⊢
    have e17 : IsEr H17 c17 a17 := .inr ⟨_, _, y17, x17⟩
    refine ⟨_, rfl, Nat.le_of_ble_eq_true rfl, fun a18 n18 => ⟨a18, _, rfl, upd_same, fun d18 m18 t18 => ⟨rfl, ?_⟩⟩⟩
    obtain ⟨s18, y18, x18⟩ := mk_er (C := c18) (fs := [("name", v)]) n18 m18 t18
    generalize upd (upd (upd H17 a18 (exo a18 c18 none)) d18 (exd d18 [("name", v)])) a18 (exo a18 c18 (some d18)) = H18 at s18 y18 x18 ⊢
    have e18 : IsEr H18 c18 a18 := .inr ⟨_, _, y18, x18⟩
    refine ⟨_, rfl, Nat.le_of_ble_eq_true rfl, fun a19 n19 => ⟨a19, _, rfl, upd_same, fun d19 m19 t19 => ⟨rfl, ?_⟩⟩⟩
    obtain ⟨s19, y19, x19⟩ := mk_er (C := c19) (fs := [("word", v)]) n19 m19 t19
    generalize upd (upd (upd H18 a19 (exo a19 c19 none)) d19 (exd d19 [("word", v)])) a19 (exo a19 c19 (some d19)) = H19 at s19 y19 x19 ⊢
    have e19 : IsEr H19 c19 a19 := .inr ⟨_, _, y19, x19⟩
    refine ⟨by rw [sizeLine_eq]; simp, fun g2 w2 => ⟨p1, g2, _, _, rfl, rfl, same_new w2 _ _ _ (s19 _ _ (s18 _ _ (s17 _ _ (s16 _ _ (s15 _ _ (s14 _ _ (s13 _ _ h1))))))), upd_same, by rw [sizeLine_eq]; simp, fun p2 q2 => ?_⟩⟩
    have z2 : Same H19 (upd (upd H19 g2 (.lst [V.ref a13, V.ref a14, V.ref a15, V.ref a16, V.ref a17, V.ref a18, V.ref a19])) p2 (.lst (([V.ref a0, V.ref a1, V.ref a2, V.ref a3, V.ref a4, V.ref a5, V.ref a6] ++ [V.ref a7, V.ref a8, V.ref a9, V.ref a10, V.ref a11, V.ref a12]) ++ [V.ref a13, V.ref a14, V.ref a15, V.ref a16, V.ref a17, V.ref a18, V.ref a19]))) := fun _ _ z => same_new q2 _ _ _ (same_new w2 _ _ _ z)
    have h2 : (upd (upd H19 g2 (.lst [V.ref a13, V.ref a14, V.ref a15, V.ref a16, V.ref a17, V.ref a18, V.ref a19])) p2 (.lst (([V.ref a0, V.ref a1, V.ref a2, V.ref a3, V.ref a4, V.ref a5, V.ref a6] ++ [V.ref a7, V.ref a8, V.ref a9, V.ref a10, V.ref a11, V.ref a12]) ++ [V.ref a13, V.ref a14, V.ref a15, V.ref a16, V.ref a17, V.ref a18, V.ref a19]))) p2 = some (.lst (([V.ref a0, V.ref a1, V.ref a2, V.ref a3, V.ref a4, V.ref a5, V.ref a6] ++ [V.ref a7, V.ref a8, V.ref a9, V.ref a10, V.ref a11, V.ref a12]) ++ [V.ref a13, V.ref a14, V.ref a15, V.ref a16, V.ref a17, V.ref a18, V.ref a19])) := upd_same
    generalize upd (upd H19 g2 (.lst [V.ref a13, V.ref a14, V.ref a15, V.ref a16, V.ref a17, V.ref a18, V.ref a19])) p2 (.lst (([V.ref a0, V.ref a1, V.ref a2, V.ref a3, V.ref a4, V.ref a5, V.ref a6] ++ [V.ref a7, V.ref a8, V.ref a9, V.ref a10, V.ref a11, V.ref a12]) ++ [V.ref a13, V.ref a14, V.ref a15, V.ref a16, V.ref a17, V.ref a18, V.ref a19])) = L2 at z2 h2 ⊢
    have T_end : Same L2 L2 := fun _ _ z => z
    have T22 : Same H19 L2 := fun _ _ z => T_end _ _ (z2 _ _ z)
    have T21 : Same H18 L2 := fun _ _ z => T22 _ _ (s19 _ _ z)
    have T20 : Same H17 L2 := fun _ _ z => T21 _ _ (s18 _ _ z)
    have T19 : Same H16 L2 := fun _ _ z => T20 _ _ (s17 _ _ z)
    have T18 : Same H15 L2 := fun _ _ z => T19 _ _ (s16 _ _ z)
    have T17 : Same H14 L2 := fun _ _ z => T18 _ _ (s15 _ _ z)
    have T16 : Same H13 L2 := fun _ _ z => T17 _ _ (s14 _ _ z)
    have T15 : Same L1 L2 := fun _ _ z => T16 _ _ (s13 _ _ z)
    have T14 : Same H12 L2 := fun _ _ z => T15 _ _ (z1 _ _ z)
    have T13 : Same H11 L2 := fun _ _ z => T14 _ _ (s12 _ _ z)
    have T12 : Same H10 L2 := fun _ _ z => T13 _ _ (s11 _ _ z)
    have T11 : Same H9 L2 := fun _ _ z => T12 _ _ (s10 _ _ z)
    have T10 : Same H8 L2 := fun _ _ z => T11 _ _ (s9 _ _ z)
    have T9 : Same H7 L2 := fun _ _ z => T10 _ _ (s8 _ _ z)
    have T8 : Same L0 L2 := fun _ _ z => T9 _ _ (s7 _ _ z)
    have T7 : Same H6 L2 := fun _ _ z => T8 _ _ (z0 _ _ z)
    have T6 : Same H5 L2 := fun _ _ z => T7 _ _ (s6 _ _ z)
    have T5 : Same H4 L2 := fun _ _ z => T6 _ _ (s5 _ _ z)
    have T4 : Same H3 L2 := fun _ _ z => T5 _ _ (s4 _ _ z)
    have T3 : Same H2 L2 := fun _ _ z => T4 _ _ (s3 _ _ z)
    have T2 : Same H1 L2 := fun _ _ z => T3 _ _ (s2 _ _ z)
    have T1 : Same H0 L2 := fun _ _ z => T2 _ _ (s1 _ _ z)
    have T0 : Same H L2 := fun _ _ z => T1 _ _ (s0 _ _ z)
    exact q _ _ _ T0 h2 (.cons (e0.same T1) (.cons (e1.same T2) (.cons (e2.same T3) (.cons (e3.same T4) (.cons (e4.same T5) (.cons (e5.same T6) (.cons (e6.same T7) (.cons (e7.same T9) (.cons (e8.same T10) (.cons (e9.same T11) (.cons (e10.same T12) (.cons (e11.same T13) (.cons (e12.same T14) (.cons (e13.same T16) (.cons (e14.same T17) (.cons (e15.same T18) (.cons (e16.same T19) (.cons (e17.same T20) (.cons (e18.same T21) (.cons (e19.same T22) .nil))))))))))))))))))))
end
end K4

set_option Elab.async false
set_option linter.all false
set_option maxRecDepth 100000
set_option maxHeartbeats 16000000
namespace K4
open PySem PySem.Spec PyProof.Rows L2 BX EXB Co Ru
open Dz
open Rs (Rsp Rv Ret tYes_of dV datR Flat Okr spShares spRowsL spTotal spCopied eqv_dR)
open Fr (Bd)
section
variable {X : Cx} {e : Expr} {es : List Expr} {ta : TA} {p pos : Pos} {newId : String} {bmB : List Value}
/-- C(e, ..), its own __init__ keeping sp -/
theorem pmk_exW {CX : CXT} {x : Str} {C fI : Addr} {k : Nat} {fd : FuncData} {ps : List Str} {sp : Sp} {ds : List Value} {dvs : List V} (Fb : NwF newId bmB) (T : ExC X.K C newId bmB) (iC : PySem.W.findIn X.K (.ref C) "__init__" = some (some (.ref fI))) (tI : PySem.W.typeIn X.K (.ref fI) = some (.type "function"))
    (F1 : FnOk X.prog X.w X.K X.mg X.base CX k fI fd ps sp) (hr : Room (k + 1) X.A) (hb : Binds X.K fd ps ds) (hd : Vals dvs ds) (hx : Passes CX X (fun _ _ _ => False)) (hg : Gl X x) (hm : X.mg x = some (.ref C)) (ha : PA X (e :: es) ta)
    (hdb : (x == ("__debug__" : Str)) = false := by decide) (he : starEach (e :: es) X.env = (false, eval e X.env) :: starEach es X.env := by rfl) (hpl : (backTo pos (starEach es X.env)).any (·.1) = false := by rfl) :
    PMk X (.Call (.Name x p) (e :: es) [] pos) (tMkO C sp dvs ta) := by
  intro pins s σ H Q I h
  obtain ⟨nm, q, N, bs, sn, sub, ab, col, dd, k0, k1, k2, k3, k5, hC⟩ := T.cls
  refine wpAny_Call_Name_kw (ld_glob I hg hm ?_ hdb)
  refine PySem.W.callWith_K (h₀ := X.base) I.ok.mod.kin T.kC (thn (ha.run pos pins s σ H _ I h) fun us s1 ⟨vs, H1, I1, r1, hz, q1⟩ => ⟨I1.kIn, ?_⟩) he hpl
  show wpAny _ _ (call (.ref C) us) _ _ _
  obtain ⟨hp, g, dr, tk, os⟩ := s1
  have hsz : hp.objs.size ≤ hp.objs.size + 1 := Nat.le_succ _
  have hq := q1 (hp.objs.size + 1) (I1.hok.fresh hsz)
  have kk : ∀ b o, hp.get? b = some o → ((hp.push (PySem.W.kdv_tup us)).push (PySem.HandSPX.excO C hp.objs.size)).get? b = some o := fun b o z => Heap.get?_push_of_some _ (Heap.get?_push_of_some _ z)
  have hget : ((hp.push (PySem.W.kdv_tup us)).push (PySem.HandSPX.excO C hp.objs.size)).get? (hp.objs.size + 1) = some (PySem.HandSPX.excO C hp.objs.size) := by heap_get
  have I2 : Inv X pins σ (upd H1 (hp.objs.size + 1) (exo (hp.objs.size + 1) C none)) ⟨(hp.push (PySem.W.kdv_tup us)).push (PySem.HandSPX.excO C hp.objs.size), g, dr, tk, os⟩ :=
    I1.laid (t' := tk) (a := hp.objs.size + 1) (o := exo (hp.objs.size + 1) C none) (h' := (hp.push (PySem.W.kdv_tup us)).push (PySem.HandSPX.excO C hp.objs.size)) kk hsz (exo_ok hget)
  have r2 : Vals (V.ref (hp.objs.size + 1) :: (vs ++ dvs)) (Value.ref (hp.objs.size + 1) :: (us ++ ds)) := .cons rfl (r1.append hd)
  have hl : (Value.ref (hp.objs.size + 1) :: us ++ ds).length = ps.length := by
    have z := r2.length
    rw [F1.len _ _ _ _ hq] at z
    exact z.symm
  have hus : us.length ≤ sizeLine := by
    rw [← Paired.length r1, sizeLine_eq]
    omega
  refine wpAny_call (callW Fb (I1.kIn _ _ hC) (PySem.W.looks_findIn I1.kIn iC) (fun self => PySem.W.bind_fn I1.kIn self tI) hus
    (codeAny_mono (F1.run _ X.stack _ _ ⟨Value.ref (hp.objs.size + 1) :: us, []⟩ (Value.ref (hp.objs.size + 1) :: (us ++ ds)) _ _ (fun _ _ _ => False) (hr.make C us []) (I2.env0.make C us []) (hb _ (Value.ref (hp.objs.size + 1) :: us) I2.kIn hl) r2 hq) fun r s' hq' => ?_))
  cases r with
  | error er => exact hx pins σ _ _ er s' I2 hq'
  | ok fl =>
    cases fl with
    | ret u =>
      obtain ⟨v, H2, os2, bare2, un2, hok2, rv, ev, d, fs, ea, ed, hd1, q2⟩ := hq'
      subst ev
      obtain ⟨h2, g2, d2, t2, os'⟩ := s'
      exact ⟨rv, mk_end (raises_own T.exC T.tyC) I1 hsz kk un2 hok2 os2 bare2 ea ed hd1 q2⟩
    | next => exact False.elim hq'
    | brk => exact False.elim hq'
    | cont => exact False.elim hq'
end
/-- the things that errors are made of here -/
inductive Th (H : Hp) : V → PyData → Prop
  | int {i : Int} (h : i ∈ [0, 7, -1, 10 ^ 20]) : Th H (.int i) (.int i)
  | non : Th H .non .none
  | tru : Th H (.bl true) (.bool true)
  | str : Th H (.str "x") (.str "x")
  | lst {a : Addr} (h : H a = some (.lst [.int 1])) : Th H (.ref a) (.list [.int 1])
  | tup {a : Addr} (h : H a = some (.tup [.int 1, .int 2])) : Th H (.ref a) (.tuple [.int 1, .int 2])
def T9 : List PyData := [.int 0, .int 7, .int (-1), .int (10 ^ 20), .none, .bool true, .str "x", .list [.int 1], .tuple [.int 1, .int 2]]
theorem Th.mem {H : Hp} {v : V} {d : PyData} (h : Th H v d) : d ∈ T9 := by
  cases h with
  | int h =>
    simp only [List.mem_cons, List.not_mem_nil, or_false] at h
    rcases h with rfl | rfl | rfl | rfl
    · exact .head _
    · exact .tail _ (.head _)
    · exact .tail _ (.tail _ (.head _))
    · exact .tail _ (.tail _ (.tail _ (.head _)))
  | non => exact .tail _ (.tail _ (.tail _ (.tail _ (.head _))))
  | tru => exact .tail _ (.tail _ (.tail _ (.tail _ (.tail _ (.head _)))))
  | str => exact .tail _ (.tail _ (.tail _ (.tail _ (.tail _ (.tail _ (.head _))))))
  | lst => exact .tail _ (.tail _ (.tail _ (.tail _ (.tail _ (.tail _ (.tail _ (.head _)))))))
  | tup => exact .tail _ (.tail _ (.tail _ (.tail _ (.tail _ (.tail _ (.tail _ (.tail _ (.head _))))))))
theorem Th.same {H H' : Hp} {v : V} {d : PyData} (h : Th H v d) (s : Same H H') : Th H' v d := by
  cases h with
  | int h => exact .int h
  | non => exact .non
  | tru => exact .tru
  | str => exact .str
  | lst h => exact .lst (s _ _ h)
  | tup h => exact .tup (s _ _ h)
theorem Th.dp {K : PySem.W.Frag} {H : Hp} {v : V} {d : PyData} (h : Th H v d) : Dp K H v d := by
  cases h with
  | int h => exact .int _
  | non => exact .non
  | tru => exact .bl _
  | str => exact .str _
  | lst h => exact .lst (SqL.of h) (.cons (.int _) .nil)
  | tup h => exact .tup (SqT.of h) (.cons (.int _) (.cons (.int _) .nil))
def shB (d : PyData) : Bool := d.showable && decide (d.depth ≤ 64) && decide (d.shown.length ≤ 1000)
theorem shB_of {d : PyData} (h : shB d = true) : d.showable = true ∧ d.depth ≤ 64 ∧ d.shown.length ≤ sizeLine := by
  unfold shB at h
  rw [Bool.and_eq_true, Bool.and_eq_true] at h
  have h3 := of_decide_eq_true h.2
  exact ⟨h.1.1, of_decide_eq_true h.1.2, by rw [sizeLine_eq]; omega⟩
theorem sh4 : ∀ d ∈ T9, ∀ e ∈ T9, shB (.list [d, e, d, e]) = true := by decide +kernel
theorem sh15 : ∀ d ∈ T9, shB (.list (List.replicate 15 d)) = true := by decide +kernel
theorem sh1 : ∀ d ∈ T9, shB d = true := by decide +kernel
def spFields : Sp := fun vs H Q _ => ∃ (v u : V) (d e : PyData), vs = [v, u] ∧ Th H v d ∧ Th H u e ∧ ∀ H', Same H H' → Q (.bl true) H'
def spRaised : Sp := fun vs H Q _ => ∃ (v : V) (d : PyData), vs = [v] ∧ Th H v d ∧ ∀ H', Same H H' → Q (.bl true) H'
section
variable {P : Program} {w : World} {K : PySem.W.Frag} {mg : Str → Option Value} {base : Heap} {c0 c1 c2 c3 c4 c5 c6 c7 c8 c9 c10 c11 c12 c13 c14 c15 c16 c17 c18 c19 c20 c21 f0 f1 f2 f3 f4 f5 f6 f7 f8 f9 f10 f11 f12 f13 f14 f15 f16 f17 f18 f19 f20 f21 : Addr} {k : Nat}
theorem scFields : FnScope ["_law_one", "_law_other", "_law_some"] ["_law_one", "_law_other"] (defScope sFields) := ⟨rfl, rfl, rfl, by decide +kernel, rfl, by decide +kernel, by decide +kernel⟩
theorem ok_Fields {f : Addr} {fd : FuncData} (F : Fun K "_law_fields" "_law_fields" sFields f fd) (A : AE P w K mg base k c0 c1 c2 c3 c4 c5 c6 c7 c8 c9 c10 c11 c12 c13 c14 c15 c16 c17 c18 c19 c20 c21 f0 f1 f2 f3 f4 f5 f6 f7 f8 f9 f10 f11 f12 f13 f14 f15 f16 f17 f18 f19 f20 f21) (B : Blt mg) : FnOkG P w K mg base CX0 (k + 2) f fd ["_law_one", "_law_other"] spFields := by
  refine okG F scFields (fun vs H Q E h => ?_) (fun cdv A' outer s H vs Q E hr hgd h => ?_)
  · obtain ⟨v, u, d, e, rfl, _⟩ := h
    rfl
  · obtain ⟨v, u, d, e, rfl, hv, hu', q⟩ := h
    have hu : (A'.deeper (envOfC "_law_fields" (defScope sFields) s.heap.objs.size f cdv)).units + 80 < cLine := by have := hr.un; omega
    obtain ⟨fd0, G0, b0⟩ := A.e0.g
    obtain ⟨fd1, G1, b1⟩ := A.e1.g
    obtain ⟨fd2, G2, b2⟩ := A.e2.g
    obtain ⟨fd3, G3, b3⟩ := A.e3.g
    obtain ⟨fd4, G4, b4⟩ := A.e4.g
    obtain ⟨fd5, G5, b5⟩ := A.e5.g
    obtain ⟨fd6, G6, b6⟩ := A.e6.g
    obtain ⟨fd7, G7, b7⟩ := A.e7.g
    obtain ⟨fd8, G8, b8⟩ := A.e8.g
    obtain ⟨fd9, G9, b9⟩ := A.e9.g
    obtain ⟨fd10, G10, b10⟩ := A.e10.g
    obtain ⟨fd11, G11, b11⟩ := A.e11.g
    obtain ⟨fd12, G12, b12⟩ := A.e12.g
    obtain ⟨fd13, G13, b13⟩ := A.e13.g
    obtain ⟨fd14, G14, b14⟩ := A.e14.g
    obtain ⟨fd15, G15, b15⟩ := A.e15.g
    obtain ⟨fd16, G16, b16⟩ := A.e16.g
    obtain ⟨fd17, G17, b17⟩ := A.e17.g
    obtain ⟨fd18, G18, b18⟩ := A.e18.g
    obtain ⟨fd19, G19, b19⟩ := A.e19.g
    obtain ⟨fd20, G20, b20⟩ := A.e20.g
    obtain ⟨fd21, G21, b21⟩ := A.e21.g
    refine ⟨_, (pss_cons (ps_set (i := 2) scFields.nd rfl (.inl rfl) (pe_lst (pa_cons (pe_fE (pe_mkE (NwF.of PySem.F.excBase_ValueError) A.e2.e.s.c A.e2.e.i A.e2.e.t G2 hr b2 (by rfl) A.e2.e.g (pa_cons (pv 0) (pa_cons (pv 1) pa_nil)))) (pa_cons (pe_fE (pe_mkE (NwF.of PySem.F.excBase_ValueError) A.e2.e.s.c A.e2.e.i A.e2.e.t G2 hr b2 (by rfl) A.e2.e.g (pa_cons (pv 0) (pa_cons (pv 1) pa_nil)))) (pa_cons (pe_fE (pe_mkE (NwF.of PySem.F.excBase_ValueError) A.e12.e.s.c A.e12.e.i A.e12.e.t G12 hr b12 (by rfl) A.e12.e.g (pa_cons (pv 0) (pa_cons (pv 1) pa_nil)))) (pa_cons (pe_fE (pe_mkE (NwF.of PySem.F.excBase_ValueError) A.e12.e.s.c A.e12.e.i A.e12.e.t G12 hr b12 (by rfl) A.e12.e.g (pa_cons (pv 0) (pa_cons (pv 1) pa_nil)))) pa_nil))))))
      (pss_cons (ps_if (pt_cmpR op_ne (pe_callB (call_reprD hgd hu) (by rfl) B.repr_ (by decide +kernel) (pa_cons (pv 2) pa_nil)) (pe_callB (call_reprD hgd hu) (by rfl) B.repr_ (by decide +kernel) (pa_cons (pe_lst (pa_cons (pv 0) (pa_cons (pv 1) (pa_cons (pv 0) (pa_cons (pv 1) pa_nil))))) pa_nil)) (nomark _)) (pss_one (ps_ret pe_bl)) pss_nil)
      (pss_cons (ps_set (i := 2) scFields.nd rfl (.inl rfl) (pe_lst (pa_cons (pe_fE (pe_mkE (NwF.of PySem.F.excBase_ValueError) A.e0.e.s.c A.e0.e.i A.e0.e.t G0 hr b0 (by rfl) A.e0.e.g (pa_cons (pv 0) pa_nil))) (pa_cons (pe_fE (pe_mkE (NwF.of PySem.F.excBase_ValueError) A.e1.e.s.c A.e1.e.i A.e1.e.t G1 hr b1 (by rfl) A.e1.e.g (pa_cons (pv 0) pa_nil))) (pa_cons (pe_fE (pe_mkE (NwF.of PySem.F.excBase_ValueError) A.e3.e.s.c A.e3.e.i A.e3.e.t G3 hr b3 (by rfl) A.e3.e.g (pa_cons (pv 0) pa_nil))) (pa_cons (pe_fE (pe_mkE (NwF.of PySem.F.excBase_ValueError) A.e6.e.s.c A.e6.e.i A.e6.e.t G6 hr b6 (by rfl) A.e6.e.g (pa_cons (pv 0) pa_nil))) (pa_cons (pe_fE (pe_mkE (NwF.of PySem.F.excBase_ValueError) A.e7.e.s.c A.e7.e.i A.e7.e.t G7 hr b7 (by rfl) A.e7.e.g (pa_cons (pv 0) pa_nil))) pa_nil)))))))
      (pss_cons (ps_set (i := 2) scFields.nd rfl (.inl rfl) (pe_op op_cat (pv 2) (pe_lst (pa_cons (pe_fE (pe_mkE (NwF.of PySem.F.excBase_ValueError) A.e8.e.s.c A.e8.e.i A.e8.e.t G8 hr b8 (by rfl) A.e8.e.g (pa_cons (pv 0) pa_nil))) (pa_cons (pe_fE (pe_mkE (NwF.of PySem.F.excBase_ValueError) A.e10.e.s.c A.e10.e.i A.e10.e.t G10 hr b10 (by rfl) A.e10.e.g (pa_cons (pv 0) pa_nil))) (pa_cons (pe_fE (pe_mkE (NwF.of PySem.F.excBase_ArithmeticError) A.e13.e.s.c A.e13.e.i A.e13.e.t G13 hr b13 (by rfl) A.e13.e.g (pa_cons (pv 0) pa_nil))) (pa_cons (pe_fE (pe_mkE (NwF.of PySem.F.excBase_OverflowError) A.e15.e.s.c A.e15.e.i A.e15.e.t G15 hr b15 (by rfl) A.e15.e.g (pa_cons (pv 0) pa_nil))) (pa_cons (pe_fE (pe_mkE (NwF.of PySem.F.excBase_IndexError) A.e16.e.s.c A.e16.e.i A.e16.e.t G16 hr b16 (by rfl) A.e16.e.g (pa_cons (pv 0) pa_nil))) pa_nil))))))))
      (pss_cons (ps_set (i := 2) scFields.nd rfl (.inl rfl) (pe_op op_cat (pv 2) (pe_lst (pa_cons (pe_fE (pe_mkE (NwF.of PySem.F.excBase_IndexError) A.e17.e.s.c A.e17.e.i A.e17.e.t G17 hr b17 (by rfl) A.e17.e.g (pa_cons (pv 0) pa_nil))) (pa_cons (pe_fE (pe_mkE nw_key A.e18.e.s.c A.e18.e.i A.e18.e.t G18 hr b18 (by rfl) A.e18.e.g (pa_cons (pv 0) pa_nil))) (pa_cons (pe_fE (pe_mkE (NwF.of PySem.F.excBase_LookupError) A.e19.e.s.c A.e19.e.i A.e19.e.t G19 hr b19 (by rfl) A.e19.e.g (pa_cons (pv 0) pa_nil))) (pa_cons (pe_fE (pe_mkE (NwF.of PySem.F.excBase_LookupError) A.e20.e.s.c A.e20.e.i A.e20.e.t G20 hr b20 (by rfl) A.e20.e.g (pa_cons (pv 0) pa_nil))) (pa_cons (pe_fE (pe_mkE (NwF.of PySem.F.excBase_RuntimeError) A.e21.e.s.c A.e21.e.i A.e21.e.t G21 hr b21 (by rfl) A.e21.e.g (pa_cons (pv 0) pa_nil))) pa_nil))))))))
      (pss_one (ps_ret (pe_cmpR op_eq (pe_callB (call_reprD hgd hu) (by rfl) B.repr_ (by decide +kernel) (pa_cons (pv 2) pa_nil)) (pe_callB (call_reprD hgd hu) (by rfl) B.repr_ (by decide +kernel) (pa_cons (pe_op op_rep (pe_lst (pa_cons (pv 0) pa_nil)) pe_int) pa_nil)) (nomark _))))))))), ?_⟩
    have S0 : Same H H := fun _ _ z => z
    refine ⟨_, rfl, _, rfl, Nat.le_of_ble_eq_true rfl, fun a0 n0 => ⟨a0, _, _, rfl, upd_same, fun d0 m0 t0 => ⟨rfl, ?_⟩⟩⟩
    obtain ⟨s0, y0, x0⟩ := mk_er (C := c2) (fs := [("number", u), ("part", v)]) n0 m0 t0
    generalize upd (upd (upd H a0 (exo a0 c2 none)) d0 (exd d0 [("number", u), ("part", v)])) a0 (exo a0 c2 (some d0)) = H0 at s0 y0 x0 ⊢
    have e0 : IsEr H0 c2 a0 := .inr ⟨_, _, y0, x0⟩
    have S1 : Same H H0 := fun _ _ z => s0 _ _ (S0 _ _ z)
    refine ⟨a0, c2, d0, _, _, rfl, y0, x0, A.e2.e.xf, A.e2.e.no _ (by simp), rfl, ?_⟩
    refine ⟨_, rfl, _, rfl, Nat.le_of_ble_eq_true rfl, fun a1 n1 => ⟨a1, _, _, rfl, upd_same, fun d1 m1 t1 => ⟨rfl, ?_⟩⟩⟩
    obtain ⟨s1, y1, x1⟩ := mk_er (C := c2) (fs := [("number", u), ("part", v)]) n1 m1 t1
    generalize upd (upd (upd H0 a1 (exo a1 c2 none)) d1 (exd d1 [("number", u), ("part", v)])) a1 (exo a1 c2 (some d1)) = H1 at s1 y1 x1 ⊢
    have e1 : IsEr H1 c2 a1 := .inr ⟨_, _, y1, x1⟩
    have S2 : Same H H1 := fun _ _ z => s1 _ _ (S1 _ _ z)
    refine ⟨a1, c2, d1, _, _, rfl, y1, x1, A.e2.e.xf, A.e2.e.no _ (by simp), rfl, ?_⟩
    refine ⟨_, rfl, _, rfl, Nat.le_of_ble_eq_true rfl, fun a2 n2 => ⟨a2, _, _, rfl, upd_same, fun d2 m2 t2 => ⟨rfl, ?_⟩⟩⟩
    obtain ⟨s2, y2, x2⟩ := mk_er (C := c12) (fs := [("other", u), ("one", v)]) n2 m2 t2
    generalize upd (upd (upd H1 a2 (exo a2 c12 none)) d2 (exd d2 [("other", u), ("one", v)])) a2 (exo a2 c12 (some d2)) = H2 at s2 y2 x2 ⊢
    have e2 : IsEr H2 c12 a2 := .inr ⟨_, _, y2, x2⟩
    have S3 : Same H H2 := fun _ _ z => s2 _ _ (S2 _ _ z)
    refine ⟨a2, c12, d2, _, _, rfl, y2, x2, A.e12.e.xf, A.e12.e.no _ (by simp), rfl, ?_⟩
    refine ⟨_, rfl, _, rfl, Nat.le_of_ble_eq_true rfl, fun a3 n3 => ⟨a3, _, _, rfl, upd_same, fun d3 m3 t3 => ⟨rfl, ?_⟩⟩⟩
    obtain ⟨s3, y3, x3⟩ := mk_er (C := c12) (fs := [("other", u), ("one", v)]) n3 m3 t3
    generalize upd (upd (upd H2 a3 (exo a3 c12 none)) d3 (exd d3 [("other", u), ("one", v)])) a3 (exo a3 c12 (some d3)) = H3 at s3 y3 x3 ⊢
    have e3 : IsEr H3 c12 a3 := .inr ⟨_, _, y3, x3⟩
    have S4 : Same H H3 := fun _ _ z => s3 _ _ (S3 _ _ z)
    refine ⟨a3, c12, d3, _, _, rfl, y3, x3, A.e12.e.xf, A.e12.e.no _ (by simp), rfl, ?_⟩
    refine ⟨by rw [sizeLine_eq]; simp, fun pA qA => ?_⟩
    have zA := same_new qA (.lst [v, u, v, u])
    have hA : (upd H3 pA (.lst [v, u, v, u])) pA = some (.lst [v, u, v, u]) := upd_same
    generalize upd H3 pA (.lst [v, u, v, u]) = LA at zA hA ⊢
    have SLA : Same H LA := fun _ _ z => zA _ _ (S4 _ _ z)
    have F4 := shB_of (sh4 d hv.mem e hu'.mem)
    refine ⟨_, rfl, .ref pA, .list [d, e, d, e], rfl, .inl (Dp.lst (SqL.of hA) (.cons (hv.same SLA).dp (.cons (hu'.same SLA).dp (.cons (hv.same SLA).dp (.cons (hu'.same SLA).dp .nil))))), F4.1, F4.2.1, F4.2.2, _, rfl, _, rfl, _, rfl, _, rfl, ?_⟩
    refine ⟨by rw [sizeLine_eq]; simp, fun pB qB => ?_⟩
    have zB := same_new qB (.lst [v, u, v, u])
    have hB : (upd LA pB (.lst [v, u, v, u])) pB = some (.lst [v, u, v, u]) := upd_same
    generalize upd LA pB (.lst [v, u, v, u]) = LB at zB hB ⊢
    have SLB : Same H LB := fun _ _ z => zB _ _ (SLA _ _ z)
    refine ⟨.ref pB, .list [d, e, d, e], rfl, .inl (Dp.lst (SqL.of hB) (.cons (hv.same SLB).dp (.cons (hu'.same SLB).dp (.cons (hv.same SLB).dp (.cons (hu'.same SLB).dp .nil))))), F4.1, F4.2.1, F4.2.2, rfl, _, rfl, ?_⟩
    rw [show (!decide (V.str (PyData.list [d, e, d, e]).shown = V.str (PyData.list [d, e, d, e]).shown)) = false by simp]
    refine iteF ?_
    refine ⟨_, rfl, Nat.le_of_ble_eq_true rfl, fun a4 n4 => ⟨a4, _, rfl, upd_same, fun d4 m4 t4 => ⟨rfl, ?_⟩⟩⟩
    obtain ⟨s4, y4, x4⟩ := mk_er (C := c0) (fs := [("number", v)]) n4 m4 t4
    generalize upd (upd (upd LB a4 (exo a4 c0 none)) d4 (exd d4 [("number", v)])) a4 (exo a4 c0 (some d4)) = H4 at s4 y4 x4 ⊢
    have e4 : IsEr H4 c0 a4 := .inr ⟨_, _, y4, x4⟩
    have S5 : Same H H4 := fun _ _ z => s4 _ _ (SLB _ _ z)
    refine ⟨a4, c0, d4, _, _, rfl, y4, x4, A.e0.e.xf, A.e0.e.no _ (by simp), rfl, ?_⟩
    refine ⟨_, rfl, Nat.le_of_ble_eq_true rfl, fun a5 n5 => ⟨a5, _, rfl, upd_same, fun d5 m5 t5 => ⟨rfl, ?_⟩⟩⟩
    obtain ⟨s5, y5, x5⟩ := mk_er (C := c1) (fs := [("part", v)]) n5 m5 t5
    generalize upd (upd (upd H4 a5 (exo a5 c1 none)) d5 (exd d5 [("part", v)])) a5 (exo a5 c1 (some d5)) = H5 at s5 y5 x5 ⊢
    have e5 : IsEr H5 c1 a5 := .inr ⟨_, _, y5, x5⟩
    have S6 : Same H H5 := fun _ _ z => s5 _ _ (S5 _ _ z)
    refine ⟨a5, c1, d5, _, _, rfl, y5, x5, A.e1.e.xf, A.e1.e.no _ (by simp), rfl, ?_⟩
    refine ⟨_, rfl, Nat.le_of_ble_eq_true rfl, fun a6 n6 => ⟨a6, _, rfl, upd_same, fun d6 m6 t6 => ⟨rfl, ?_⟩⟩⟩
    obtain ⟨s6, y6, x6⟩ := mk_er (C := c3) (fs := [("world", v)]) n6 m6 t6
    generalize upd (upd (upd H5 a6 (exo a6 c3 none)) d6 (exd d6 [("world", v)])) a6 (exo a6 c3 (some d6)) = H6 at s6 y6 x6 ⊢
    have e6 : IsEr H6 c3 a6 := .inr ⟨_, _, y6, x6⟩
    have S7 : Same H H6 := fun _ _ z => s6 _ _ (S6 _ _ z)
    refine ⟨a6, c3, d6, _, _, rfl, y6, x6, A.e3.e.xf, A.e3.e.no _ (by simp), rfl, ?_⟩
    refine ⟨_, rfl, Nat.le_of_ble_eq_true rfl, fun a7 n7 => ⟨a7, _, rfl, upd_same, fun d7 m7 t7 => ⟨rfl, ?_⟩⟩⟩
    obtain ⟨s7, y7, x7⟩ := mk_er (C := c6) (fs := [("words", v)]) n7 m7 t7
    generalize upd (upd (upd H6 a7 (exo a7 c6 none)) d7 (exd d7 [("words", v)])) a7 (exo a7 c6 (some d7)) = H7 at s7 y7 x7 ⊢
    have e7 : IsEr H7 c6 a7 := .inr ⟨_, _, y7, x7⟩
    have S8 : Same H H7 := fun _ _ z => s7 _ _ (S7 _ _ z)
    refine ⟨a7, c6, d7, _, _, rfl, y7, x7, A.e6.e.xf, A.e6.e.no _ (by simp), rfl, ?_⟩
    refine ⟨_, rfl, Nat.le_of_ble_eq_true rfl, fun a8 n8 => ⟨a8, _, rfl, upd_same, fun d8 m8 t8 => ⟨rfl, ?_⟩⟩⟩
    obtain ⟨s8, y8, x8⟩ := mk_er (C := c7) (fs := [("word", v)]) n8 m8 t8
    generalize upd (upd (upd H7 a8 (exo a8 c7 none)) d8 (exd d8 [("word", v)])) a8 (exo a8 c7 (some d8)) = H8 at s8 y8 x8 ⊢
    have e8 : IsEr H8 c7 a8 := .inr ⟨_, _, y8, x8⟩
    have S9 : Same H H8 := fun _ _ z => s8 _ _ (S8 _ _ z)
    refine ⟨a8, c7, d8, _, _, rfl, y8, x8, A.e7.e.xf, A.e7.e.no _ (by simp), rfl, ?_⟩
    refine ⟨by rw [sizeLine_eq]; simp, fun pC qC => ?_⟩
    have zC := same_new qC (.lst [v, v, v, v, v])
    have hC : (upd H8 pC (.lst [v, v, v, v, v])) pC = some (.lst [v, v, v, v, v]) := upd_same
    generalize upd H8 pC (.lst [v, v, v, v, v]) = LC at zC hC ⊢
    have SLC : Same H LC := fun _ _ z => zC _ _ (S9 _ _ z)
    refine ⟨_, rfl, ?_⟩
    refine ⟨_, rfl, Nat.le_of_ble_eq_true rfl, fun a9 n9 => ⟨a9, _, rfl, upd_same, fun d9 m9 t9 => ⟨rfl, ?_⟩⟩⟩
    obtain ⟨s9, y9, x9⟩ := mk_er (C := c8) (fs := [("number", v)]) n9 m9 t9
    generalize upd (upd (upd LC a9 (exo a9 c8 none)) d9 (exd d9 [("number", v)])) a9 (exo a9 c8 (some d9)) = H9 at s9 y9 x9 ⊢
    have e9 : IsEr H9 c8 a9 := .inr ⟨_, _, y9, x9⟩
    have S10 : Same H H9 := fun _ _ z => s9 _ _ (SLC _ _ z)
    refine ⟨a9, c8, d9, _, _, rfl, y9, x9, A.e8.e.xf, A.e8.e.no _ (by simp), rfl, ?_⟩
    refine ⟨_, rfl, Nat.le_of_ble_eq_true rfl, fun a10 n10 => ⟨a10, _, rfl, upd_same, fun d10 m10 t10 => ⟨rfl, ?_⟩⟩⟩
    obtain ⟨s10, y10, x10⟩ := mk_er (C := c10) (fs := [("part", v)]) n10 m10 t10
    generalize upd (upd (upd H9 a10 (exo a10 c10 none)) d10 (exd d10 [("part", v)])) a10 (exo a10 c10 (some d10)) = H10 at s10 y10 x10 ⊢
    have e10 : IsEr H10 c10 a10 := .inr ⟨_, _, y10, x10⟩
    have S11 : Same H H10 := fun _ _ z => s10 _ _ (S10 _ _ z)
    refine ⟨a10, c10, d10, _, _, rfl, y10, x10, A.e10.e.xf, A.e10.e.no _ (by simp), rfl, ?_⟩
    refine ⟨_, rfl, Nat.le_of_ble_eq_true rfl, fun a11 n11 => ⟨a11, _, rfl, upd_same, fun d11 m11 t11 => ⟨rfl, ?_⟩⟩⟩
    obtain ⟨s11, y11, x11⟩ := mk_er (C := c13) (fs := [("many", v)]) n11 m11 t11
    generalize upd (upd (upd H10 a11 (exo a11 c13 none)) d11 (exd d11 [("many", v)])) a11 (exo a11 c13 (some d11)) = H11 at s11 y11 x11 ⊢
    have e11 : IsEr H11 c13 a11 := .inr ⟨_, _, y11, x11⟩
    have S12 : Same H H11 := fun _ _ z => s11 _ _ (S11 _ _ z)
    refine ⟨a11, c13, d11, _, _, rfl, y11, x11, A.e13.e.xf, A.e13.e.no _ (by simp), rfl, ?_⟩
    refine ⟨_, rfl, Nat.le_of_ble_eq_true rfl, fun a12 n12 => ⟨a12, _, rfl, upd_same, fun d12 m12 t12 => ⟨rfl, ?_⟩⟩⟩
    obtain ⟨s12, y12, x12⟩ := mk_er (C := c15) (fs := [("many", v)]) n12 m12 t12
    generalize upd (upd (upd H11 a12 (exo a12 c15 none)) d12 (exd d12 [("many", v)])) a12 (exo a12 c15 (some d12)) = H12 at s12 y12 x12 ⊢
    have e12 : IsEr H12 c15 a12 := .inr ⟨_, _, y12, x12⟩
    have S13 : Same H H12 := fun _ _ z => s12 _ _ (S12 _ _ z)
    refine ⟨a12, c15, d12, _, _, rfl, y12, x12, A.e15.e.xf, A.e15.e.no _ (by simp), rfl, ?_⟩
    refine ⟨_, rfl, Nat.le_of_ble_eq_true rfl, fun a13 n13 => ⟨a13, _, rfl, upd_same, fun d13 m13 t13 => ⟨rfl, ?_⟩⟩⟩
    obtain ⟨s13, y13, x13⟩ := mk_er (C := c16) (fs := [("word", v)]) n13 m13 t13
    generalize upd (upd (upd H12 a13 (exo a13 c16 none)) d13 (exd d13 [("word", v)])) a13 (exo a13 c16 (some d13)) = H13 at s13 y13 x13 ⊢
    have e13 : IsEr H13 c16 a13 := .inr ⟨_, _, y13, x13⟩
    have S14 : Same H H13 := fun _ _ z => s13 _ _ (S13 _ _ z)
    refine ⟨a13, c16, d13, _, _, rfl, y13, x13, A.e16.e.xf, A.e16.e.no _ (by simp), rfl, ?_⟩
    refine ⟨by rw [sizeLine_eq]; simp, fun gD wD => ⟨pC, gD, _, _, rfl, rfl, same_new wD _ _ _ (s13 _ _ (s12 _ _ (s11 _ _ (s10 _ _ (s9 _ _ hC))))), upd_same, by rw [sizeLine_eq]; simp, fun pD qD => ?_⟩⟩
    have zD : Same H13 (upd (upd H13 gD (.lst [v, v, v, v, v])) pD (.lst ([v, v, v, v, v] ++ [v, v, v, v, v]))) := fun _ _ z => same_new qD _ _ _ (same_new wD _ _ _ z)
    have hD : (upd (upd H13 gD (.lst [v, v, v, v, v])) pD (.lst ([v, v, v, v, v] ++ [v, v, v, v, v]))) pD = some (.lst ([v, v, v, v, v] ++ [v, v, v, v, v])) := upd_same
    generalize upd (upd H13 gD (.lst [v, v, v, v, v])) pD (.lst ([v, v, v, v, v] ++ [v, v, v, v, v])) = LD at zD hD ⊢
    have SLD : Same H LD := fun _ _ z => zD _ _ (S14 _ _ z)
    refine ⟨_, rfl, ?_⟩
    refine ⟨_, rfl, Nat.le_of_ble_eq_true rfl, fun a14 n14 => ⟨a14, _, rfl, upd_same, fun d14 m14 t14 => ⟨rfl, ?_⟩⟩⟩
    obtain ⟨s14, y14, x14⟩ := mk_er (C := c17) (fs := [("number", v)]) n14 m14 t14
    generalize upd (upd (upd LD a14 (exo a14 c17 none)) d14 (exd d14 [("number", v)])) a14 (exo a14 c17 (some d14)) = H14 at s14 y14 x14 ⊢
    have e14 : IsEr H14 c17 a14 := .inr ⟨_, _, y14, x14⟩
    have S15 : Same H H14 := fun _ _ z => s14 _ _ (SLD _ _ z)
    refine ⟨a14, c17, d14, _, _, rfl, y14, x14, A.e17.e.xf, A.e17.e.no _ (by simp), rfl, ?_⟩
    refine ⟨_, rfl, Nat.le_of_ble_eq_true rfl, fun a15 n15 => ⟨a15, _, rfl, upd_same, fun d15 m15 t15 => ⟨rfl, ?_⟩⟩⟩
    obtain ⟨s15, y15, x15⟩ := mk_er (C := c18) (fs := [("name", v)]) n15 m15 t15
    generalize upd (upd (upd H14 a15 (exo a15 c18 none)) d15 (exd d15 [("name", v)])) a15 (exo a15 c18 (some d15)) = H15 at s15 y15 x15 ⊢
    have e15 : IsEr H15 c18 a15 := .inr ⟨_, _, y15, x15⟩
    have S16 : Same H H15 := fun _ _ z => s15 _ _ (S15 _ _ z)
    refine ⟨a15, c18, d15, _, _, rfl, y15, x15, A.e18.e.xf, A.e18.e.no _ (by simp), rfl, ?_⟩
    refine ⟨_, rfl, Nat.le_of_ble_eq_true rfl, fun a16 n16 => ⟨a16, _, rfl, upd_same, fun d16 m16 t16 => ⟨rfl, ?_⟩⟩⟩
    obtain ⟨s16, y16, x16⟩ := mk_er (C := c19) (fs := [("word", v)]) n16 m16 t16
    generalize upd (upd (upd H15 a16 (exo a16 c19 none)) d16 (exd d16 [("word", v)])) a16 (exo a16 c19 (some d16)) = H16 at s16 y16 x16 ⊢
    have e16 : IsEr H16 c19 a16 := .inr ⟨_, _, y16, x16⟩
    have S17 : Same H H16 := fun _ _ z => s16 _ _ (S16 _ _ z)
    refine ⟨a16, c19, d16, _, _, rfl, y16, x16, A.e19.e.xf, A.e19.e.no _ (by simp), rfl, ?_⟩
    refine ⟨_, rfl, Nat.le_of_ble_eq_true rfl, fun a17 n17 => ⟨a17, _, rfl, upd_same, fun d17 m17 t17 => ⟨rfl, ?_⟩⟩⟩
    obtain ⟨s17, y17, x17⟩ := mk_er (C := c20) (fs := [("part", v)]) n17 m17 t17
    generalize upd (upd (upd H16 a17 (exo a17 c20 none)) d17 (exd d17 [("part", v)])) a17 (exo a17 c20 (some d17)) = H17 at s17 y17 x17 ⊢
    have e17 : IsEr H17 c20 a17 := .inr ⟨_, _, y17, x17⟩
    have S18 : Same H H17 := fun _ _ z => s17 _ _ (S17 _ _ z)
    refine ⟨a17, c20, d17, _, _, rfl, y17, x17, A.e20.e.xf, A.e20.e.no _ (by simp), rfl, ?_⟩
    refine ⟨_, rfl, Nat.le_of_ble_eq_true rfl, fun a18 n18 => ⟨a18, _, rfl, upd_same, fun d18 m18 t18 => ⟨rfl, ?_⟩⟩⟩
    obtain ⟨s18, y18, x18⟩ := mk_er (C := c21) (fs := [("many", v)]) n18 m18 t18
    generalize upd (upd (upd H17 a18 (exo a18 c21 none)) d18 (exd d18 [("many", v)])) a18 (exo a18 c21 (some d18)) = H18 at s18 y18 x18 ⊢
    have e18 : IsEr H18 c21 a18 := .inr ⟨_, _, y18, x18⟩
    have S19 : Same H H18 := fun _ _ z => s18 _ _ (S18 _ _ z)
    refine ⟨a18, c21, d18, _, _, rfl, y18, x18, A.e21.e.xf, A.e21.e.no _ (by simp), rfl, ?_⟩
    refine ⟨by rw [sizeLine_eq]; simp, fun gE wE => ⟨pD, gE, _, _, rfl, rfl, same_new wE _ _ _ (s18 _ _ (s17 _ _ (s16 _ _ (s15 _ _ (s14 _ _ hD))))), upd_same, by rw [sizeLine_eq]; simp, fun pE qE => ?_⟩⟩
    have zE : Same H18 (upd (upd H18 gE (.lst [v, v, v, v, v])) pE (.lst (([v, v, v, v, v] ++ [v, v, v, v, v]) ++ [v, v, v, v, v]))) := fun _ _ z => same_new qE _ _ _ (same_new wE _ _ _ z)
    have hE : (upd (upd H18 gE (.lst [v, v, v, v, v])) pE (.lst (([v, v, v, v, v] ++ [v, v, v, v, v]) ++ [v, v, v, v, v]))) pE = some (.lst (([v, v, v, v, v] ++ [v, v, v, v, v]) ++ [v, v, v, v, v])) := upd_same
    generalize upd (upd H18 gE (.lst [v, v, v, v, v])) pE (.lst (([v, v, v, v, v] ++ [v, v, v, v, v]) ++ [v, v, v, v, v])) = LE at zE hE ⊢
    have SLE : Same H LE := fun _ _ z => zE _ _ (S19 _ _ z)
    have F15 := shB_of (sh15 d hv.mem)
    refine ⟨_, rfl, .ref pE, .list (List.replicate 15 d), rfl, .inl (by have X := (hv.same SLE).dp (K := K); exact Dp.lst (SqL.of hE) (.cons X (.cons X (.cons X (.cons X (.cons X (.cons X (.cons X (.cons X (.cons X (.cons X (.cons X (.cons X (.cons X (.cons X (.cons X .nil)))))))))))))))), F15.1, F15.2.1, F15.2.2, _, rfl, ?_⟩
    refine ⟨by rw [sizeLine_eq]; simp, fun pF qF => ?_⟩
    have zF := same_new qF (.lst [v])
    have hF : (upd LE pF (.lst [v])) pF = some (.lst [v]) := upd_same
    generalize upd LE pF (.lst [v]) = LF at zF hF ⊢
    have SLF : Same H LF := fun _ _ z => zF _ _ (SLE _ _ z)
    refine ⟨pF, 15, [v], rfl, rfl, hF, by decide, by decide, by rw [sizeLine_eq]; simp, fun pG qG => ?_⟩
    have zG := same_new qG (.lst (List.replicate (15 : Int).toNat [v]).flatten)
    have hG : (upd LF pG (.lst (List.replicate (15 : Int).toNat [v]).flatten)) pG = some (.lst (List.replicate (15 : Int).toNat [v]).flatten) := upd_same
    generalize upd LF pG (.lst (List.replicate (15 : Int).toNat [v]).flatten) = LG at zG hG ⊢
    have SLG : Same H LG := fun _ _ z => zG _ _ (SLF _ _ z)
    refine ⟨.ref pG, .list (List.replicate 15 d), rfl, .inl (by have X := (hv.same SLG).dp (K := K); exact Dp.lst (SqL.of hG) (.cons X (.cons X (.cons X (.cons X (.cons X (.cons X (.cons X (.cons X (.cons X (.cons X (.cons X (.cons X (.cons X (.cons X (.cons X .nil)))))))))))))))), F15.1, F15.2.1, F15.2.2, rfl, ?_⟩
    rw [show (decide (V.str (PyData.list (List.replicate 15 d)).shown = V.str (PyData.list (List.replicate 15 d)).shown)) = true by simp]
    exact q _ SLG
theorem scRaised : FnScope ["_law_one", "e"] ["_law_one"] (defScope sRaised) := ⟨rfl, rfl, rfl, by decide +kernel, rfl, by decide +kernel, by decide +kernel⟩
theorem ok_Raised {f : Addr} {fd : FuncData} (F : Fun K "_law_raised" "_law_raised" sRaised f fd) (A : AE P w K mg base k c0 c1 c2 c3 c4 c5 c6 c7 c8 c9 c10 c11 c12 c13 c14 c15 c16 c17 c18 c19 c20 c21 f0 f1 f2 f3 f4 f5 f6 f7 f8 f9 f10 f11 f12 f13 f14 f15 f16 f17 f18 f19 f20 f21) (nn : PySem.W.exmOne K (.ref c18) (.ref c18) = some true) (B : Blt mg) : FnOkG P w K mg base CX0 (k + 2) f fd ["_law_one"] spRaised := by
  refine okG F scRaised (fun vs H Q E h => ?_) (fun cdv A' outer s H vs Q E hr hgd h => ?_)
  · obtain ⟨v, d, rfl, _⟩ := h
    rfl
  · obtain ⟨v, d, rfl, hv, q⟩ := h
    have hu : (A'.deeper (envOfC "_law_raised" (defScope sRaised) s.heap.objs.size f cdv)).units + 80 < cLine := by have := hr.un; omega
    obtain ⟨fd18, G18, b18⟩ := A.e18.g
    refine ⟨_, pss_one (ps_try_clauses (tb := fun W => fun _ σ H => tMkO c18 (spE1 c18 "name") [] (tCons (tVar 0) tNil) σ H fun cls d H' => W cls d σ H')
        (Wout := fun _ _ _ _ => False) rfl rfl scRaised.nd takes0
        (fun W pn xe tk _ => pss_one (ps_raise rfl tk (pmk_exW nw_key A.e18.e.s.c A.e18.e.i A.e18.e.t G18 hr b18 .nil pass0 (by rfl) A.e18.e.g (by exact (pa_cons (pv 0) pa_nil)))))
        (ClausesOk.cons (ts := fun a cls d => tRet (tOp rEq (tCB (rRepr K) (tCons (tXf a cls d c18 "name" (tVar 1)) tNil)) (tCB (rRepr K) (tCons (tVar 0) tNil)))) (i := 1) rfl rfl ⟨rfl, by decide, .inl A.e18.e.g⟩ (fun a oe cls d pn hz hf => by exact (pss_one (ps_ret (pe_cmpR op_eq (pe_callB (call_reprD hgd hu) (by rfl) B.repr_ (by decide +kernel) (pa_cons (pe_xf A.e18.e.xf (A.e18.e.no _ (by simp)) hz hf (pv 1)) pa_nil)) (pe_callB (call_reprD hgd hu) (by rfl) B.repr_ (by decide +kernel) (pa_cons (pv 0) pa_nil)) (nomark _))))) ClausesOk.nil)), ?_⟩
    refine ⟨_, rfl, Nat.le_of_ble_eq_true rfl, fun a n => ⟨a, v, rfl, upd_same, fun dx hd0 hne => ⟨rfl, dx, _, upd_same, by rw [upd_ne hne, upd_same], (by rw [upd_ne hne] at hd0; exact hd0), ?_⟩⟩⟩
    have hdx : H dx = none := by rw [upd_ne hne] at hd0; exact hd0
    rw [heap_out n hne]
    have s1 := same_new hdx (.xd [("name", v)])
    have h1 : (upd H dx (.xd [("name", v)])) dx = some (.xd [("name", v)]) := upd_same
    generalize upd H dx (.xd [("name", v)]) = H1 at s1 h1 ⊢
    have F1 := shB_of (sh1 d hv.mem)
    refine ⟨true, nn, fun _ a0 _ => ?_, fun z => Bool.noConfusion z⟩
    refine ⟨_, rfl, rfl, rfl, dx, _, v, rfl, h1, rfl, v, d, rfl, .inl (hv.same s1).dp, F1.1, F1.2.1, F1.2.2, _, rfl, v, d, rfl, .inl (hv.same s1).dp, F1.1, F1.2.1, F1.2.2, rfl, ?_⟩
    rw [show (decide (V.str d.shown = V.str d.shown)) = true by simp]
    exact q _ s1
end
end K4

set_option Elab.async false
set_option linter.all false
set_option maxRecDepth 100000
set_option maxHeartbeats 32000000
namespace K4
open PySem PySem.Spec PyProof.Rows L2 BX EXB Co Ru
open Dz
open Rs (Rsp Rv Ret tYes_of dV datR Flat Okr spShares spRowsL spTotal spCopied eqv_dR)
open Fr (Bd)
def spLaw (K : PySem.W.Frag) : Sp := fun vs H Q _ => ∃ (a : Addr) (ns : List Int), vs = [.ref a] ∧ SqL K H a (ns.map V.int) ∧ ns.length ≤ 63 ∧ ∀ H', Q (.bl true) H'
def dues : List V := (List.replicate (13 : Int).toNat [V.str "value"]).flatten ++ [V.str "sums", V.str "nought", V.str "many", V.str "index", V.str "index", V.str "key", V.str "look", V.str "look", V.str "run"]
theorem bools_at {cs : List Addr} {i : Nat} {D : Addr} (nd : cs.Nodup) (h : cs[i]? = some D) : boolsOf cs D = (List.range cs.length).map fun j => V.bl (decide (j = i)) := by
  obtain ⟨hi, rfl⟩ := List.getElem?_eq_some_iff.mp h
  refine List.ext_getElem (by simp [boolsOf]) fun j h1 h2 => ?_
  have hj : j < cs.length := by simpa [boolsOf] using h1
  simp only [boolsOf, List.getElem_map, List.getElem_range]
  congr 1
  by_cases e : j = i
  · subst e
    simp
  · have ne : ¬ cs[i] = cs[j] := fun z => e ((List.getElem_inj nd).mp z).symm
    rw [decide_eq_false e]
    simp [ne]
def kl (i : Nat) : List V := (List.range 22).map fun j => V.bl (decide (j = i))
def kd (i : Nat) : PyData := .list ((List.range 22).map fun j => PyData.bool (decide (j = i)))
theorem kd_ok : ∀ i : Fin 22, SeqAt.shaped (kd i.val) = true ∧ PyData.eqv (kd i.val) (kd i.val) = true := by decide +kernel
theorem dp_bools {K : PySem.W.Frag} {H : Hp} {f : Nat → Bool} : ∀ l : List Nat, DpAll K H (l.map fun j => V.bl (f j)) (l.map fun j => PyData.bool (f j))
  | [] => .nil
  | _ :: r => .cons (.bl _) (dp_bools r)
theorem kl_dp {K : PySem.W.Frag} {H : Hp} {p : Addr} {i : Nat} (h : H p = some (.lst (kl i))) : Dp K H (.ref p) (kd i) := .lst (SqL.of h) (dp_bools _)
theorem Ers.len {H : Hp} {cs : List Addr} {vs : List V} (h : Ers H cs vs) : vs.length = cs.length := by
  induction h with
  | nil => rfl
  | cons _ _ ih => rw [List.length_cons, List.length_cons, ih]
theorem Ers.at {H : Hp} {cs : List Addr} {vs : List V} (h : Ers H cs vs) : ∀ {i : Nat} {v : V}, vs[i]? = some v → ∃ C a, v = .ref a ∧ cs[i]? = some C ∧ IsEr H C a := by
  induction h with
  | nil => intro i v e; simp at e
  | cons h _ ih =>
    intro i v e
    cases i with
    | zero => cases (Option.some.inj e); exact ⟨_, _, rfl, rfl, h⟩
    | succ i => exact ih e
theorem same_over {H0 H1 : Hp} {l : Addr} {o : HO} (h : H0 l = none) (s : Same H0 H1) : Same H0 (upd H1 l o) := fun b u e => by rw [upd_ne (ne_of_none e h)]; exact s _ _ e
def things (pl pt : Addr) : List V := [V.int 0, V.int 7, V.int (-1), V.non, V.bl true, V.str "x", V.ref pl, V.ref pt, V.int (10 ^ (20 : Int).toNat)]
structure Inv4 (PD PT pl pt L : Addr) (xs : List V) (H : Hp) : Prop where
  d : H PD = some (.lst dues)
  t : H PT = some (.lst (things pl pt))
  l : H pl = some (.lst [.int 1])
  p : H pt = some (.tup [.int 1, .int 2])
  x : H L = some (.lst xs)
theorem Inv4.same {PD PT pl pt L : Addr} {xs : List V} {H H' : Hp} (h : Inv4 PD PT pl pt L xs H) (s : Same H H') : Inv4 PD PT pl pt L xs H' := ⟨s _ _ h.d, s _ _ h.t, s _ _ h.l, s _ _ h.p, s _ _ h.x⟩
theorem thing_at {H : Hp} {pl pt : Addr} {d : Int} (hl : H pl = some (.lst [.int 1])) (ht : H pt = some (.tup [.int 1, .int 2])) (h0 : 0 ≤ d) (h9 : d < 9) : ∃ v dd, atI (things pl pt) d = some v ∧ Th H v dd := by
  have dd : d = 0 ∨ d = 1 ∨ d = 2 ∨ d = 3 ∨ d = 4 ∨ d = 5 ∨ d = 6 ∨ d = 7 ∨ d = 8 := by omega
  rcases dd with rfl | rfl | rfl | rfl | rfl | rfl | rfl | rfl | rfl
  · exact ⟨_, _, atI_nat (j := 0) rfl, .int (by simp)⟩
  · exact ⟨_, _, atI_nat (j := 1) rfl, .int (by simp)⟩
  · exact ⟨_, _, atI_nat (j := 2) rfl, .int (by simp)⟩
  · exact ⟨_, _, atI_nat (j := 3) rfl, .non⟩
  · exact ⟨_, _, atI_nat (j := 4) rfl, .tru⟩
  · exact ⟨_, _, atI_nat (j := 5) rfl, .str⟩
  · exact ⟨_, _, atI_nat (j := 6) rfl, .lst hl⟩
  · exact ⟨_, _, atI_nat (j := 7) rfl, .tup ht⟩
  · exact ⟨_, _, atI_nat (j := 8) rfl, .int (by decide)⟩
section
variable {P : Program} {w : World} {K : PySem.W.Frag} {mg : Str → Option Value} {base : Heap}
theorem scLeft : FnScope ["_law_cell", "_law_left_here", "_law_number", "_law_turn"] ["_law_cell"] (defScope sLeft) := ⟨rfl, rfl, rfl, by decide +kernel, rfl, by decide +kernel, by decide +kernel⟩
theorem ok_left {f : Addr} {fd : FuncData} {k : Nat} (F : Fun K "_law_left" "_law_left" sLeft f fd) (B : Blt mg) : FnOk P w K mg base CX0 (k + 1) f fd ["_law_cell"] spLeft := by
  refine F.ok scLeft (fun vs H Q E h => ?_) (fun cdv A outer s H vs Q E hr h => ?_)
  · obtain ⟨c, rfl, _⟩ := h
    rfl
  · obtain ⟨c, rfl, q⟩ := h
    refine ⟨_, pss_cons (ps_set (i := 1) scLeft.nd rfl (.inl rfl) (pe_callB call_abs (by rfl) B.abs_ (by decide +kernel) (pa_cons (pv 0) pa_nil)))
      (pss_cons (ps_if (pt_cmpR op_lt (pv 1) (pe_op op_pow pe_int pe_int) (nomark _))
        (pss_cons (ps_set (i := 2) scLeft.nd rfl (.inl rfl) (pv 0))
        (pss_one (ps_for PassesOwn.never rfl (pi_range1 (by rfl) B.range_ (pa_cons pe_int pa_nil)) (pg_name (i := 3) scLeft.nd rfl (.inl rfl))
          (pss_cons (ps_set (i := 2) scLeft.nd rfl (.inl rfl) (pe_op op_mod (pe_op op_mul (pe_op op_add (pe_op op_mod (pv 2) pe_int) pe_int) pe_int) pe_int))
          (pss_cons (ps_set (i := 2) scLeft.nd rfl (.inl rfl) (pe_op op_add (pe_op op_mod (pe_op op_mul (pv 2) pe_int) pe_int) (pv 3)))
          (pss_one (ps_set (i := 1) scLeft.nd rfl (.inl rfl) (pe_op op_add (pe_op op_mul (pv 1) pe_int) (pv 2)))))))))
        pss_nil)
      (pss_one (ps_ret (pe_lst (pa_cons (pv 1) pa_nil))))), ?_⟩
    refine ⟨_, rfl, c, rfl, ?_⟩
    refine ⟨_, rfl, 10, 18, rfl, rfl, ⟨by decide, by decide, by decide⟩, _, _, rfl, rfl, _, rfl, ite2 (fun z => ?_) (fun z => ?_)⟩
    · refine ⟨_, rfl, 40, rfl, by decide, by decide, for_range (lo := 0) (n := 40) (fun i σ H' => ∃ (n m : Int) (y : Option V), σ = [some (.int c), some (.int n), some (.int m), y] ∧ H' = H) ⟨_, _, none, rfl, rfl⟩ ?_ ?_⟩
      · rintro i σ H' hi ⟨n, m, y, rfl, rfl⟩
        refine ⟨_, rfl, _, _, rfl, rfl, (by show (0 : Int) < 2147483629; decide), _, _, rfl, rfl, _, _, rfl, rfl, .inr ⟨by decide, by decide⟩, _, _, rfl, rfl, (by show (0 : Int) < 2147483629; decide), ?_⟩
        refine ⟨_, rfl, _, _, rfl, rfl, .inr ⟨by decide, by decide⟩, _, _, rfl, rfl, (by show (0 : Int) < 2147483647; decide), _, rfl, _, _, rfl, rfl, ?_⟩
        refine ⟨_, rfl, _, _, rfl, rfl, .inr ⟨by decide, by decide⟩, _, rfl, _, _, rfl, rfl, ?_⟩
        exact ⟨_, _, _, rfl, rfl⟩
      · rintro σ H' ⟨n, m, y, rfl, rfl⟩
        exact ⟨_, rfl, (by show 1 ≤ sizeLine; decide), fun p hp => q p n hp⟩
    · exact ⟨_, rfl, (by show 1 ≤ sizeLine; decide), fun p hp => q p _ hp⟩
theorem scDigit : FnScope ["_law_left_here", "_law_many", "_law_found"] ["_law_left_here", "_law_many"] (defScope sDigit) := ⟨rfl, rfl, rfl, by decide +kernel, rfl, by decide +kernel, by decide +kernel⟩
theorem ok_digit {f : Addr} {fd : FuncData} {k : Nat} (F : Fun K "_law_digit" "_law_digit" sDigit f fd) : FnOk P w K mg base CX0 (k + 1) f fd ["_law_left_here", "_law_many"] spDigit := by
  refine F.ok scDigit (fun vs H Q E h => ?_) (fun cdv A outer s H vs Q E hr h => ?_)
  · obtain ⟨l, n, m, rfl, _⟩ := h
    rfl
  · obtain ⟨l, n, m, rfl, hl, hm, hmb, q⟩ := h
    refine ⟨_, pss_cons (ps_set (i := 2) scDigit.nd rfl (.inl rfl) (pe_op op_mod (pe_ix ix_list (pv 0) pe_int (fun _ _ => rfl)) (pv 1)))
      (pss_cons (ps_asg (pe_op op_fdivW (pe_ix ix_list (pv 0) pe_int (fun _ _ => rfl)) (pv 1)) (pg_sub (pv 0) pe_int set_list))
      (pss_one (ps_ret (pv 2)))), ?_⟩
    refine ⟨_, rfl, l, _, 0, .int n, rfl, rfl, SqL.of hl, atI_nat (j := 0) rfl, _, rfl, _, _, rfl, rfl, hm, ?_⟩
    refine ⟨_, rfl, l, _, 0, .int n, rfl, rfl, SqL.of hl, atI_nat (j := 0) rfl, _, rfl, _, _, rfl, rfl, wide_div hm hmb (by decide) (by decide), ?_⟩
    refine ⟨_, rfl, l, _, 0, 0, rfl, rfl, hl, rfl, ?_⟩
    exact ⟨_, rfl, q _ _ (Int.emod_nonneg _ (by omega)) (Int.emod_lt_of_pos _ hm)⟩
end
section
variable {P : Program} {w : World} {K : PySem.W.Frag} {mg : Str → Option Value} {base : Heap} {c0 c1 c2 c3 c4 c5 c6 c7 c8 c9 c10 c11 c12 c13 c14 c15 c16 c17 c18 c19 c20 c21 f0 f1 f2 f3 f4 f5 f6 f7 f8 f9 f10 f11 f12 f13 f14 f15 f16 f17 f18 f19 f20 f21 : Addr} {k : Nat}
theorem kind_at (A : AE P w K mg base k c0 c1 c2 c3 c4 c5 c6 c7 c8 c9 c10 c11 c12 c13 c14 c15 c16 c17 c18 c19 c20 c21 f0 f1 f2 f3 f4 f5 f6 f7 f8 f9 f10 f11 f12 f13 f14 f15 f16 f17 f18 f19 f20 f21) : ∀ {i : Nat} {C : Addr}, [c0, c1, c2, c3, c4, c5, c6, c7, c8, c9, c10, c11, c12, c13, c14, c15, c16, c17, c18, c19, c20, c21][i]? = some C → ∃ n bm, ExcC K C ∧ ExC K C n bm ∧ onlyT bm = true ∧ dues[i]? = some (.str (aboveT bm))
  | 0, _, h => by cases (Option.some.inj h); exact ⟨_, _, A.e0.e.ex, A.e0.e.s.c, by decide +kernel, by decide +kernel⟩
  | 1, _, h => by cases (Option.some.inj h); exact ⟨_, _, A.e1.e.ex, A.e1.e.s.c, by decide +kernel, by decide +kernel⟩
  | 2, _, h => by cases (Option.some.inj h); exact ⟨_, _, A.e2.e.ex, A.e2.e.s.c, by decide +kernel, by decide +kernel⟩
  | 3, _, h => by cases (Option.some.inj h); exact ⟨_, _, A.e3.e.ex, A.e3.e.s.c, by decide +kernel, by decide +kernel⟩
  | 4, _, h => by cases (Option.some.inj h); exact ⟨_, _, A.e4.e.ex, A.e4.e.s.c, by decide +kernel, by decide +kernel⟩
  | 5, _, h => by cases (Option.some.inj h); exact ⟨_, _, A.e5.e.ex, A.e5.e.s.c, by decide +kernel, by decide +kernel⟩
  | 6, _, h => by cases (Option.some.inj h); exact ⟨_, _, A.e6.e.ex, A.e6.e.s.c, by decide +kernel, by decide +kernel⟩
  | 7, _, h => by cases (Option.some.inj h); exact ⟨_, _, A.e7.e.ex, A.e7.e.s.c, by decide +kernel, by decide +kernel⟩
  | 8, _, h => by cases (Option.some.inj h); exact ⟨_, _, A.e8.e.ex, A.e8.e.s.c, by decide +kernel, by decide +kernel⟩
  | 9, _, h => by cases (Option.some.inj h); exact ⟨_, _, A.e9.e.ex, A.e9.e.s.c, by decide +kernel, by decide +kernel⟩
  | 10, _, h => by cases (Option.some.inj h); exact ⟨_, _, A.e10.e.ex, A.e10.e.s.c, by decide +kernel, by decide +kernel⟩
  | 11, _, h => by cases (Option.some.inj h); exact ⟨_, _, A.e11.e.ex, A.e11.e.s.c, by decide +kernel, by decide +kernel⟩
  | 12, _, h => by cases (Option.some.inj h); exact ⟨_, _, A.e12.e.ex, A.e12.e.s.c, by decide +kernel, by decide +kernel⟩
  | 13, _, h => by cases (Option.some.inj h); exact ⟨_, _, A.e13.e.ex, A.e13.e.s.c, by decide +kernel, by decide +kernel⟩
  | 14, _, h => by cases (Option.some.inj h); exact ⟨_, _, A.e14.e.ex, A.e14.e.s.c, by decide +kernel, by decide +kernel⟩
  | 15, _, h => by cases (Option.some.inj h); exact ⟨_, _, A.e15.e.ex, A.e15.e.s.c, by decide +kernel, by decide +kernel⟩
  | 16, _, h => by cases (Option.some.inj h); exact ⟨_, _, A.e16.e.ex, A.e16.e.s.c, by decide +kernel, by decide +kernel⟩
  | 17, _, h => by cases (Option.some.inj h); exact ⟨_, _, A.e17.e.ex, A.e17.e.s.c, by decide +kernel, by decide +kernel⟩
  | 18, _, h => by cases (Option.some.inj h); exact ⟨_, _, A.e18.e.ex, A.e18.e.s.c, by decide +kernel, by decide +kernel⟩
  | 19, _, h => by cases (Option.some.inj h); exact ⟨_, _, A.e19.e.ex, A.e19.e.s.c, by decide +kernel, by decide +kernel⟩
  | 20, _, h => by cases (Option.some.inj h); exact ⟨_, _, A.e20.e.ex, A.e20.e.s.c, by decide +kernel, by decide +kernel⟩
  | 21, _, h => by cases (Option.some.inj h); exact ⟨_, _, A.e21.e.ex, A.e21.e.s.c, by decide +kernel, by decide +kernel⟩
  | _ + 22, _, h => by simp at h
structure Defs (P : Program) (w : World) (K : PySem.W.Frag) (mg : Str → Option Value) (base : Heap) (k : Nat) (c0 c1 c2 c3 c4 c5 c6 c7 c8 c9 c10 c11 c12 c13 c14 c15 c16 c17 c18 c19 c20 c21 : Addr) : Prop where
  left : ∃ f fd, FnOk P w K mg base CX0 k f fd ["_law_cell"] spLeft ∧ PySem.W.keepIn K (.ref f) = true ∧ Binds K fd ["_law_cell"] [] ∧ mg "_law_left" = some (.ref f)
  dig : ∃ f fd, FnOk P w K mg base CX0 k f fd ["_law_left_here", "_law_many"] spDigit ∧ PySem.W.keepIn K (.ref f) = true ∧ Binds K fd ["_law_left_here", "_law_many"] [] ∧ mg "_law_digit" = some (.ref f)
  all : ∃ f fd, FnOk P w K mg base CX0 k f fd ["_law_one", "_law_other"] (spAll [c0, c1, c2, c3, c4, c5, c6, c7, c8, c9, c10, c11, c12, c13, c14, c15, c16, c17, c18, c19]) ∧ PySem.W.keepIn K (.ref f) = true ∧ Binds K fd ["_law_one", "_law_other"] [] ∧ mg "_law_all" = some (.ref f)
  kinds : ∃ f fd, FnOk P w K mg base CX0 k f fd ["_law_error"] (spKinds K [c0, c1, c2, c3, c4, c5, c6, c7, c8, c9, c10, c11, c12, c13, c14, c15, c16, c17, c18, c19, c20, c21]) ∧ PySem.W.keepIn K (.ref f) = true ∧ Binds K fd ["_law_error"] [] ∧ mg "_law_kinds" = some (.ref f)
  above : ∃ f fd, FnOk P w K mg base CX0 k f fd ["_law_error"] (spAbove K) ∧ PySem.W.keepIn K (.ref f) = true ∧ Binds K fd ["_law_error"] [] ∧ mg "_law_above" = some (.ref f)
  fields : ∃ f fd, FnOkG P w K mg base CX0 k f fd ["_law_one", "_law_other"] spFields ∧ PySem.W.keepIn K (.ref f) = true ∧ Binds K fd ["_law_one", "_law_other"] [] ∧ mg "_law_fields" = some (.ref f)
  raised : ∃ f fd, FnOkG P w K mg base CX0 k f fd ["_law_one"] spRaised ∧ PySem.W.keepIn K (.ref f) = true ∧ Binds K fd ["_law_one"] [] ∧ mg "_law_raised" = some (.ref f)
theorem scLaw : FnScope ["_law_script", "_law_due", "_law_things", "_law_cell", "_law_left_here", "_law_one", "_law_other", "_law_number", "_law_error", "_law_k"] ["_law_script"] (defScope sLaw) := ⟨rfl, rfl, rfl, by decide +kernel, rfl, by decide +kernel, by decide +kernel⟩
theorem ok_law {f : Addr} {fd : FuncData} (F : Fun K "law" "law" sLaw f fd) (A : AE P w K mg base k c0 c1 c2 c3 c4 c5 c6 c7 c8 c9 c10 c11 c12 c13 c14 c15 c16 c17 c18 c19 c20 c21 f0 f1 f2 f3 f4 f5 f6 f7 f8 f9 f10 f11 f12 f13 f14 f15 f16 f17 f18 f19 f20 f21) (nd : [c0, c1, c2, c3, c4, c5, c6, c7, c8, c9, c10, c11, c12, c13, c14, c15, c16, c17, c18, c19, c20, c21].Nodup) (D : Defs P w K mg base k c0 c1 c2 c3 c4 c5 c6 c7 c8 c9 c10 c11 c12 c13 c14 c15 c16 c17 c18 c19 c20 c21) (B : Blt mg) : FnOkG P w K mg base CX0 (k + 2) f fd ["_law_script"] (spLaw K) := by
  obtain ⟨fd20, G20, b20⟩ := A.e20.g
  obtain ⟨fd21, G21, b21⟩ := A.e21.g
  obtain ⟨f_left, fd_left, G_left, k_left, b_left, g_left⟩ := D.left
  obtain ⟨f_dig, fd_dig, G_dig, k_dig, b_dig, g_dig⟩ := D.dig
  obtain ⟨f_all, fd_all, G_all, k_all, b_all, g_all⟩ := D.all
  obtain ⟨f_kinds, fd_kinds, G_kinds, k_kinds, b_kinds, g_kinds⟩ := D.kinds
  obtain ⟨f_above, fd_above, G_above, k_above, b_above, g_above⟩ := D.above
  obtain ⟨f_fields, fd_fields, G_fields, k_fields, b_fields, g_fields⟩ := D.fields
  obtain ⟨f_raised, fd_raised, G_raised, k_raised, b_raised, g_raised⟩ := D.raised
  refine okG F scLaw (fun vs H Q E h => ?_) (fun cdv A' outer s H vs Q E hr hgd h => ?_)
  · obtain ⟨a, ns, rfl, _⟩ := h
    rfl
  · obtain ⟨a, ns, rfl, hS, hlen, q⟩ := h
    have hk : Room k _ := hr.mono (by omega)
    refine ⟨_, (pss_cons (ps_set (i := 1) scLaw.nd rfl (.inl rfl) (pe_op op_cat (pe_op op_rep (pe_lst (pa_cons pe_str pa_nil)) pe_int) (pe_lst (pa_cons pe_str (pa_cons pe_str (pa_cons pe_str (pa_cons pe_str (pa_cons pe_str (pa_cons pe_str (pa_cons pe_str (pa_cons pe_str (pa_cons pe_str pa_nil))))))))))))
      (pss_cons (ps_set (i := 2) scLaw.nd rfl (.inl rfl) (pe_lst (pa_cons pe_int (pa_cons pe_int (pa_cons (pe_un un_neg pe_int) (pa_cons pe_non (pa_cons pe_bl (pa_cons pe_str (pa_cons (pe_lst (pa_cons pe_int pa_nil)) (pa_cons (pe_tup (pa_cons pe_int (pa_cons pe_int pa_nil))) (pa_cons (pe_op op_pow pe_int pe_int) pa_nil)))))))))))
      (pss_cons (ps_for PassesOwn.never rfl (pi_list (pe_op op_cat (pe_slice sl_list (pv 0) po_none (po_some pe_int)) (pe_lst (pa_cons pe_int pa_nil)))) (pg_name (i := 3) scLaw.nd rfl (.inl rfl)) (pss_cons (ps_set (i := 4) scLaw.nd rfl (.inl rfl) (pe_call G_left hk (by rfl) g_left k_left b_left .nil pass0 (pa_cons (pv 3) pa_nil)))
      (pss_cons (ps_set (i := 5) scLaw.nd rfl (.inl rfl) (pe_ix ix_list (pv 2) (pe_call G_dig hk (by rfl) g_dig k_dig b_dig .nil pass0 (pa_cons (pv 4) (pa_cons pe_int pa_nil))) (fun _ _ => rfl)))
      (pss_cons (ps_set (i := 6) scLaw.nd rfl (.inl rfl) (pe_ix ix_list (pv 2) (pe_call G_dig hk (by rfl) g_dig k_dig b_dig .nil pass0 (pa_cons (pv 4) (pa_cons pe_int pa_nil))) (fun _ _ => rfl)))
      (pss_cons (ps_for PassesOwn.never rfl (pi_enum (by rfl) B.enumerate_ (pa_cons (pe_op op_cat (pe_call G_all hk (by rfl) g_all k_all b_all .nil pass0 (pa_cons (pv 5) (pa_cons (pv 6) pa_nil))) (pe_lst (pa_cons (pe_mkE (NwF.of PySem.F.excBase_LookupError) A.e20.e.s.c A.e20.e.i A.e20.e.t G20 hr b20 (by rfl) A.e20.e.g (pa_cons (pv 5) pa_nil)) (pa_cons (pe_mkE (NwF.of PySem.F.excBase_RuntimeError) A.e21.e.s.c A.e21.e.i A.e21.e.t G21 hr b21 (by rfl) A.e21.e.g (pa_cons (pv 5) pa_nil)) pa_nil)))) pa_nil)) (pg_tup rfl (pgs_cons (pg_name (i := 7) scLaw.nd rfl (.inr rfl)) (pgs_cons (pg_name (i := 8) scLaw.nd rfl (.inl rfl)) pgs_nil))) (pss_one (ps_if (PW.pt (pw_or (pt_cmpR (op_neD hk.units) (pe_call G_kinds hk (by rfl) g_kinds k_kinds b_kinds .nil pass0 (pa_cons (pv 8) pa_nil)) (pe_lc (own := [("_law_k", 9)]) (g := gName 9) (tt := tYes) (te := (tOp rEq (tVar 9) (tVar 7))) rfl scLaw.nd (pi_range1 (by rfl) B.range_ (pa_cons pe_int pa_nil)) (blkOk_by (N := ["_law_script", "_law_due", "_law_things", "_law_cell", "_law_left_here", "_law_one", "_law_other", "_law_number", "_law_error", "_law_k"]) (sc := defScope sLaw) (by decide +kernel)) (fun _ _ _ _ _ => (pg_name (i := 9) scLaw.nd rfl (Or.inl rfl))) (fun _ _ _ _ _ => pts_nil) (fun _ _ _ _ _ => (pe_cmpR op_eq (pv 9) (pv 7) (nomark _)))) (nomark _)) (pw_or1 (pt_cmpR op_ne (pe_call G_above hk (by rfl) g_above k_above b_above .nil pass0 (pa_cons (pv 8) pa_nil)) (pe_ix ix_list (pv 1) (pv 7) (fun _ _ => rfl)) (nomark _))))) (pss_one (ps_ret pe_bl)) pss_nil)))
      (pss_one (ps_if (PW.pt (pw_or (pt_not (pt_val (pe_callG G_fields hk hgd (by rfl) g_fields k_fields b_fields .nil pass0 (pa_cons (pv 5) (pa_cons (pv 6) pa_nil))))) (pw_or1 (pt_not (pt_val (pe_callG G_raised hk hgd (by rfl) g_raised k_raised b_raised .nil pass0 (pa_cons (pv 5) pa_nil))))))) (pss_one (ps_ret pe_bl)) pss_nil)))))))
      (pss_one (ps_ret pe_bl))))), ?_⟩
    -- due
    refine ⟨(by show 1 ≤ sizeLine; decide), fun p1 n1 => ⟨p1, 13, _, rfl, rfl, upd_same, by decide, by decide, (by show 1 * (13 : Int).toNat ≤ sizeLine; decide), fun p2 n2 => ⟨(by show 9 ≤ sizeLine; decide), fun p3 n3 => ⟨p2, p3, _, _, rfl, rfl, same_new n3 _ _ _ upd_same, upd_same, (by decide), fun PD nD => ?_⟩⟩⟩⟩
    have t1 := ((same_new n1 (.lst [V.str "value"])).trans (same_new n2 (.lst (List.replicate (13 : Int).toNat [V.str "value"]).flatten))).trans ((same_new n3 (.lst [V.str "sums", V.str "nought", V.str "many", V.str "index", V.str "index", V.str "key", V.str "look", V.str "look", V.str "run"])).trans (same_new nD (.lst ((List.replicate (13 : Int).toNat [V.str "value"]).flatten ++ [V.str "sums", V.str "nought", V.str "many", V.str "index", V.str "index", V.str "key", V.str "look", V.str "look", V.str "run"]))))
    have hD : (upd (upd (upd (upd H p1 (.lst [V.str "value"])) p2 (.lst (List.replicate (13 : Int).toNat [V.str "value"]).flatten)) p3 (.lst [V.str "sums", V.str "nought", V.str "many", V.str "index", V.str "index", V.str "key", V.str "look", V.str "look", V.str "run"])) PD (.lst ((List.replicate (13 : Int).toNat [V.str "value"]).flatten ++ [V.str "sums", V.str "nought", V.str "many", V.str "index", V.str "index", V.str "key", V.str "look", V.str "look", V.str "run"]))) PD = some (.lst dues) := upd_same
    generalize upd (upd (upd (upd H p1 (.lst [V.str "value"])) p2 (.lst (List.replicate (13 : Int).toNat [V.str "value"]).flatten)) p3 (.lst [V.str "sums", V.str "nought", V.str "many", V.str "index", V.str "index", V.str "key", V.str "look", V.str "look", V.str "run"])) PD (.lst ((List.replicate (13 : Int).toNat [V.str "value"]).flatten ++ [V.str "sums", V.str "nought", V.str "many", V.str "index", V.str "index", V.str "key", V.str "look", V.str "look", V.str "run"])) = Ha at t1 hD ⊢
    -- things
    refine ⟨1, rfl, (by show 1 ≤ sizeLine; decide), fun pl nl => ⟨(by show 2 ≤ sizeLine; decide), fun pt nt => ⟨10, 20, rfl, rfl, ⟨by decide, by decide, by decide⟩, ?_⟩⟩⟩
    refine ⟨(by show 9 ≤ sizeLine; decide), fun PT nT => ?_⟩
    have t2 := (same_new nl (.lst [V.int 1])).trans ((same_new nt (.tup [V.int 1, V.int 2])).trans (same_new nT (.lst (things pl pt))))
    have hT : (upd (upd (upd Ha pl (.lst [V.int 1])) pt (.tup [V.int 1, V.int 2])) PT (.lst (things pl pt))) PT = some (.lst (things pl pt)) := upd_same
    have hpl : (upd (upd (upd Ha pl (.lst [V.int 1])) pt (.tup [V.int 1, V.int 2])) PT (.lst (things pl pt))) pl = some (.lst [V.int 1]) := ((same_new nt (.tup [V.int 1, V.int 2])).trans (same_new nT (.lst (things pl pt)))) _ _ upd_same
    have hpt : (upd (upd (upd Ha pl (.lst [V.int 1])) pt (.tup [V.int 1, V.int 2])) PT (.lst (things pl pt))) pt = some (.tup [V.int 1, V.int 2]) := same_new nT _ _ _ upd_same
    have t3 := t1.trans t2
    replace hD := t2 _ _ hD
    refine ⟨.ref a, rfl, 6, rfl, a, ns.map V.int, rfl, t3.seq hS, fun p8 n8 => ?_⟩
    refine ⟨(by show 1 ≤ sizeLine; decide), fun p9 n9 => ?_⟩
    refine ⟨p8, p9, _, _, rfl, rfl, same_new n9 _ _ _ upd_same, upd_same, ?_, fun L nL => ?_⟩
    · have h1 := cutV_length (ns.map V.int) none (some 6)
      rw [List.length_map] at h1
      rw [List.length_singleton]
      exact Nat.le_of_lt (small1000 (by omega))
    refine ⟨L, rfl, ⟨_, SqL.of upd_same⟩, for_list (K := K) (a := L) (xs := cutV (ns.map V.int) none (some 6) ++ [V.int 2]) (fun i σ H' => ∃ y3 y4 y5 y6 y7 y8 y9 : Option V, σ = [some (.ref a), some (.ref PD), some (.ref PT), y3, y4, y5, y6, y7, y8, y9] ∧ Inv4 PD PT pl pt L (cutV (ns.map V.int) none (some 6) ++ [V.int 2]) H')
      ⟨_, _, _, _, _, _, _, rfl, same_new nL _ _ _ (same_new n9 _ _ _ (same_new n8 _ _ _ hD)), same_new nL _ _ _ (same_new n9 _ _ _ (same_new n8 _ _ _ hT)), same_new nL _ _ _ (same_new n9 _ _ _ (same_new n8 _ _ _ hpl)), same_new nL _ _ _ (same_new n9 _ _ _ (same_new n8 _ _ _ hpt)), upd_same⟩ (fun i σ H' _ ⟨_, _, _, _, _, _, _, _, e⟩ => SqL.of e.x) ?_ ?_⟩
    rotate_left
    · rintro σ H1 ⟨y3, y4, y5, y6, y7, y8, y9, rfl, _⟩
      exact q _
    clear hD hT hpl hpt t1 t2 t3 n1 n2 n3 nD nl nt nT n8 n9 nL hS
    rintro i xx σ H0 hi ⟨y3, y4, y5, y6, y7, y8, y9, rfl, I0⟩
    obtain ⟨c, rfl⟩ := int_of hi
    clear hi
    generalize cutV (ns.map V.int) none (some 6) ++ [V.int 2] = xs at I0 ⊢
    refine ⟨_, rfl, c, rfl, fun l n nl => ?_⟩
    refine ⟨_, rfl, _, rfl, l, n, 9, rfl, upd_same, by decide, by decide, fun d1 z1 a0 a9 => ?_⟩
    have s1 : Same H0 (upd (upd H0 l (.lst [.int n])) l (.lst [.int z1])) := same_over nl (same_over nl (Same.refl _))
    obtain ⟨v, dd, ev, hv⟩ := thing_at I0.l I0.p a0 a9
    refine ⟨PT, _, d1, v, rfl, rfl, SqL.of (s1 _ _ I0.t), ev, ?_⟩
    refine ⟨_, rfl, _, rfl, l, z1, 9, rfl, upd_same, by decide, by decide, fun d2 z2 b0 b9 => ?_⟩
    have s2 : Same H0 (upd (upd (upd H0 l (.lst [.int n])) l (.lst [.int z1])) l (.lst [.int z2])) := same_over nl s1
    obtain ⟨u, ee, eu, hu⟩ := thing_at I0.l I0.p b0 b9
    refine ⟨PT, _, d2, u, rfl, rfl, SqL.of (s2 _ _ I0.t), eu, ?_⟩
    generalize upd (upd (upd H0 l (.lst [.int n])) l (.lst [.int z1])) l (.lst [.int z2]) = H1 at s2 ⊢
    refine ⟨_, rfl, _, rfl, v, u, rfl, fun pA H2 es s3 hA eA => ?_⟩
    refine ⟨_, rfl, Nat.le_of_ble_eq_true rfl, fun a20 n20 => ⟨a20, _, rfl, upd_same, fun d20 m20 t20 => ⟨rfl, ?_⟩⟩⟩
    obtain ⟨s20, y20, x20⟩ := mk_er (C := c20) (fs := [("part", v)]) n20 m20 t20
    generalize upd (upd (upd H2 a20 (exo a20 c20 none)) d20 (exd d20 [("part", v)])) a20 (exo a20 c20 (some d20)) = H20 at s20 y20 x20 ⊢
    have e20 : IsEr H20 c20 a20 := .inr ⟨_, _, y20, x20⟩
    refine ⟨_, rfl, Nat.le_of_ble_eq_true rfl, fun a21 n21 => ⟨a21, _, rfl, upd_same, fun d21 m21 t21 => ⟨rfl, ?_⟩⟩⟩
    obtain ⟨s21, y21, x21⟩ := mk_er (C := c21) (fs := [("many", v)]) n21 m21 t21
    generalize upd (upd (upd H20 a21 (exo a21 c21 none)) d21 (exd d21 [("many", v)])) a21 (exo a21 c21 (some d21)) = H21 at s21 y21 x21 ⊢
    have e21 : IsEr H21 c21 a21 := .inr ⟨_, _, y21, x21⟩
    refine ⟨(by show 2 ≤ sizeLine; decide), fun gg ng => ⟨pA, gg, es, _, rfl, rfl, same_new ng _ _ _ (s21 _ _ (s20 _ _ hA)), upd_same, ?_, fun LE nE => ?_⟩⟩
    · rw [eA.len]
      show 22 ≤ sizeLine
      decide
    have zE : Same H21 (upd (upd H21 gg (.lst [V.ref a20, V.ref a21])) LE (.lst (es ++ [V.ref a20, V.ref a21]))) := (same_new ng _).trans (same_new nE _)
    have hE : (upd (upd H21 gg (.lst [V.ref a20, V.ref a21])) LE (.lst (es ++ [V.ref a20, V.ref a21]))) LE = some (.lst (es ++ [V.ref a20, V.ref a21])) := upd_same
    generalize upd (upd H21 gg (.lst [V.ref a20, V.ref a21])) LE (.lst (es ++ [V.ref a20, V.ref a21])) = H3 at zE hE ⊢
    have eE : Ers H3 [c0, c1, c2, c3, c4, c5, c6, c7, c8, c9, c10, c11, c12, c13, c14, c15, c16, c17, c18, c19, c20, c21] (es ++ [V.ref a20, V.ref a21]) := (eA.same (s20.trans (s21.trans zE))).append (.cons (e20.same (s21.trans zE)) (.cons (e21.same zE) .nil))
    have S3 : Same H0 H3 := s2.trans (s3.trans (s20.trans (s21.trans zE)))
    generalize es ++ [V.ref a20, V.ref a21] = evs at hE eE ⊢
    have hlen22 : evs.length = 22 := eE.len
    refine ⟨LE, evs, rfl, SqL.of hE, for_it (walk_enum (K := K) (a := LE) (xs := evs)) (fun i σ H' => ∃ y7 y8 y9 : Option V, σ = [some (.ref a), some (.ref PD), some (.ref PT), some (.int c), some (.ref l), some v, some u, y7, y8, y9] ∧ Same H3 H') ⟨_, _, _, rfl, Same.refl _⟩ (fun i σ H' _ ⟨_, _, _, _, s⟩ => SqL.of (s _ _ hE)) ?_ ?_⟩
    · rintro j x σ H4 H5 hj ⟨w7, w8, w9, rfl, s4⟩ ⟨T, nu, er, rfl, nT, rfl, e1, e2⟩
      have eu' : nu = .int (j : Nat) := (Option.some.inj e1).symm
      subst eu'
      obtain ⟨C, ea, rfl, hC, hEr⟩ := eE.at e2
      obtain ⟨nn, bm, kx, kc, ko, kdue⟩ := kind_at A hC
      have s6 := s4.trans (same_new nT (.tup [.int (j : Nat), .ref ea]))
      have j22 : j < 22 := by omega
      refine ⟨T, _, rfl, SqT.of upd_same, rfl, _, _, rfl, _, _, rfl, rfl, ?_⟩
      generalize upd H4 T (.tup [.int (j : Nat), .ref ea]) = H5 at s6 ⊢
      refine ⟨_, rfl, ea, C, nn, bm, rfl, hEr.same s6, kx, kc, ko, fun pk H6 s7 hk' => ?_⟩
      rw [bools_at nd hC] at hk'
      refine ⟨22, rfl, by decide, by decide, fun LC hLC => lc_range (lo := 0) (n := (22 : Int).toNat) (fun m H' => H' LC = some (.lst ((List.range m).map fun x => V.bl (decide (x = j)))) ∧ Same H6 H') ⟨upd_same, same_new hLC _⟩ ?_ ?_⟩
      · rintro m H' hm ⟨hc, s8⟩
        refine ⟨rfl, tYes_of ?_⟩
        refine ⟨_, rfl, _, rfl, rfl, _, hc, ?_, ?_, same_over hLC s8⟩
        · rw [List.length_map, List.length_range]
          have hm' : m < 22 := hm
          exact small1000 (by omega)
        · have e : decide (V.int (0 + (m : Int)) = V.int (j : Int)) = decide (m = j) := by
            by_cases z : m = j
            · subst z
              rw [decide_eq_true rfl]
              exact decide_eq_true (by rw [Int.zero_add])
            · rw [decide_eq_false z]
              exact decide_eq_false fun z' => z (by have := V.int.inj z'; omega)
          rw [upd_same, List.range_succ, List.map_append, List.map_singleton, ← e]
      · rintro H' ⟨hc, s8⟩
        have ok := kd_ok ⟨j, j22⟩
        refine ⟨kd j, kd j, kl_dp (s8 _ _ hk'), kl_dp hc, ok.1, ok.1, _, rfl, ?_⟩
        rw [show PyData.eqv (kd j) (kd j) = true from ok.2]
        refine iteF ?_
        have S8 := s6.trans (s7.trans s8)
        refine ⟨_, rfl, ea, C, nn, bm, rfl, hEr.same S8, kx, kc, _, rfl, _, rfl, PD, dues, (j : Int), _, rfl, rfl, SqL.of (S8 _ _ (S3 _ _ I0.d)), atI_nat kdue, rfl, _, rfl, ?_⟩
        rw [decide_eq_true rfl]
        exact iteF ⟨_, _, _, rfl, S8⟩
    · rintro σ H4 ⟨w7, w8, w9, rfl, s4⟩
      have S4 := S3.trans s4
      refine ⟨_, rfl, _, rfl, v, u, dd, ee, rfl, hv.same S4, hu.same S4, fun H5 s5 => ?_⟩
      refine ⟨_, rfl, iteF ?_⟩
      refine ⟨_, rfl, v, dd, rfl, hv.same (S4.trans s5), fun H6 s6 => ?_⟩
      refine ⟨_, rfl, iteF ?_⟩
      exact ⟨_, _, _, _, _, _, _, rfl, I0.same (S4.trans (s5.trans s6))⟩
end
end K4

set_option Elab.async false
set_option linter.all false
set_option maxRecDepth 100000
set_option maxHeartbeats 8000000
namespace K4
open PySem PySem.Spec PyProof.Rows L2 BX EXB Co Ru
theorem all_mk {l : PySem.W.OpenLaw} {w : World} {K : PySem.W.Frag} {h : Heap} {mg : Str → Option Value} {fa C_x0 f_i_x0 C_x1 f_i_x1 C_x2 f_i_x2 C_x3 f_i_x3 C_x4 f_i_x4 C_x5 f_i_x5 C_x6 f_i_x6 C_x7 f_i_x7 C_x8 f_i_x8 C_x9 f_i_x9 C_x10 f_i_x10 C_x11 f_i_x11 C_x12 f_i_x12 C_x13 f_i_x13 C_x14 f_i_x14 C_x15 f_i_x15 C_x16 f_i_x16 C_x17 f_i_x17 C_x18 f_i_x18 C_x19 f_i_x19 C_x20 f_i_x20 C_x21 f_i_x21 f_d_law_left f_d_law_digit f_d_law_all f_d_law_kinds f_d_law_above f_d_law_fields f_d_law_raised f_d_law : Addr} (X : K.In h) (G : h.Ns mainGlobals mg) (hfa : mg "law" = some (.ref fa)) {nm_x0 q_x0 : Str} {N_x0 : Addr} {bs_x0 : List Value} {sn_x0 : List Str} {su_x0 : List Value} {ab_x0 : Bool} {co_x0 : Option Bool} {dd_x0 : Option Addr} {m0_x0 m1_x0 m2_x0 m3_x0 m5_x0 : Option Value} {nm_x1 q_x1 : Str} {N_x1 : Addr} {bs_x1 : List Value} {sn_x1 : List Str} {su_x1 : List Value} {ab_x1 : Bool} {co_x1 : Option Bool} {dd_x1 : Option Addr} {m0_x1 m1_x1 m2_x1 m3_x1 m5_x1 : Option Value} {nm_x2 q_x2 : Str} {N_x2 : Addr} {bs_x2 : List Value} {sn_x2 : List Str} {su_x2 : List Value} {ab_x2 : Bool} {co_x2 : Option Bool} {dd_x2 : Option Addr} {m0_x2 m1_x2 m2_x2 m3_x2 m5_x2 : Option Value} {nm_x3 q_x3 : Str} {N_x3 : Addr} {bs_x3 : List Value} {sn_x3 : List Str} {su_x3 : List Value} {ab_x3 : Bool} {co_x3 : Option Bool} {dd_x3 : Option Addr} {m0_x3 m1_x3 m2_x3 m3_x3 m5_x3 : Option Value} {nm_x4 q_x4 : Str} {N_x4 : Addr} {bs_x4 : List Value} {sn_x4 : List Str} {su_x4 : List Value} {ab_x4 : Bool} {co_x4 : Option Bool} {dd_x4 : Option Addr} {m0_x4 m1_x4 m2_x4 m3_x4 m5_x4 : Option Value} {nm_x5 q_x5 : Str} {N_x5 : Addr} {bs_x5 : List Value} {sn_x5 : List Str} {su_x5 : List Value} {ab_x5 : Bool} {co_x5 : Option Bool} {dd_x5 : Option Addr} {m0_x5 m1_x5 m2_x5 m3_x5 m5_x5 : Option Value} {nm_x6 q_x6 : Str} {N_x6 : Addr} {bs_x6 : List Value} {sn_x6 : List Str} {su_x6 : List Value} {ab_x6 : Bool} {co_x6 : Option Bool} {dd_x6 : Option Addr} {m0_x6 m1_x6 m2_x6 m3_x6 m5_x6 : Option Value} {nm_x7 q_x7 : Str} {N_x7 : Addr} {bs_x7 : List Value} {sn_x7 : List Str} {su_x7 : List Value} {ab_x7 : Bool} {co_x7 : Option Bool} {dd_x7 : Option Addr} {m0_x7 m1_x7 m2_x7 m3_x7 m5_x7 : Option Value} {nm_x8 q_x8 : Str} {N_x8 : Addr} {bs_x8 : List Value} {sn_x8 : List Str} {su_x8 : List Value} {ab_x8 : Bool} {co_x8 : Option Bool} {dd_x8 : Option Addr} {m0_x8 m1_x8 m2_x8 m3_x8 m5_x8 : Option Value} {nm_x9 q_x9 : Str} {N_x9 : Addr} {bs_x9 : List Value} {sn_x9 : List Str} {su_x9 : List Value} {ab_x9 : Bool} {co_x9 : Option Bool} {dd_x9 : Option Addr} {m0_x9 m1_x9 m2_x9 m3_x9 m5_x9 : Option Value} {nm_x10 q_x10 : Str} {N_x10 : Addr} {bs_x10 : List Value} {sn_x10 : List Str} {su_x10 : List Value} {ab_x10 : Bool} {co_x10 : Option Bool} {dd_x10 : Option Addr} {m0_x10 m1_x10 m2_x10 m3_x10 m5_x10 : Option Value} {nm_x11 q_x11 : Str} {N_x11 : Addr} {bs_x11 : List Value} {sn_x11 : List Str} {su_x11 : List Value} {ab_x11 : Bool} {co_x11 : Option Bool} {dd_x11 : Option Addr} {m0_x11 m1_x11 m2_x11 m3_x11 m5_x11 : Option Value} {nm_x12 q_x12 : Str} {N_x12 : Addr} {bs_x12 : List Value} {sn_x12 : List Str} {su_x12 : List Value} {ab_x12 : Bool} {co_x12 : Option Bool} {dd_x12 : Option Addr} {m0_x12 m1_x12 m2_x12 m3_x12 m5_x12 : Option Value} {nm_x13 q_x13 : Str} {N_x13 : Addr} {bs_x13 : List Value} {sn_x13 : List Str} {su_x13 : List Value} {ab_x13 : Bool} {co_x13 : Option Bool} {dd_x13 : Option Addr} {m0_x13 m1_x13 m2_x13 m3_x13 m5_x13 : Option Value} {nm_x14 q_x14 : Str} {N_x14 : Addr} {bs_x14 : List Value} {sn_x14 : List Str} {su_x14 : List Value} {ab_x14 : Bool} {co_x14 : Option Bool} {dd_x14 : Option Addr} {m0_x14 m1_x14 m2_x14 m3_x14 m5_x14 : Option Value} {nm_x15 q_x15 : Str} {N_x15 : Addr} {bs_x15 : List Value} {sn_x15 : List Str} {su_x15 : List Value} {ab_x15 : Bool} {co_x15 : Option Bool} {dd_x15 : Option Addr} {m0_x15 m1_x15 m2_x15 m3_x15 m5_x15 : Option Value} {nm_x16 q_x16 : Str} {N_x16 : Addr} {bs_x16 : List Value} {sn_x16 : List Str} {su_x16 : List Value} {ab_x16 : Bool} {co_x16 : Option Bool} {dd_x16 : Option Addr} {m0_x16 m1_x16 m2_x16 m3_x16 m5_x16 : Option Value} {nm_x17 q_x17 : Str} {N_x17 : Addr} {bs_x17 : List Value} {sn_x17 : List Str} {su_x17 : List Value} {ab_x17 : Bool} {co_x17 : Option Bool} {dd_x17 : Option Addr} {m0_x17 m1_x17 m2_x17 m3_x17 m5_x17 : Option Value} {nm_x18 q_x18 : Str} {N_x18 : Addr} {bs_x18 : List Value} {sn_x18 : List Str} {su_x18 : List Value} {ab_x18 : Bool} {co_x18 : Option Bool} {dd_x18 : Option Addr} {m0_x18 m1_x18 m2_x18 m3_x18 m5_x18 : Option Value} {nm_x19 q_x19 : Str} {N_x19 : Addr} {bs_x19 : List Value} {sn_x19 : List Str} {su_x19 : List Value} {ab_x19 : Bool} {co_x19 : Option Bool} {dd_x19 : Option Addr} {m0_x19 m1_x19 m2_x19 m3_x19 m5_x19 : Option Value} {nm_x20 q_x20 : Str} {N_x20 : Addr} {bs_x20 : List Value} {sn_x20 : List Str} {su_x20 : List Value} {ab_x20 : Bool} {co_x20 : Option Bool} {dd_x20 : Option Addr} {m0_x20 m1_x20 m2_x20 m3_x20 m5_x20 : Option Value} {nm_x21 q_x21 : Str} {N_x21 : Addr} {bs_x21 : List Value} {sn_x21 : List Str} {su_x21 : List Value} {ab_x21 : Bool} {co_x21 : Option Bool} {dd_x21 : Option Addr} {m0_x21 m1_x21 m2_x21 m3_x21 m5_x21 : Option Value}
    {od_i_x0 an_i_x0 : Option Addr} {sl_i_x0 : Array (Option Value)} {oc_i_x0 kV_i_x0 dc_i_x0 pm_i_x0 cd_i_x0 ct_i_x0 : Value}
    {od_i_x1 an_i_x1 : Option Addr} {sl_i_x1 : Array (Option Value)} {oc_i_x1 kV_i_x1 dc_i_x1 pm_i_x1 cd_i_x1 ct_i_x1 : Value}
    {od_i_x2 an_i_x2 : Option Addr} {sl_i_x2 : Array (Option Value)} {oc_i_x2 kV_i_x2 dc_i_x2 pm_i_x2 cd_i_x2 ct_i_x2 : Value}
    {od_i_x3 an_i_x3 : Option Addr} {sl_i_x3 : Array (Option Value)} {oc_i_x3 kV_i_x3 dc_i_x3 pm_i_x3 cd_i_x3 ct_i_x3 : Value}
    {od_i_x4 an_i_x4 : Option Addr} {sl_i_x4 : Array (Option Value)} {oc_i_x4 kV_i_x4 dc_i_x4 pm_i_x4 cd_i_x4 ct_i_x4 : Value}
    {od_i_x5 an_i_x5 : Option Addr} {sl_i_x5 : Array (Option Value)} {oc_i_x5 kV_i_x5 dc_i_x5 pm_i_x5 cd_i_x5 ct_i_x5 : Value}
    {od_i_x6 an_i_x6 : Option Addr} {sl_i_x6 : Array (Option Value)} {oc_i_x6 kV_i_x6 dc_i_x6 pm_i_x6 cd_i_x6 ct_i_x6 : Value}
    {od_i_x7 an_i_x7 : Option Addr} {sl_i_x7 : Array (Option Value)} {oc_i_x7 kV_i_x7 dc_i_x7 pm_i_x7 cd_i_x7 ct_i_x7 : Value}
    {od_i_x8 an_i_x8 : Option Addr} {sl_i_x8 : Array (Option Value)} {oc_i_x8 kV_i_x8 dc_i_x8 pm_i_x8 cd_i_x8 ct_i_x8 : Value}
    {od_i_x9 an_i_x9 : Option Addr} {sl_i_x9 : Array (Option Value)} {oc_i_x9 kV_i_x9 dc_i_x9 pm_i_x9 cd_i_x9 ct_i_x9 : Value}
    {od_i_x10 an_i_x10 : Option Addr} {sl_i_x10 : Array (Option Value)} {oc_i_x10 kV_i_x10 dc_i_x10 pm_i_x10 cd_i_x10 ct_i_x10 : Value}
    {od_i_x11 an_i_x11 : Option Addr} {sl_i_x11 : Array (Option Value)} {oc_i_x11 kV_i_x11 dc_i_x11 pm_i_x11 cd_i_x11 ct_i_x11 : Value}
    {od_i_x12 an_i_x12 : Option Addr} {sl_i_x12 : Array (Option Value)} {oc_i_x12 kV_i_x12 dc_i_x12 pm_i_x12 cd_i_x12 ct_i_x12 : Value}
    {od_i_x13 an_i_x13 : Option Addr} {sl_i_x13 : Array (Option Value)} {oc_i_x13 kV_i_x13 dc_i_x13 pm_i_x13 cd_i_x13 ct_i_x13 : Value}
    {od_i_x14 an_i_x14 : Option Addr} {sl_i_x14 : Array (Option Value)} {oc_i_x14 kV_i_x14 dc_i_x14 pm_i_x14 cd_i_x14 ct_i_x14 : Value}
    {od_i_x15 an_i_x15 : Option Addr} {sl_i_x15 : Array (Option Value)} {oc_i_x15 kV_i_x15 dc_i_x15 pm_i_x15 cd_i_x15 ct_i_x15 : Value}
    {od_i_x16 an_i_x16 : Option Addr} {sl_i_x16 : Array (Option Value)} {oc_i_x16 kV_i_x16 dc_i_x16 pm_i_x16 cd_i_x16 ct_i_x16 : Value}
    {od_i_x17 an_i_x17 : Option Addr} {sl_i_x17 : Array (Option Value)} {oc_i_x17 kV_i_x17 dc_i_x17 pm_i_x17 cd_i_x17 ct_i_x17 : Value}
    {od_i_x18 an_i_x18 : Option Addr} {sl_i_x18 : Array (Option Value)} {oc_i_x18 kV_i_x18 dc_i_x18 pm_i_x18 cd_i_x18 ct_i_x18 : Value}
    {od_i_x19 an_i_x19 : Option Addr} {sl_i_x19 : Array (Option Value)} {oc_i_x19 kV_i_x19 dc_i_x19 pm_i_x19 cd_i_x19 ct_i_x19 : Value}
    {od_i_x20 an_i_x20 : Option Addr} {sl_i_x20 : Array (Option Value)} {oc_i_x20 kV_i_x20 dc_i_x20 pm_i_x20 cd_i_x20 ct_i_x20 : Value}
    {od_i_x21 an_i_x21 : Option Addr} {sl_i_x21 : Array (Option Value)} {oc_i_x21 kV_i_x21 dc_i_x21 pm_i_x21 cd_i_x21 ct_i_x21 : Value}
    {od_d_law_left an_d_law_left : Option Addr} {sl_d_law_left : Array (Option Value)} {oc_d_law_left kV_d_law_left dc_d_law_left pm_d_law_left cd_d_law_left ct_d_law_left : Value}
    {od_d_law_digit an_d_law_digit : Option Addr} {sl_d_law_digit : Array (Option Value)} {oc_d_law_digit kV_d_law_digit dc_d_law_digit pm_d_law_digit cd_d_law_digit ct_d_law_digit : Value}
    {od_d_law_all an_d_law_all : Option Addr} {sl_d_law_all : Array (Option Value)} {oc_d_law_all kV_d_law_all dc_d_law_all pm_d_law_all cd_d_law_all ct_d_law_all : Value}
    {od_d_law_kinds an_d_law_kinds : Option Addr} {sl_d_law_kinds : Array (Option Value)} {oc_d_law_kinds kV_d_law_kinds dc_d_law_kinds pm_d_law_kinds cd_d_law_kinds ct_d_law_kinds : Value}
    {od_d_law_above an_d_law_above : Option Addr} {sl_d_law_above : Array (Option Value)} {oc_d_law_above kV_d_law_above dc_d_law_above pm_d_law_above cd_d_law_above ct_d_law_above : Value}
    {od_d_law_fields an_d_law_fields : Option Addr} {sl_d_law_fields : Array (Option Value)} {oc_d_law_fields kV_d_law_fields dc_d_law_fields pm_d_law_fields cd_d_law_fields ct_d_law_fields : Value}
    {od_d_law_raised an_d_law_raised : Option Addr} {sl_d_law_raised : Array (Option Value)} {oc_d_law_raised kV_d_law_raised dc_d_law_raised pm_d_law_raised cd_d_law_raised ct_d_law_raised : Value}
    {od_d_law an_d_law : Option Addr} {sl_d_law : Array (Option Value)} {oc_d_law kV_d_law dc_d_law pm_d_law cd_d_law ct_d_law : Value}
    (aC_x0 : PySem.W.nsIn K mainGlobals "NoNumber" = some (some (.ref C_x0)))
    (xC_x0 : K.lookup C_x0 = some (excClassObj nm_x0 q_x0 C_x0 N_x0 bs_x0 [.type "ValueError", .type "Exception", .type "BaseException", .type "object"] true sn_x0 su_x0 ab_x0 co_x0 dd_x0 m0_x0 m1_x0 m2_x0 m3_x0 m5_x0 "ValueError.__new__"))
    (sa_x0 : PySem.W.findIn K (.ref C_x0) "__setattr__" = some (some (.builtin "object.__setattr__")))
    (ga_x0 : PySem.W.findIn K (.ref C_x0) "__getattribute__" = some (some (.builtin "BaseException.__getattribute__")))
    (gg_x0 : PySem.W.findIn K (.ref C_x0) "__getattr__" = some none)
    (cl_x0 : PySem.W.findIn K (.ref C_x0) "__class__" = some (some (.builtin "object.__class__")))
    (mo_x0 : PySem.W.mroIn K C_x0 (.type "object") = some true)
    (kC_x0 : PySem.W.keepIn K (.ref C_x0) = true)
    (eC_x0 : PySem.W.subIn K (.ref C_x0) (.type "BaseException") = some true)
    (tC_x0 : PySem.W.typeIn K (.ref C_x0) = some (.type "type"))
    (hd_x0 : PySem.W.hasDictIn K C_x0 = true)
    (vV_x0 : PySem.W.findCls K (.type "ValueError") (.type "type") "__init__" = some (.val (.builtin "ValueError.__init__")))
    (sp_ : PySem.W.specialIn K (.builtin "object.__class__") "__get__" = some (some (.builtin "getset_descriptor.__get__")))
    (tk_ : PySem.W.takesIn K (.builtin "object.__class__") = some true)
    (i_i_x0 : PySem.W.findIn K (.ref C_x0) "__init__" = some (some (.ref f_i_x0)))
    (ty_i_x0 : PySem.W.typeIn K (.ref f_i_x0) = some (.type "function"))
    (l_i_x0 : K.lookup f_i_x0 = some ⟨oc_i_x0, od_i_x0, .func (PySem.W.fnOf "__init__" "NoNumber.__init__" (defArgs sNoNumberI) (defBody sNoNumberI) (defScope sNoNumberI) .none kV_i_x0 dc_i_x0 pm_i_x0 an_i_x0 cd_i_x0 ct_i_x0), sl_i_x0⟩)
    (c_i_x0 : PySem.W.codeIn K cd_i_x0 "NoNumber.__init__" = true)
    (k_i_x0 : PySem.W.keepIn K (.ref f_i_x0) = true)
    (no_x0_number : PySem.W.findIn K (.ref C_x0) "number" = some none)
    (aC_x1 : PySem.W.nsIn K mainGlobals "NoText" = some (some (.ref C_x1)))
    (xC_x1 : K.lookup C_x1 = some (excClassObj nm_x1 q_x1 C_x1 N_x1 bs_x1 [.type "ValueError", .type "Exception", .type "BaseException", .type "object"] true sn_x1 su_x1 ab_x1 co_x1 dd_x1 m0_x1 m1_x1 m2_x1 m3_x1 m5_x1 "ValueError.__new__"))
    (sa_x1 : PySem.W.findIn K (.ref C_x1) "__setattr__" = some (some (.builtin "object.__setattr__")))
    (ga_x1 : PySem.W.findIn K (.ref C_x1) "__getattribute__" = some (some (.builtin "BaseException.__getattribute__")))
    (gg_x1 : PySem.W.findIn K (.ref C_x1) "__getattr__" = some none)
    (cl_x1 : PySem.W.findIn K (.ref C_x1) "__class__" = some (some (.builtin "object.__class__")))
    (mo_x1 : PySem.W.mroIn K C_x1 (.type "object") = some true)
    (kC_x1 : PySem.W.keepIn K (.ref C_x1) = true)
    (eC_x1 : PySem.W.subIn K (.ref C_x1) (.type "BaseException") = some true)
    (tC_x1 : PySem.W.typeIn K (.ref C_x1) = some (.type "type"))
    (hd_x1 : PySem.W.hasDictIn K C_x1 = true)
    (vV_x1 : PySem.W.findCls K (.type "ValueError") (.type "type") "__init__" = some (.val (.builtin "ValueError.__init__")))
    (i_i_x1 : PySem.W.findIn K (.ref C_x1) "__init__" = some (some (.ref f_i_x1)))
    (ty_i_x1 : PySem.W.typeIn K (.ref f_i_x1) = some (.type "function"))
    (l_i_x1 : K.lookup f_i_x1 = some ⟨oc_i_x1, od_i_x1, .func (PySem.W.fnOf "__init__" "NoText.__init__" (defArgs sNoTextI) (defBody sNoTextI) (defScope sNoTextI) .none kV_i_x1 dc_i_x1 pm_i_x1 an_i_x1 cd_i_x1 ct_i_x1), sl_i_x1⟩)
    (c_i_x1 : PySem.W.codeIn K cd_i_x1 "NoText.__init__" = true)
    (k_i_x1 : PySem.W.keepIn K (.ref f_i_x1) = true)
    (no_x1_part : PySem.W.findIn K (.ref C_x1) "part" = some none)
    (aC_x2 : PySem.W.nsIn K mainGlobals "NoCase" = some (some (.ref C_x2)))
    (xC_x2 : K.lookup C_x2 = some (excClassObj nm_x2 q_x2 C_x2 N_x2 bs_x2 [.type "ValueError", .type "Exception", .type "BaseException", .type "object"] true sn_x2 su_x2 ab_x2 co_x2 dd_x2 m0_x2 m1_x2 m2_x2 m3_x2 m5_x2 "ValueError.__new__"))
    (sa_x2 : PySem.W.findIn K (.ref C_x2) "__setattr__" = some (some (.builtin "object.__setattr__")))
    (ga_x2 : PySem.W.findIn K (.ref C_x2) "__getattribute__" = some (some (.builtin "BaseException.__getattribute__")))
    (gg_x2 : PySem.W.findIn K (.ref C_x2) "__getattr__" = some none)
    (cl_x2 : PySem.W.findIn K (.ref C_x2) "__class__" = some (some (.builtin "object.__class__")))
    (mo_x2 : PySem.W.mroIn K C_x2 (.type "object") = some true)
    (kC_x2 : PySem.W.keepIn K (.ref C_x2) = true)
    (eC_x2 : PySem.W.subIn K (.ref C_x2) (.type "BaseException") = some true)
    (tC_x2 : PySem.W.typeIn K (.ref C_x2) = some (.type "type"))
    (hd_x2 : PySem.W.hasDictIn K C_x2 = true)
    (vV_x2 : PySem.W.findCls K (.type "ValueError") (.type "type") "__init__" = some (.val (.builtin "ValueError.__init__")))
    (i_i_x2 : PySem.W.findIn K (.ref C_x2) "__init__" = some (some (.ref f_i_x2)))
    (ty_i_x2 : PySem.W.typeIn K (.ref f_i_x2) = some (.type "function"))
    (l_i_x2 : K.lookup f_i_x2 = some ⟨oc_i_x2, od_i_x2, .func (PySem.W.fnOf "__init__" "NoCase.__init__" (defArgs sNoCaseI) (defBody sNoCaseI) (defScope sNoCaseI) .none kV_i_x2 dc_i_x2 pm_i_x2 an_i_x2 cd_i_x2 ct_i_x2), sl_i_x2⟩)
    (c_i_x2 : PySem.W.codeIn K cd_i_x2 "NoCase.__init__" = true)
    (k_i_x2 : PySem.W.keepIn K (.ref f_i_x2) = true)
    (no_x2_part : PySem.W.findIn K (.ref C_x2) "part" = some none)
    (no_x2_number : PySem.W.findIn K (.ref C_x2) "number" = some none)
    (aC_x3 : PySem.W.nsIn K mainGlobals "NoRule" = some (some (.ref C_x3)))
    (xC_x3 : K.lookup C_x3 = some (excClassObj nm_x3 q_x3 C_x3 N_x3 bs_x3 [.type "ValueError", .type "Exception", .type "BaseException", .type "object"] true sn_x3 su_x3 ab_x3 co_x3 dd_x3 m0_x3 m1_x3 m2_x3 m3_x3 m5_x3 "ValueError.__new__"))
    (sa_x3 : PySem.W.findIn K (.ref C_x3) "__setattr__" = some (some (.builtin "object.__setattr__")))
    (ga_x3 : PySem.W.findIn K (.ref C_x3) "__getattribute__" = some (some (.builtin "BaseException.__getattribute__")))
    (gg_x3 : PySem.W.findIn K (.ref C_x3) "__getattr__" = some none)
    (cl_x3 : PySem.W.findIn K (.ref C_x3) "__class__" = some (some (.builtin "object.__class__")))
    (mo_x3 : PySem.W.mroIn K C_x3 (.type "object") = some true)
    (kC_x3 : PySem.W.keepIn K (.ref C_x3) = true)
    (eC_x3 : PySem.W.subIn K (.ref C_x3) (.type "BaseException") = some true)
    (tC_x3 : PySem.W.typeIn K (.ref C_x3) = some (.type "type"))
    (hd_x3 : PySem.W.hasDictIn K C_x3 = true)
    (vV_x3 : PySem.W.findCls K (.type "ValueError") (.type "type") "__init__" = some (.val (.builtin "ValueError.__init__")))
    (i_i_x3 : PySem.W.findIn K (.ref C_x3) "__init__" = some (some (.ref f_i_x3)))
    (ty_i_x3 : PySem.W.typeIn K (.ref f_i_x3) = some (.type "function"))
    (l_i_x3 : K.lookup f_i_x3 = some ⟨oc_i_x3, od_i_x3, .func (PySem.W.fnOf "__init__" "NoRule.__init__" (defArgs sNoRuleI) (defBody sNoRuleI) (defScope sNoRuleI) .none kV_i_x3 dc_i_x3 pm_i_x3 an_i_x3 cd_i_x3 ct_i_x3), sl_i_x3⟩)
    (c_i_x3 : PySem.W.codeIn K cd_i_x3 "NoRule.__init__" = true)
    (k_i_x3 : PySem.W.keepIn K (.ref f_i_x3) = true)
    (no_x3_world : PySem.W.findIn K (.ref C_x3) "world" = some none)
    (aC_x4 : PySem.W.nsIn K mainGlobals "NoBeliefs" = some (some (.ref C_x4)))
    (xC_x4 : K.lookup C_x4 = some (excClassObj nm_x4 q_x4 C_x4 N_x4 bs_x4 [.type "ValueError", .type "Exception", .type "BaseException", .type "object"] true sn_x4 su_x4 ab_x4 co_x4 dd_x4 m0_x4 m1_x4 m2_x4 m3_x4 m5_x4 "ValueError.__new__"))
    (sa_x4 : PySem.W.findIn K (.ref C_x4) "__setattr__" = some (some (.builtin "object.__setattr__")))
    (ga_x4 : PySem.W.findIn K (.ref C_x4) "__getattribute__" = some (some (.builtin "BaseException.__getattribute__")))
    (gg_x4 : PySem.W.findIn K (.ref C_x4) "__getattr__" = some none)
    (cl_x4 : PySem.W.findIn K (.ref C_x4) "__class__" = some (some (.builtin "object.__class__")))
    (mo_x4 : PySem.W.mroIn K C_x4 (.type "object") = some true)
    (kC_x4 : PySem.W.keepIn K (.ref C_x4) = true)
    (eC_x4 : PySem.W.subIn K (.ref C_x4) (.type "BaseException") = some true)
    (tC_x4 : PySem.W.typeIn K (.ref C_x4) = some (.type "type"))
    (hd_x4 : PySem.W.hasDictIn K C_x4 = true)
    (vV_x4 : PySem.W.findCls K (.type "ValueError") (.type "type") "__init__" = some (.val (.builtin "ValueError.__init__")))
    (i_i_x4 : PySem.W.findIn K (.ref C_x4) "__init__" = some (some (.ref f_i_x4)))
    (ty_i_x4 : PySem.W.typeIn K (.ref f_i_x4) = some (.type "function"))
    (l_i_x4 : K.lookup f_i_x4 = some ⟨oc_i_x4, od_i_x4, .func (PySem.W.fnOf "__init__" "NoBeliefs.__init__" (defArgs sNoBeliefsI) (defBody sNoBeliefsI) (defScope sNoBeliefsI) .none kV_i_x4 dc_i_x4 pm_i_x4 an_i_x4 cd_i_x4 ct_i_x4), sl_i_x4⟩)
    (c_i_x4 : PySem.W.codeIn K cd_i_x4 "NoBeliefs.__init__" = true)
    (k_i_x4 : PySem.W.keepIn K (.ref f_i_x4) = true)
    (aC_x5 : PySem.W.nsIn K mainGlobals "NoShares" = some (some (.ref C_x5)))
    (xC_x5 : K.lookup C_x5 = some (excClassObj nm_x5 q_x5 C_x5 N_x5 bs_x5 [.type "ValueError", .type "Exception", .type "BaseException", .type "object"] true sn_x5 su_x5 ab_x5 co_x5 dd_x5 m0_x5 m1_x5 m2_x5 m3_x5 m5_x5 "ValueError.__new__"))
    (sa_x5 : PySem.W.findIn K (.ref C_x5) "__setattr__" = some (some (.builtin "object.__setattr__")))
    (ga_x5 : PySem.W.findIn K (.ref C_x5) "__getattribute__" = some (some (.builtin "BaseException.__getattribute__")))
    (gg_x5 : PySem.W.findIn K (.ref C_x5) "__getattr__" = some none)
    (cl_x5 : PySem.W.findIn K (.ref C_x5) "__class__" = some (some (.builtin "object.__class__")))
    (mo_x5 : PySem.W.mroIn K C_x5 (.type "object") = some true)
    (kC_x5 : PySem.W.keepIn K (.ref C_x5) = true)
    (eC_x5 : PySem.W.subIn K (.ref C_x5) (.type "BaseException") = some true)
    (tC_x5 : PySem.W.typeIn K (.ref C_x5) = some (.type "type"))
    (hd_x5 : PySem.W.hasDictIn K C_x5 = true)
    (vV_x5 : PySem.W.findCls K (.type "ValueError") (.type "type") "__init__" = some (.val (.builtin "ValueError.__init__")))
    (i_i_x5 : PySem.W.findIn K (.ref C_x5) "__init__" = some (some (.ref f_i_x5)))
    (ty_i_x5 : PySem.W.typeIn K (.ref f_i_x5) = some (.type "function"))
    (l_i_x5 : K.lookup f_i_x5 = some ⟨oc_i_x5, od_i_x5, .func (PySem.W.fnOf "__init__" "NoShares.__init__" (defArgs sNoSharesI) (defBody sNoSharesI) (defScope sNoSharesI) .none kV_i_x5 dc_i_x5 pm_i_x5 an_i_x5 cd_i_x5 ct_i_x5), sl_i_x5⟩)
    (c_i_x5 : PySem.W.codeIn K cd_i_x5 "NoShares.__init__" = true)
    (k_i_x5 : PySem.W.keepIn K (.ref f_i_x5) = true)
    (aC_x6 : PySem.W.nsIn K mainGlobals "NoAdvice" = some (some (.ref C_x6)))
    (xC_x6 : K.lookup C_x6 = some (excClassObj nm_x6 q_x6 C_x6 N_x6 bs_x6 [.type "ValueError", .type "Exception", .type "BaseException", .type "object"] true sn_x6 su_x6 ab_x6 co_x6 dd_x6 m0_x6 m1_x6 m2_x6 m3_x6 m5_x6 "ValueError.__new__"))
    (sa_x6 : PySem.W.findIn K (.ref C_x6) "__setattr__" = some (some (.builtin "object.__setattr__")))
    (ga_x6 : PySem.W.findIn K (.ref C_x6) "__getattribute__" = some (some (.builtin "BaseException.__getattribute__")))
    (gg_x6 : PySem.W.findIn K (.ref C_x6) "__getattr__" = some none)
    (cl_x6 : PySem.W.findIn K (.ref C_x6) "__class__" = some (some (.builtin "object.__class__")))
    (mo_x6 : PySem.W.mroIn K C_x6 (.type "object") = some true)
    (kC_x6 : PySem.W.keepIn K (.ref C_x6) = true)
    (eC_x6 : PySem.W.subIn K (.ref C_x6) (.type "BaseException") = some true)
    (tC_x6 : PySem.W.typeIn K (.ref C_x6) = some (.type "type"))
    (hd_x6 : PySem.W.hasDictIn K C_x6 = true)
    (vV_x6 : PySem.W.findCls K (.type "ValueError") (.type "type") "__init__" = some (.val (.builtin "ValueError.__init__")))
    (i_i_x6 : PySem.W.findIn K (.ref C_x6) "__init__" = some (some (.ref f_i_x6)))
    (ty_i_x6 : PySem.W.typeIn K (.ref f_i_x6) = some (.type "function"))
    (l_i_x6 : K.lookup f_i_x6 = some ⟨oc_i_x6, od_i_x6, .func (PySem.W.fnOf "__init__" "NoAdvice.__init__" (defArgs sNoAdviceI) (defBody sNoAdviceI) (defScope sNoAdviceI) .none kV_i_x6 dc_i_x6 pm_i_x6 an_i_x6 cd_i_x6 ct_i_x6), sl_i_x6⟩)
    (c_i_x6 : PySem.W.codeIn K cd_i_x6 "NoAdvice.__init__" = true)
    (k_i_x6 : PySem.W.keepIn K (.ref f_i_x6) = true)
    (no_x6_words : PySem.W.findIn K (.ref C_x6) "words" = some none)
    (aC_x7 : PySem.W.nsIn K mainGlobals "NoGroups" = some (some (.ref C_x7)))
    (xC_x7 : K.lookup C_x7 = some (excClassObj nm_x7 q_x7 C_x7 N_x7 bs_x7 [.type "ValueError", .type "Exception", .type "BaseException", .type "object"] true sn_x7 su_x7 ab_x7 co_x7 dd_x7 m0_x7 m1_x7 m2_x7 m3_x7 m5_x7 "ValueError.__new__"))
    (sa_x7 : PySem.W.findIn K (.ref C_x7) "__setattr__" = some (some (.builtin "object.__setattr__")))
    (ga_x7 : PySem.W.findIn K (.ref C_x7) "__getattribute__" = some (some (.builtin "BaseException.__getattribute__")))
    (gg_x7 : PySem.W.findIn K (.ref C_x7) "__getattr__" = some none)
    (cl_x7 : PySem.W.findIn K (.ref C_x7) "__class__" = some (some (.builtin "object.__class__")))
    (mo_x7 : PySem.W.mroIn K C_x7 (.type "object") = some true)
    (kC_x7 : PySem.W.keepIn K (.ref C_x7) = true)
    (eC_x7 : PySem.W.subIn K (.ref C_x7) (.type "BaseException") = some true)
    (tC_x7 : PySem.W.typeIn K (.ref C_x7) = some (.type "type"))
    (hd_x7 : PySem.W.hasDictIn K C_x7 = true)
    (vV_x7 : PySem.W.findCls K (.type "ValueError") (.type "type") "__init__" = some (.val (.builtin "ValueError.__init__")))
    (i_i_x7 : PySem.W.findIn K (.ref C_x7) "__init__" = some (some (.ref f_i_x7)))
    (ty_i_x7 : PySem.W.typeIn K (.ref f_i_x7) = some (.type "function"))
    (l_i_x7 : K.lookup f_i_x7 = some ⟨oc_i_x7, od_i_x7, .func (PySem.W.fnOf "__init__" "NoGroups.__init__" (defArgs sNoGroupsI) (defBody sNoGroupsI) (defScope sNoGroupsI) .none kV_i_x7 dc_i_x7 pm_i_x7 an_i_x7 cd_i_x7 ct_i_x7), sl_i_x7⟩)
    (c_i_x7 : PySem.W.codeIn K cd_i_x7 "NoGroups.__init__" = true)
    (k_i_x7 : PySem.W.keepIn K (.ref f_i_x7) = true)
    (no_x7_word : PySem.W.findIn K (.ref C_x7) "word" = some none)
    (aC_x8 : PySem.W.nsIn K mainGlobals "NoHearers" = some (some (.ref C_x8)))
    (xC_x8 : K.lookup C_x8 = some (excClassObj nm_x8 q_x8 C_x8 N_x8 bs_x8 [.type "ValueError", .type "Exception", .type "BaseException", .type "object"] true sn_x8 su_x8 ab_x8 co_x8 dd_x8 m0_x8 m1_x8 m2_x8 m3_x8 m5_x8 "ValueError.__new__"))
    (sa_x8 : PySem.W.findIn K (.ref C_x8) "__setattr__" = some (some (.builtin "object.__setattr__")))
    (ga_x8 : PySem.W.findIn K (.ref C_x8) "__getattribute__" = some (some (.builtin "BaseException.__getattribute__")))
    (gg_x8 : PySem.W.findIn K (.ref C_x8) "__getattr__" = some none)
    (cl_x8 : PySem.W.findIn K (.ref C_x8) "__class__" = some (some (.builtin "object.__class__")))
    (mo_x8 : PySem.W.mroIn K C_x8 (.type "object") = some true)
    (kC_x8 : PySem.W.keepIn K (.ref C_x8) = true)
    (eC_x8 : PySem.W.subIn K (.ref C_x8) (.type "BaseException") = some true)
    (tC_x8 : PySem.W.typeIn K (.ref C_x8) = some (.type "type"))
    (hd_x8 : PySem.W.hasDictIn K C_x8 = true)
    (vV_x8 : PySem.W.findCls K (.type "ValueError") (.type "type") "__init__" = some (.val (.builtin "ValueError.__init__")))
    (i_i_x8 : PySem.W.findIn K (.ref C_x8) "__init__" = some (some (.ref f_i_x8)))
    (ty_i_x8 : PySem.W.typeIn K (.ref f_i_x8) = some (.type "function"))
    (l_i_x8 : K.lookup f_i_x8 = some ⟨oc_i_x8, od_i_x8, .func (PySem.W.fnOf "__init__" "NoHearers.__init__" (defArgs sNoHearersI) (defBody sNoHearersI) (defScope sNoHearersI) .none kV_i_x8 dc_i_x8 pm_i_x8 an_i_x8 cd_i_x8 ct_i_x8), sl_i_x8⟩)
    (c_i_x8 : PySem.W.codeIn K cd_i_x8 "NoHearers.__init__" = true)
    (k_i_x8 : PySem.W.keepIn K (.ref f_i_x8) = true)
    (no_x8_number : PySem.W.findIn K (.ref C_x8) "number" = some none)
    (aC_x9 : PySem.W.nsIn K mainGlobals "NoCounts" = some (some (.ref C_x9)))
    (xC_x9 : K.lookup C_x9 = some (excClassObj nm_x9 q_x9 C_x9 N_x9 bs_x9 [.type "ValueError", .type "Exception", .type "BaseException", .type "object"] true sn_x9 su_x9 ab_x9 co_x9 dd_x9 m0_x9 m1_x9 m2_x9 m3_x9 m5_x9 "ValueError.__new__"))
    (sa_x9 : PySem.W.findIn K (.ref C_x9) "__setattr__" = some (some (.builtin "object.__setattr__")))
    (ga_x9 : PySem.W.findIn K (.ref C_x9) "__getattribute__" = some (some (.builtin "BaseException.__getattribute__")))
    (gg_x9 : PySem.W.findIn K (.ref C_x9) "__getattr__" = some none)
    (cl_x9 : PySem.W.findIn K (.ref C_x9) "__class__" = some (some (.builtin "object.__class__")))
    (mo_x9 : PySem.W.mroIn K C_x9 (.type "object") = some true)
    (kC_x9 : PySem.W.keepIn K (.ref C_x9) = true)
    (eC_x9 : PySem.W.subIn K (.ref C_x9) (.type "BaseException") = some true)
    (tC_x9 : PySem.W.typeIn K (.ref C_x9) = some (.type "type"))
    (hd_x9 : PySem.W.hasDictIn K C_x9 = true)
    (vV_x9 : PySem.W.findCls K (.type "ValueError") (.type "type") "__init__" = some (.val (.builtin "ValueError.__init__")))
    (i_i_x9 : PySem.W.findIn K (.ref C_x9) "__init__" = some (some (.ref f_i_x9)))
    (ty_i_x9 : PySem.W.typeIn K (.ref f_i_x9) = some (.type "function"))
    (l_i_x9 : K.lookup f_i_x9 = some ⟨oc_i_x9, od_i_x9, .func (PySem.W.fnOf "__init__" "NoCounts.__init__" (defArgs sNoCountsI) (defBody sNoCountsI) (defScope sNoCountsI) .none kV_i_x9 dc_i_x9 pm_i_x9 an_i_x9 cd_i_x9 ct_i_x9), sl_i_x9⟩)
    (c_i_x9 : PySem.W.codeIn K cd_i_x9 "NoCounts.__init__" = true)
    (k_i_x9 : PySem.W.keepIn K (.ref f_i_x9) = true)
    (aC_x10 : PySem.W.nsIn K mainGlobals "NoOrder" = some (some (.ref C_x10)))
    (xC_x10 : K.lookup C_x10 = some (excClassObj nm_x10 q_x10 C_x10 N_x10 bs_x10 [.type "ValueError", .type "Exception", .type "BaseException", .type "object"] true sn_x10 su_x10 ab_x10 co_x10 dd_x10 m0_x10 m1_x10 m2_x10 m3_x10 m5_x10 "ValueError.__new__"))
    (sa_x10 : PySem.W.findIn K (.ref C_x10) "__setattr__" = some (some (.builtin "object.__setattr__")))
    (ga_x10 : PySem.W.findIn K (.ref C_x10) "__getattribute__" = some (some (.builtin "BaseException.__getattribute__")))
    (gg_x10 : PySem.W.findIn K (.ref C_x10) "__getattr__" = some none)
    (cl_x10 : PySem.W.findIn K (.ref C_x10) "__class__" = some (some (.builtin "object.__class__")))
    (mo_x10 : PySem.W.mroIn K C_x10 (.type "object") = some true)
    (kC_x10 : PySem.W.keepIn K (.ref C_x10) = true)
    (eC_x10 : PySem.W.subIn K (.ref C_x10) (.type "BaseException") = some true)
    (tC_x10 : PySem.W.typeIn K (.ref C_x10) = some (.type "type"))
    (hd_x10 : PySem.W.hasDictIn K C_x10 = true)
    (vV_x10 : PySem.W.findCls K (.type "ValueError") (.type "type") "__init__" = some (.val (.builtin "ValueError.__init__")))
    (i_i_x10 : PySem.W.findIn K (.ref C_x10) "__init__" = some (some (.ref f_i_x10)))
    (ty_i_x10 : PySem.W.typeIn K (.ref f_i_x10) = some (.type "function"))
    (l_i_x10 : K.lookup f_i_x10 = some ⟨oc_i_x10, od_i_x10, .func (PySem.W.fnOf "__init__" "NoOrder.__init__" (defArgs sNoOrderI) (defBody sNoOrderI) (defScope sNoOrderI) .none kV_i_x10 dc_i_x10 pm_i_x10 an_i_x10 cd_i_x10 ct_i_x10), sl_i_x10⟩)
    (c_i_x10 : PySem.W.codeIn K cd_i_x10 "NoOrder.__init__" = true)
    (k_i_x10 : PySem.W.keepIn K (.ref f_i_x10) = true)
    (no_x10_part : PySem.W.findIn K (.ref C_x10) "part" = some none)
    (aC_x11 : PySem.W.nsIn K mainGlobals "NoRow" = some (some (.ref C_x11)))
    (xC_x11 : K.lookup C_x11 = some (excClassObj nm_x11 q_x11 C_x11 N_x11 bs_x11 [.type "ValueError", .type "Exception", .type "BaseException", .type "object"] true sn_x11 su_x11 ab_x11 co_x11 dd_x11 m0_x11 m1_x11 m2_x11 m3_x11 m5_x11 "ValueError.__new__"))
    (sa_x11 : PySem.W.findIn K (.ref C_x11) "__setattr__" = some (some (.builtin "object.__setattr__")))
    (ga_x11 : PySem.W.findIn K (.ref C_x11) "__getattribute__" = some (some (.builtin "BaseException.__getattribute__")))
    (gg_x11 : PySem.W.findIn K (.ref C_x11) "__getattr__" = some none)
    (cl_x11 : PySem.W.findIn K (.ref C_x11) "__class__" = some (some (.builtin "object.__class__")))
    (mo_x11 : PySem.W.mroIn K C_x11 (.type "object") = some true)
    (kC_x11 : PySem.W.keepIn K (.ref C_x11) = true)
    (eC_x11 : PySem.W.subIn K (.ref C_x11) (.type "BaseException") = some true)
    (tC_x11 : PySem.W.typeIn K (.ref C_x11) = some (.type "type"))
    (hd_x11 : PySem.W.hasDictIn K C_x11 = true)
    (vV_x11 : PySem.W.findCls K (.type "ValueError") (.type "type") "__init__" = some (.val (.builtin "ValueError.__init__")))
    (i_i_x11 : PySem.W.findIn K (.ref C_x11) "__init__" = some (some (.ref f_i_x11)))
    (ty_i_x11 : PySem.W.typeIn K (.ref f_i_x11) = some (.type "function"))
    (l_i_x11 : K.lookup f_i_x11 = some ⟨oc_i_x11, od_i_x11, .func (PySem.W.fnOf "__init__" "NoRow.__init__" (defArgs sNoRowI) (defBody sNoRowI) (defScope sNoRowI) .none kV_i_x11 dc_i_x11 pm_i_x11 an_i_x11 cd_i_x11 ct_i_x11), sl_i_x11⟩)
    (c_i_x11 : PySem.W.codeIn K cd_i_x11 "NoRow.__init__" = true)
    (k_i_x11 : PySem.W.keepIn K (.ref f_i_x11) = true)
    (aC_x12 : PySem.W.nsIn K mainGlobals "Unlike" = some (some (.ref C_x12)))
    (xC_x12 : K.lookup C_x12 = some (excClassObj nm_x12 q_x12 C_x12 N_x12 bs_x12 [.type "ValueError", .type "Exception", .type "BaseException", .type "object"] true sn_x12 su_x12 ab_x12 co_x12 dd_x12 m0_x12 m1_x12 m2_x12 m3_x12 m5_x12 "ValueError.__new__"))
    (sa_x12 : PySem.W.findIn K (.ref C_x12) "__setattr__" = some (some (.builtin "object.__setattr__")))
    (ga_x12 : PySem.W.findIn K (.ref C_x12) "__getattribute__" = some (some (.builtin "BaseException.__getattribute__")))
    (gg_x12 : PySem.W.findIn K (.ref C_x12) "__getattr__" = some none)
    (cl_x12 : PySem.W.findIn K (.ref C_x12) "__class__" = some (some (.builtin "object.__class__")))
    (mo_x12 : PySem.W.mroIn K C_x12 (.type "object") = some true)
    (kC_x12 : PySem.W.keepIn K (.ref C_x12) = true)
    (eC_x12 : PySem.W.subIn K (.ref C_x12) (.type "BaseException") = some true)
    (tC_x12 : PySem.W.typeIn K (.ref C_x12) = some (.type "type"))
    (hd_x12 : PySem.W.hasDictIn K C_x12 = true)
    (vV_x12 : PySem.W.findCls K (.type "ValueError") (.type "type") "__init__" = some (.val (.builtin "ValueError.__init__")))
    (i_i_x12 : PySem.W.findIn K (.ref C_x12) "__init__" = some (some (.ref f_i_x12)))
    (ty_i_x12 : PySem.W.typeIn K (.ref f_i_x12) = some (.type "function"))
    (l_i_x12 : K.lookup f_i_x12 = some ⟨oc_i_x12, od_i_x12, .func (PySem.W.fnOf "__init__" "Unlike.__init__" (defArgs sUnlikeI) (defBody sUnlikeI) (defScope sUnlikeI) .none kV_i_x12 dc_i_x12 pm_i_x12 an_i_x12 cd_i_x12 ct_i_x12), sl_i_x12⟩)
    (c_i_x12 : PySem.W.codeIn K cd_i_x12 "Unlike.__init__" = true)
    (k_i_x12 : PySem.W.keepIn K (.ref f_i_x12) = true)
    (no_x12_one : PySem.W.findIn K (.ref C_x12) "one" = some none)
    (no_x12_other : PySem.W.findIn K (.ref C_x12) "other" = some none)
    (aC_x13 : PySem.W.nsIn K mainGlobals "NotTwo" = some (some (.ref C_x13)))
    (xC_x13 : K.lookup C_x13 = some (excClassObj nm_x13 q_x13 C_x13 N_x13 bs_x13 [.type "ArithmeticError", .type "Exception", .type "BaseException", .type "object"] true sn_x13 su_x13 ab_x13 co_x13 dd_x13 m0_x13 m1_x13 m2_x13 m3_x13 m5_x13 "ArithmeticError.__new__"))
    (sa_x13 : PySem.W.findIn K (.ref C_x13) "__setattr__" = some (some (.builtin "object.__setattr__")))
    (ga_x13 : PySem.W.findIn K (.ref C_x13) "__getattribute__" = some (some (.builtin "BaseException.__getattribute__")))
    (gg_x13 : PySem.W.findIn K (.ref C_x13) "__getattr__" = some none)
    (cl_x13 : PySem.W.findIn K (.ref C_x13) "__class__" = some (some (.builtin "object.__class__")))
    (mo_x13 : PySem.W.mroIn K C_x13 (.type "object") = some true)
    (kC_x13 : PySem.W.keepIn K (.ref C_x13) = true)
    (eC_x13 : PySem.W.subIn K (.ref C_x13) (.type "BaseException") = some true)
    (tC_x13 : PySem.W.typeIn K (.ref C_x13) = some (.type "type"))
    (hd_x13 : PySem.W.hasDictIn K C_x13 = true)
    (vV_x13 : PySem.W.findCls K (.type "ArithmeticError") (.type "type") "__init__" = some (.val (.builtin "ArithmeticError.__init__")))
    (i_i_x13 : PySem.W.findIn K (.ref C_x13) "__init__" = some (some (.ref f_i_x13)))
    (ty_i_x13 : PySem.W.typeIn K (.ref f_i_x13) = some (.type "function"))
    (l_i_x13 : K.lookup f_i_x13 = some ⟨oc_i_x13, od_i_x13, .func (PySem.W.fnOf "__init__" "NotTwo.__init__" (defArgs sNotTwoI) (defBody sNotTwoI) (defScope sNotTwoI) .none kV_i_x13 dc_i_x13 pm_i_x13 an_i_x13 cd_i_x13 ct_i_x13), sl_i_x13⟩)
    (c_i_x13 : PySem.W.codeIn K cd_i_x13 "NotTwo.__init__" = true)
    (k_i_x13 : PySem.W.keepIn K (.ref f_i_x13) = true)
    (no_x13_many : PySem.W.findIn K (.ref C_x13) "many" = some none)
    (aC_x14 : PySem.W.nsIn K mainGlobals "ByNought" = some (some (.ref C_x14)))
    (xC_x14 : K.lookup C_x14 = some (excClassObj nm_x14 q_x14 C_x14 N_x14 bs_x14 [.type "ZeroDivisionError", .type "ArithmeticError", .type "Exception", .type "BaseException", .type "object"] true sn_x14 su_x14 ab_x14 co_x14 dd_x14 m0_x14 m1_x14 m2_x14 m3_x14 m5_x14 "ZeroDivisionError.__new__"))
    (sa_x14 : PySem.W.findIn K (.ref C_x14) "__setattr__" = some (some (.builtin "object.__setattr__")))
    (ga_x14 : PySem.W.findIn K (.ref C_x14) "__getattribute__" = some (some (.builtin "BaseException.__getattribute__")))
    (gg_x14 : PySem.W.findIn K (.ref C_x14) "__getattr__" = some none)
    (cl_x14 : PySem.W.findIn K (.ref C_x14) "__class__" = some (some (.builtin "object.__class__")))
    (mo_x14 : PySem.W.mroIn K C_x14 (.type "object") = some true)
    (kC_x14 : PySem.W.keepIn K (.ref C_x14) = true)
    (eC_x14 : PySem.W.subIn K (.ref C_x14) (.type "BaseException") = some true)
    (tC_x14 : PySem.W.typeIn K (.ref C_x14) = some (.type "type"))
    (hd_x14 : PySem.W.hasDictIn K C_x14 = true)
    (vV_x14 : PySem.W.findCls K (.type "ZeroDivisionError") (.type "type") "__init__" = some (.val (.builtin "ZeroDivisionError.__init__")))
    (i_i_x14 : PySem.W.findIn K (.ref C_x14) "__init__" = some (some (.ref f_i_x14)))
    (ty_i_x14 : PySem.W.typeIn K (.ref f_i_x14) = some (.type "function"))
    (l_i_x14 : K.lookup f_i_x14 = some ⟨oc_i_x14, od_i_x14, .func (PySem.W.fnOf "__init__" "ByNought.__init__" (defArgs sByNoughtI) (defBody sByNoughtI) (defScope sByNoughtI) .none kV_i_x14 dc_i_x14 pm_i_x14 an_i_x14 cd_i_x14 ct_i_x14), sl_i_x14⟩)
    (c_i_x14 : PySem.W.codeIn K cd_i_x14 "ByNought.__init__" = true)
    (k_i_x14 : PySem.W.keepIn K (.ref f_i_x14) = true)
    (aC_x15 : PySem.W.nsIn K mainGlobals "TooMany" = some (some (.ref C_x15)))
    (xC_x15 : K.lookup C_x15 = some (excClassObj nm_x15 q_x15 C_x15 N_x15 bs_x15 [.type "OverflowError", .type "ArithmeticError", .type "Exception", .type "BaseException", .type "object"] true sn_x15 su_x15 ab_x15 co_x15 dd_x15 m0_x15 m1_x15 m2_x15 m3_x15 m5_x15 "OverflowError.__new__"))
    (sa_x15 : PySem.W.findIn K (.ref C_x15) "__setattr__" = some (some (.builtin "object.__setattr__")))
    (ga_x15 : PySem.W.findIn K (.ref C_x15) "__getattribute__" = some (some (.builtin "BaseException.__getattribute__")))
    (gg_x15 : PySem.W.findIn K (.ref C_x15) "__getattr__" = some none)
    (cl_x15 : PySem.W.findIn K (.ref C_x15) "__class__" = some (some (.builtin "object.__class__")))
    (mo_x15 : PySem.W.mroIn K C_x15 (.type "object") = some true)
    (kC_x15 : PySem.W.keepIn K (.ref C_x15) = true)
    (eC_x15 : PySem.W.subIn K (.ref C_x15) (.type "BaseException") = some true)
    (tC_x15 : PySem.W.typeIn K (.ref C_x15) = some (.type "type"))
    (hd_x15 : PySem.W.hasDictIn K C_x15 = true)
    (vV_x15 : PySem.W.findCls K (.type "OverflowError") (.type "type") "__init__" = some (.val (.builtin "OverflowError.__init__")))
    (i_i_x15 : PySem.W.findIn K (.ref C_x15) "__init__" = some (some (.ref f_i_x15)))
    (ty_i_x15 : PySem.W.typeIn K (.ref f_i_x15) = some (.type "function"))
    (l_i_x15 : K.lookup f_i_x15 = some ⟨oc_i_x15, od_i_x15, .func (PySem.W.fnOf "__init__" "TooMany.__init__" (defArgs sTooManyI) (defBody sTooManyI) (defScope sTooManyI) .none kV_i_x15 dc_i_x15 pm_i_x15 an_i_x15 cd_i_x15 ct_i_x15), sl_i_x15⟩)
    (c_i_x15 : PySem.W.codeIn K cd_i_x15 "TooMany.__init__" = true)
    (k_i_x15 : PySem.W.keepIn K (.ref f_i_x15) = true)
    (no_x15_many : PySem.W.findIn K (.ref C_x15) "many" = some none)
    (aC_x16 : PySem.W.nsIn K mainGlobals "NoWord" = some (some (.ref C_x16)))
    (xC_x16 : K.lookup C_x16 = some (excClassObj nm_x16 q_x16 C_x16 N_x16 bs_x16 [.type "IndexError", .type "LookupError", .type "Exception", .type "BaseException", .type "object"] true sn_x16 su_x16 ab_x16 co_x16 dd_x16 m0_x16 m1_x16 m2_x16 m3_x16 m5_x16 "IndexError.__new__"))
    (sa_x16 : PySem.W.findIn K (.ref C_x16) "__setattr__" = some (some (.builtin "object.__setattr__")))
    (ga_x16 : PySem.W.findIn K (.ref C_x16) "__getattribute__" = some (some (.builtin "BaseException.__getattribute__")))
    (gg_x16 : PySem.W.findIn K (.ref C_x16) "__getattr__" = some none)
    (cl_x16 : PySem.W.findIn K (.ref C_x16) "__class__" = some (some (.builtin "object.__class__")))
    (mo_x16 : PySem.W.mroIn K C_x16 (.type "object") = some true)
    (kC_x16 : PySem.W.keepIn K (.ref C_x16) = true)
    (eC_x16 : PySem.W.subIn K (.ref C_x16) (.type "BaseException") = some true)
    (tC_x16 : PySem.W.typeIn K (.ref C_x16) = some (.type "type"))
    (hd_x16 : PySem.W.hasDictIn K C_x16 = true)
    (vV_x16 : PySem.W.findCls K (.type "IndexError") (.type "type") "__init__" = some (.val (.builtin "IndexError.__init__")))
    (i_i_x16 : PySem.W.findIn K (.ref C_x16) "__init__" = some (some (.ref f_i_x16)))
    (ty_i_x16 : PySem.W.typeIn K (.ref f_i_x16) = some (.type "function"))
    (l_i_x16 : K.lookup f_i_x16 = some ⟨oc_i_x16, od_i_x16, .func (PySem.W.fnOf "__init__" "NoWord.__init__" (defArgs sNoWordI) (defBody sNoWordI) (defScope sNoWordI) .none kV_i_x16 dc_i_x16 pm_i_x16 an_i_x16 cd_i_x16 ct_i_x16), sl_i_x16⟩)
    (c_i_x16 : PySem.W.codeIn K cd_i_x16 "NoWord.__init__" = true)
    (k_i_x16 : PySem.W.keepIn K (.ref f_i_x16) = true)
    (no_x16_word : PySem.W.findIn K (.ref C_x16) "word" = some none)
    (aC_x17 : PySem.W.nsIn K mainGlobals "NoDeed" = some (some (.ref C_x17)))
    (xC_x17 : K.lookup C_x17 = some (excClassObj nm_x17 q_x17 C_x17 N_x17 bs_x17 [.type "IndexError", .type "LookupError", .type "Exception", .type "BaseException", .type "object"] true sn_x17 su_x17 ab_x17 co_x17 dd_x17 m0_x17 m1_x17 m2_x17 m3_x17 m5_x17 "IndexError.__new__"))
    (sa_x17 : PySem.W.findIn K (.ref C_x17) "__setattr__" = some (some (.builtin "object.__setattr__")))
    (ga_x17 : PySem.W.findIn K (.ref C_x17) "__getattribute__" = some (some (.builtin "BaseException.__getattribute__")))
    (gg_x17 : PySem.W.findIn K (.ref C_x17) "__getattr__" = some none)
    (cl_x17 : PySem.W.findIn K (.ref C_x17) "__class__" = some (some (.builtin "object.__class__")))
    (mo_x17 : PySem.W.mroIn K C_x17 (.type "object") = some true)
    (kC_x17 : PySem.W.keepIn K (.ref C_x17) = true)
    (eC_x17 : PySem.W.subIn K (.ref C_x17) (.type "BaseException") = some true)
    (tC_x17 : PySem.W.typeIn K (.ref C_x17) = some (.type "type"))
    (hd_x17 : PySem.W.hasDictIn K C_x17 = true)
    (vV_x17 : PySem.W.findCls K (.type "IndexError") (.type "type") "__init__" = some (.val (.builtin "IndexError.__init__")))
    (i_i_x17 : PySem.W.findIn K (.ref C_x17) "__init__" = some (some (.ref f_i_x17)))
    (ty_i_x17 : PySem.W.typeIn K (.ref f_i_x17) = some (.type "function"))
    (l_i_x17 : K.lookup f_i_x17 = some ⟨oc_i_x17, od_i_x17, .func (PySem.W.fnOf "__init__" "NoDeed.__init__" (defArgs sNoDeedI) (defBody sNoDeedI) (defScope sNoDeedI) .none kV_i_x17 dc_i_x17 pm_i_x17 an_i_x17 cd_i_x17 ct_i_x17), sl_i_x17⟩)
    (c_i_x17 : PySem.W.codeIn K cd_i_x17 "NoDeed.__init__" = true)
    (k_i_x17 : PySem.W.keepIn K (.ref f_i_x17) = true)
    (no_x17_number : PySem.W.findIn K (.ref C_x17) "number" = some none)
    (aC_x18 : PySem.W.nsIn K mainGlobals "NoName" = some (some (.ref C_x18)))
    (xC_x18 : K.lookup C_x18 = some (excClassObj nm_x18 q_x18 C_x18 N_x18 bs_x18 [.type "KeyError", .type "LookupError", .type "Exception", .type "BaseException", .type "object"] true sn_x18 su_x18 ab_x18 co_x18 dd_x18 m0_x18 m1_x18 m2_x18 m3_x18 m5_x18 "LookupError.__new__"))
    (sa_x18 : PySem.W.findIn K (.ref C_x18) "__setattr__" = some (some (.builtin "object.__setattr__")))
    (ga_x18 : PySem.W.findIn K (.ref C_x18) "__getattribute__" = some (some (.builtin "BaseException.__getattribute__")))
    (gg_x18 : PySem.W.findIn K (.ref C_x18) "__getattr__" = some none)
    (cl_x18 : PySem.W.findIn K (.ref C_x18) "__class__" = some (some (.builtin "object.__class__")))
    (mo_x18 : PySem.W.mroIn K C_x18 (.type "object") = some true)
    (kC_x18 : PySem.W.keepIn K (.ref C_x18) = true)
    (eC_x18 : PySem.W.subIn K (.ref C_x18) (.type "BaseException") = some true)
    (tC_x18 : PySem.W.typeIn K (.ref C_x18) = some (.type "type"))
    (hd_x18 : PySem.W.hasDictIn K C_x18 = true)
    (vV_x18 : PySem.W.findCls K (.type "KeyError") (.type "type") "__init__" = some (.val (.builtin "KeyError.__init__")))
    (i_i_x18 : PySem.W.findIn K (.ref C_x18) "__init__" = some (some (.ref f_i_x18)))
    (ty_i_x18 : PySem.W.typeIn K (.ref f_i_x18) = some (.type "function"))
    (l_i_x18 : K.lookup f_i_x18 = some ⟨oc_i_x18, od_i_x18, .func (PySem.W.fnOf "__init__" "NoName.__init__" (defArgs sNoNameI) (defBody sNoNameI) (defScope sNoNameI) .none kV_i_x18 dc_i_x18 pm_i_x18 an_i_x18 cd_i_x18 ct_i_x18), sl_i_x18⟩)
    (c_i_x18 : PySem.W.codeIn K cd_i_x18 "NoName.__init__" = true)
    (k_i_x18 : PySem.W.keepIn K (.ref f_i_x18) = true)
    (no_x18_name : PySem.W.findIn K (.ref C_x18) "name" = some none)
    (aC_x19 : PySem.W.nsIn K mainGlobals "Unsaid" = some (some (.ref C_x19)))
    (xC_x19 : K.lookup C_x19 = some (excClassObj nm_x19 q_x19 C_x19 N_x19 bs_x19 [.type "LookupError", .type "Exception", .type "BaseException", .type "object"] true sn_x19 su_x19 ab_x19 co_x19 dd_x19 m0_x19 m1_x19 m2_x19 m3_x19 m5_x19 "LookupError.__new__"))
    (sa_x19 : PySem.W.findIn K (.ref C_x19) "__setattr__" = some (some (.builtin "object.__setattr__")))
    (ga_x19 : PySem.W.findIn K (.ref C_x19) "__getattribute__" = some (some (.builtin "BaseException.__getattribute__")))
    (gg_x19 : PySem.W.findIn K (.ref C_x19) "__getattr__" = some none)
    (cl_x19 : PySem.W.findIn K (.ref C_x19) "__class__" = some (some (.builtin "object.__class__")))
    (mo_x19 : PySem.W.mroIn K C_x19 (.type "object") = some true)
    (kC_x19 : PySem.W.keepIn K (.ref C_x19) = true)
    (eC_x19 : PySem.W.subIn K (.ref C_x19) (.type "BaseException") = some true)
    (tC_x19 : PySem.W.typeIn K (.ref C_x19) = some (.type "type"))
    (hd_x19 : PySem.W.hasDictIn K C_x19 = true)
    (vV_x19 : PySem.W.findCls K (.type "LookupError") (.type "type") "__init__" = some (.val (.builtin "LookupError.__init__")))
    (i_i_x19 : PySem.W.findIn K (.ref C_x19) "__init__" = some (some (.ref f_i_x19)))
    (ty_i_x19 : PySem.W.typeIn K (.ref f_i_x19) = some (.type "function"))
    (l_i_x19 : K.lookup f_i_x19 = some ⟨oc_i_x19, od_i_x19, .func (PySem.W.fnOf "__init__" "Unsaid.__init__" (defArgs sUnsaidI) (defBody sUnsaidI) (defScope sUnsaidI) .none kV_i_x19 dc_i_x19 pm_i_x19 an_i_x19 cd_i_x19 ct_i_x19), sl_i_x19⟩)
    (c_i_x19 : PySem.W.codeIn K cd_i_x19 "Unsaid.__init__" = true)
    (k_i_x19 : PySem.W.keepIn K (.ref f_i_x19) = true)
    (no_x19_word : PySem.W.findIn K (.ref C_x19) "word" = some none)
    (aC_x20 : PySem.W.nsIn K mainGlobals "NoPart" = some (some (.ref C_x20)))
    (xC_x20 : K.lookup C_x20 = some (excClassObj nm_x20 q_x20 C_x20 N_x20 bs_x20 [.type "LookupError", .type "Exception", .type "BaseException", .type "object"] true sn_x20 su_x20 ab_x20 co_x20 dd_x20 m0_x20 m1_x20 m2_x20 m3_x20 m5_x20 "LookupError.__new__"))
    (sa_x20 : PySem.W.findIn K (.ref C_x20) "__setattr__" = some (some (.builtin "object.__setattr__")))
    (ga_x20 : PySem.W.findIn K (.ref C_x20) "__getattribute__" = some (some (.builtin "BaseException.__getattribute__")))
    (gg_x20 : PySem.W.findIn K (.ref C_x20) "__getattr__" = some none)
    (cl_x20 : PySem.W.findIn K (.ref C_x20) "__class__" = some (some (.builtin "object.__class__")))
    (mo_x20 : PySem.W.mroIn K C_x20 (.type "object") = some true)
    (kC_x20 : PySem.W.keepIn K (.ref C_x20) = true)
    (eC_x20 : PySem.W.subIn K (.ref C_x20) (.type "BaseException") = some true)
    (tC_x20 : PySem.W.typeIn K (.ref C_x20) = some (.type "type"))
    (hd_x20 : PySem.W.hasDictIn K C_x20 = true)
    (vV_x20 : PySem.W.findCls K (.type "LookupError") (.type "type") "__init__" = some (.val (.builtin "LookupError.__init__")))
    (i_i_x20 : PySem.W.findIn K (.ref C_x20) "__init__" = some (some (.ref f_i_x20)))
    (ty_i_x20 : PySem.W.typeIn K (.ref f_i_x20) = some (.type "function"))
    (l_i_x20 : K.lookup f_i_x20 = some ⟨oc_i_x20, od_i_x20, .func (PySem.W.fnOf "__init__" "NoPart.__init__" (defArgs sNoPartI) (defBody sNoPartI) (defScope sNoPartI) .none kV_i_x20 dc_i_x20 pm_i_x20 an_i_x20 cd_i_x20 ct_i_x20), sl_i_x20⟩)
    (c_i_x20 : PySem.W.codeIn K cd_i_x20 "NoPart.__init__" = true)
    (k_i_x20 : PySem.W.keepIn K (.ref f_i_x20) = true)
    (no_x20_part : PySem.W.findIn K (.ref C_x20) "part" = some none)
    (aC_x21 : PySem.W.nsIn K mainGlobals "Bare" = some (some (.ref C_x21)))
    (xC_x21 : K.lookup C_x21 = some (excClassObj nm_x21 q_x21 C_x21 N_x21 bs_x21 [.type "RuntimeError", .type "Exception", .type "BaseException", .type "object"] true sn_x21 su_x21 ab_x21 co_x21 dd_x21 m0_x21 m1_x21 m2_x21 m3_x21 m5_x21 "RuntimeError.__new__"))
    (sa_x21 : PySem.W.findIn K (.ref C_x21) "__setattr__" = some (some (.builtin "object.__setattr__")))
    (ga_x21 : PySem.W.findIn K (.ref C_x21) "__getattribute__" = some (some (.builtin "BaseException.__getattribute__")))
    (gg_x21 : PySem.W.findIn K (.ref C_x21) "__getattr__" = some none)
    (cl_x21 : PySem.W.findIn K (.ref C_x21) "__class__" = some (some (.builtin "object.__class__")))
    (mo_x21 : PySem.W.mroIn K C_x21 (.type "object") = some true)
    (kC_x21 : PySem.W.keepIn K (.ref C_x21) = true)
    (eC_x21 : PySem.W.subIn K (.ref C_x21) (.type "BaseException") = some true)
    (tC_x21 : PySem.W.typeIn K (.ref C_x21) = some (.type "type"))
    (hd_x21 : PySem.W.hasDictIn K C_x21 = true)
    (vV_x21 : PySem.W.findCls K (.type "RuntimeError") (.type "type") "__init__" = some (.val (.builtin "RuntimeError.__init__")))
    (i_i_x21 : PySem.W.findIn K (.ref C_x21) "__init__" = some (some (.ref f_i_x21)))
    (ty_i_x21 : PySem.W.typeIn K (.ref f_i_x21) = some (.type "function"))
    (l_i_x21 : K.lookup f_i_x21 = some ⟨oc_i_x21, od_i_x21, .func (PySem.W.fnOf "__init__" "Bare.__init__" (defArgs sBareI) (defBody sBareI) (defScope sBareI) .none kV_i_x21 dc_i_x21 pm_i_x21 an_i_x21 cd_i_x21 ct_i_x21), sl_i_x21⟩)
    (c_i_x21 : PySem.W.codeIn K cd_i_x21 "Bare.__init__" = true)
    (k_i_x21 : PySem.W.keepIn K (.ref f_i_x21) = true)
    (no_x21_many : PySem.W.findIn K (.ref C_x21) "many" = some none)
    (sb_x18_x18 : PySem.W.subIn K (.ref C_x18) (.ref C_x18) = some true)
    (nd_ : [C_x0, C_x1, C_x2, C_x3, C_x4, C_x5, C_x6, C_x7, C_x8, C_x9, C_x10, C_x11, C_x12, C_x13, C_x14, C_x15, C_x16, C_x17, C_x18, C_x19, C_x20, C_x21].Nodup)
    (a_d_law_left : PySem.W.nsIn K mainGlobals "_law_left" = some (some (.ref f_d_law_left)))
    (l_d_law_left : K.lookup f_d_law_left = some ⟨oc_d_law_left, od_d_law_left, .func (PySem.W.fnOf "_law_left" "_law_left" (defArgs sLeft) (defBody sLeft) (defScope sLeft) .none kV_d_law_left dc_d_law_left pm_d_law_left an_d_law_left cd_d_law_left ct_d_law_left), sl_d_law_left⟩)
    (c_d_law_left : PySem.W.codeIn K cd_d_law_left "_law_left" = true)
    (k_d_law_left : PySem.W.keepIn K (.ref f_d_law_left) = true)
    (a_d_law_digit : PySem.W.nsIn K mainGlobals "_law_digit" = some (some (.ref f_d_law_digit)))
    (l_d_law_digit : K.lookup f_d_law_digit = some ⟨oc_d_law_digit, od_d_law_digit, .func (PySem.W.fnOf "_law_digit" "_law_digit" (defArgs sDigit) (defBody sDigit) (defScope sDigit) .none kV_d_law_digit dc_d_law_digit pm_d_law_digit an_d_law_digit cd_d_law_digit ct_d_law_digit), sl_d_law_digit⟩)
    (c_d_law_digit : PySem.W.codeIn K cd_d_law_digit "_law_digit" = true)
    (k_d_law_digit : PySem.W.keepIn K (.ref f_d_law_digit) = true)
    (a_d_law_all : PySem.W.nsIn K mainGlobals "_law_all" = some (some (.ref f_d_law_all)))
    (l_d_law_all : K.lookup f_d_law_all = some ⟨oc_d_law_all, od_d_law_all, .func (PySem.W.fnOf "_law_all" "_law_all" (defArgs sAll) (defBody sAll) (defScope sAll) .none kV_d_law_all dc_d_law_all pm_d_law_all an_d_law_all cd_d_law_all ct_d_law_all), sl_d_law_all⟩)
    (c_d_law_all : PySem.W.codeIn K cd_d_law_all "_law_all" = true)
    (k_d_law_all : PySem.W.keepIn K (.ref f_d_law_all) = true)
    (a_d_law_kinds : PySem.W.nsIn K mainGlobals "_law_kinds" = some (some (.ref f_d_law_kinds)))
    (l_d_law_kinds : K.lookup f_d_law_kinds = some ⟨oc_d_law_kinds, od_d_law_kinds, .func (PySem.W.fnOf "_law_kinds" "_law_kinds" (defArgs sKinds) (defBody sKinds) (defScope sKinds) .none kV_d_law_kinds dc_d_law_kinds pm_d_law_kinds an_d_law_kinds cd_d_law_kinds ct_d_law_kinds), sl_d_law_kinds⟩)
    (c_d_law_kinds : PySem.W.codeIn K cd_d_law_kinds "_law_kinds" = true)
    (k_d_law_kinds : PySem.W.keepIn K (.ref f_d_law_kinds) = true)
    (a_d_law_above : PySem.W.nsIn K mainGlobals "_law_above" = some (some (.ref f_d_law_above)))
    (l_d_law_above : K.lookup f_d_law_above = some ⟨oc_d_law_above, od_d_law_above, .func (PySem.W.fnOf "_law_above" "_law_above" (defArgs sAbove) (defBody sAbove) (defScope sAbove) .none kV_d_law_above dc_d_law_above pm_d_law_above an_d_law_above cd_d_law_above ct_d_law_above), sl_d_law_above⟩)
    (c_d_law_above : PySem.W.codeIn K cd_d_law_above "_law_above" = true)
    (k_d_law_above : PySem.W.keepIn K (.ref f_d_law_above) = true)
    (a_d_law_fields : PySem.W.nsIn K mainGlobals "_law_fields" = some (some (.ref f_d_law_fields)))
    (l_d_law_fields : K.lookup f_d_law_fields = some ⟨oc_d_law_fields, od_d_law_fields, .func (PySem.W.fnOf "_law_fields" "_law_fields" (defArgs sFields) (defBody sFields) (defScope sFields) .none kV_d_law_fields dc_d_law_fields pm_d_law_fields an_d_law_fields cd_d_law_fields ct_d_law_fields), sl_d_law_fields⟩)
    (c_d_law_fields : PySem.W.codeIn K cd_d_law_fields "_law_fields" = true)
    (k_d_law_fields : PySem.W.keepIn K (.ref f_d_law_fields) = true)
    (a_d_law_raised : PySem.W.nsIn K mainGlobals "_law_raised" = some (some (.ref f_d_law_raised)))
    (l_d_law_raised : K.lookup f_d_law_raised = some ⟨oc_d_law_raised, od_d_law_raised, .func (PySem.W.fnOf "_law_raised" "_law_raised" (defArgs sRaised) (defBody sRaised) (defScope sRaised) .none kV_d_law_raised dc_d_law_raised pm_d_law_raised an_d_law_raised cd_d_law_raised ct_d_law_raised), sl_d_law_raised⟩)
    (c_d_law_raised : PySem.W.codeIn K cd_d_law_raised "_law_raised" = true)
    (k_d_law_raised : PySem.W.keepIn K (.ref f_d_law_raised) = true)
    (a_d_law : PySem.W.nsIn K mainGlobals "law" = some (some (.ref f_d_law)))
    (l_d_law : K.lookup f_d_law = some ⟨oc_d_law, od_d_law, .func (PySem.W.fnOf "law" "law" (defArgs sLaw) (defBody sLaw) (defScope sLaw) .none kV_d_law dc_d_law pm_d_law an_d_law cd_d_law ct_d_law), sl_d_law⟩)
    (c_d_law : PySem.W.codeIn K cd_d_law "law" = true)
    (k_d_law : PySem.W.keepIn K (.ref f_d_law) = true)
    (z_abs : PySem.W.nsIn K mainGlobals "abs" = some none)
    (z_isinstance : PySem.W.nsIn K mainGlobals "isinstance" = some none)
    (z_int : PySem.W.nsIn K mainGlobals "int" = some none)
    (z_bool : PySem.W.nsIn K mainGlobals "bool" = some none)
    (z_tuple : PySem.W.nsIn K mainGlobals "tuple" = some none)
    (z_list : PySem.W.nsIn K mainGlobals "list" = some none)
    (z_len : PySem.W.nsIn K mainGlobals "len" = some none)
    (z_range : PySem.W.nsIn K mainGlobals "range" = some none)
    (z_str : PySem.W.nsIn K mainGlobals "str" = some none)
    (z_repr : PySem.W.nsIn K mainGlobals "repr" = some none)
    (z_sum : PySem.W.nsIn K mainGlobals "sum" = some none)
    (z_all : PySem.W.nsIn K mainGlobals "all" = some none)
    (z_any : PySem.W.nsIn K mainGlobals "any" = some none)
    (z_enumerate : PySem.W.nsIn K mainGlobals "enumerate" = some none)
    (z_zip : PySem.W.nsIn K mainGlobals "zip" = some none)
    (z_min : PySem.W.nsIn K mainGlobals "min" = some none)
    (z_max : PySem.W.nsIn K mainGlobals "max" = some none)
    (z_sorted : PySem.W.nsIn K mainGlobals "sorted" = some none)
    (z_ValueError : PySem.W.nsIn K mainGlobals "ValueError" = some none)
    (z_ZeroDivisionError : PySem.W.nsIn K mainGlobals "ZeroDivisionError" = some none)
    (z_OverflowError : PySem.W.nsIn K mainGlobals "OverflowError" = some none)
    (z_IndexError : PySem.W.nsIn K mainGlobals "IndexError" = some none)
    (z_LookupError : PySem.W.nsIn K mainGlobals "LookupError" = some none)
    (z_ArithmeticError : PySem.W.nsIn K mainGlobals "ArithmeticError" = some none)
    (z_KeyError : PySem.W.nsIn K mainGlobals "KeyError" = some none)
    (z_RuntimeError : PySem.W.nsIn K mainGlobals "RuntimeError" = some none) :
    ∃ fd : FuncData, (∀ (s : Shared) (v : Value), BindsTo s fd ⟨[v], []⟩ [("_law_script", v)]) ∧ ∀ base : Heap, K.In base → base.Ns mainGlobals mg → FnOkG l.prog w K mg base CX0 5 fa fd ["_law_script"] (spLaw K) := by
  have e := hfa.symm.trans (PySem.W.mg_of X G a_d_law)
  cases e
  have B : Blt mg := ⟨PySem.W.mg_none_of X G z_abs, PySem.W.mg_none_of X G z_isinstance, PySem.W.mg_none_of X G z_int, PySem.W.mg_none_of X G z_bool, PySem.W.mg_none_of X G z_tuple, PySem.W.mg_none_of X G z_list, PySem.W.mg_none_of X G z_len, PySem.W.mg_none_of X G z_range, PySem.W.mg_none_of X G z_str, PySem.W.mg_none_of X G z_repr, PySem.W.mg_none_of X G z_sum, PySem.W.mg_none_of X G z_all, PySem.W.mg_none_of X G z_any, PySem.W.mg_none_of X G z_enumerate, PySem.W.mg_none_of X G z_zip, PySem.W.mg_none_of X G z_min, PySem.W.mg_none_of X G z_max, PySem.W.mg_none_of X G z_sorted, PySem.W.mg_none_of X G z_ValueError, PySem.W.mg_none_of X G z_ZeroDivisionError, PySem.W.mg_none_of X G z_OverflowError, PySem.W.mg_none_of X G z_IndexError, PySem.W.mg_none_of X G z_LookupError, PySem.W.mg_none_of X G z_ArithmeticError, PySem.W.mg_none_of X G z_KeyError, PySem.W.mg_none_of X G z_RuntimeError⟩
  have ex_x0 : ExcC K C_x0 := ⟨ga_x0, gg_x0, eC_x0, hd_x0, cl_x0, sp_, tk_, mo_x0⟩
  have xf_x0 : XfC K C_x0 := ⟨ga_x0, gg_x0, eC_x0, hd_x0⟩
  have gC_x0 := PySem.W.mg_of X G aC_x0
  have oex_x0 : OexC K C_x0 := ⟨⟨nm_x0, q_x0, N_x0, bs_x0, _, sn_x0, su_x0, ab_x0, co_x0, dd_x0, m0_x0, m1_x0, m2_x0, m3_x0, m5_x0, xC_x0, by decide +kernel⟩, sa_x0, eC_x0, tC_x0, kC_x0⟩
  have exc_x0 : ExC K C_x0 "ValueError.__new__" [.type "ValueError", .type "Exception", .type "BaseException", .type "object"] := ⟨⟨nm_x0, q_x0, N_x0, bs_x0, sn_x0, su_x0, ab_x0, co_x0, dd_x0, m0_x0, m1_x0, m2_x0, m3_x0, m5_x0, xC_x0⟩, eC_x0, tC_x0, kC_x0⟩
  have F_i_x0 := fun_mk (st := sNoNumberI) l_i_x0 c_i_x0 k_i_x0
  have b_i_x0 := F_i_x0.binds (ps := ["self", "number"]) fun _ _ _ _ _ _ us hl => match us, hl with | [_, _], _ => rfl
  have ex_x1 : ExcC K C_x1 := ⟨ga_x1, gg_x1, eC_x1, hd_x1, cl_x1, sp_, tk_, mo_x1⟩
  have xf_x1 : XfC K C_x1 := ⟨ga_x1, gg_x1, eC_x1, hd_x1⟩
  have gC_x1 := PySem.W.mg_of X G aC_x1
  have oex_x1 : OexC K C_x1 := ⟨⟨nm_x1, q_x1, N_x1, bs_x1, _, sn_x1, su_x1, ab_x1, co_x1, dd_x1, m0_x1, m1_x1, m2_x1, m3_x1, m5_x1, xC_x1, by decide +kernel⟩, sa_x1, eC_x1, tC_x1, kC_x1⟩
  have exc_x1 : ExC K C_x1 "ValueError.__new__" [.type "ValueError", .type "Exception", .type "BaseException", .type "object"] := ⟨⟨nm_x1, q_x1, N_x1, bs_x1, sn_x1, su_x1, ab_x1, co_x1, dd_x1, m0_x1, m1_x1, m2_x1, m3_x1, m5_x1, xC_x1⟩, eC_x1, tC_x1, kC_x1⟩
  have F_i_x1 := fun_mk (st := sNoTextI) l_i_x1 c_i_x1 k_i_x1
  have b_i_x1 := F_i_x1.binds (ps := ["self", "part"]) fun _ _ _ _ _ _ us hl => match us, hl with | [_, _], _ => rfl
  have ex_x2 : ExcC K C_x2 := ⟨ga_x2, gg_x2, eC_x2, hd_x2, cl_x2, sp_, tk_, mo_x2⟩
  have xf_x2 : XfC K C_x2 := ⟨ga_x2, gg_x2, eC_x2, hd_x2⟩
  have gC_x2 := PySem.W.mg_of X G aC_x2
  have oex_x2 : OexC K C_x2 := ⟨⟨nm_x2, q_x2, N_x2, bs_x2, _, sn_x2, su_x2, ab_x2, co_x2, dd_x2, m0_x2, m1_x2, m2_x2, m3_x2, m5_x2, xC_x2, by decide +kernel⟩, sa_x2, eC_x2, tC_x2, kC_x2⟩
  have exc_x2 : ExC K C_x2 "ValueError.__new__" [.type "ValueError", .type "Exception", .type "BaseException", .type "object"] := ⟨⟨nm_x2, q_x2, N_x2, bs_x2, sn_x2, su_x2, ab_x2, co_x2, dd_x2, m0_x2, m1_x2, m2_x2, m3_x2, m5_x2, xC_x2⟩, eC_x2, tC_x2, kC_x2⟩
  have F_i_x2 := fun_mk (st := sNoCaseI) l_i_x2 c_i_x2 k_i_x2
  have b_i_x2 := F_i_x2.binds (ps := ["self", "part", "number"]) fun _ _ _ _ _ _ us hl => match us, hl with | [_, _, _], _ => rfl
  have ex_x3 : ExcC K C_x3 := ⟨ga_x3, gg_x3, eC_x3, hd_x3, cl_x3, sp_, tk_, mo_x3⟩
  have xf_x3 : XfC K C_x3 := ⟨ga_x3, gg_x3, eC_x3, hd_x3⟩
  have gC_x3 := PySem.W.mg_of X G aC_x3
  have oex_x3 : OexC K C_x3 := ⟨⟨nm_x3, q_x3, N_x3, bs_x3, _, sn_x3, su_x3, ab_x3, co_x3, dd_x3, m0_x3, m1_x3, m2_x3, m3_x3, m5_x3, xC_x3, by decide +kernel⟩, sa_x3, eC_x3, tC_x3, kC_x3⟩
  have exc_x3 : ExC K C_x3 "ValueError.__new__" [.type "ValueError", .type "Exception", .type "BaseException", .type "object"] := ⟨⟨nm_x3, q_x3, N_x3, bs_x3, sn_x3, su_x3, ab_x3, co_x3, dd_x3, m0_x3, m1_x3, m2_x3, m3_x3, m5_x3, xC_x3⟩, eC_x3, tC_x3, kC_x3⟩
  have F_i_x3 := fun_mk (st := sNoRuleI) l_i_x3 c_i_x3 k_i_x3
  have b_i_x3 := F_i_x3.binds (ps := ["self", "world"]) fun _ _ _ _ _ _ us hl => match us, hl with | [_, _], _ => rfl
  have ex_x4 : ExcC K C_x4 := ⟨ga_x4, gg_x4, eC_x4, hd_x4, cl_x4, sp_, tk_, mo_x4⟩
  have xf_x4 : XfC K C_x4 := ⟨ga_x4, gg_x4, eC_x4, hd_x4⟩
  have gC_x4 := PySem.W.mg_of X G aC_x4
  have oex_x4 : OexC K C_x4 := ⟨⟨nm_x4, q_x4, N_x4, bs_x4, _, sn_x4, su_x4, ab_x4, co_x4, dd_x4, m0_x4, m1_x4, m2_x4, m3_x4, m5_x4, xC_x4, by decide +kernel⟩, sa_x4, eC_x4, tC_x4, kC_x4⟩
  have exc_x4 : ExC K C_x4 "ValueError.__new__" [.type "ValueError", .type "Exception", .type "BaseException", .type "object"] := ⟨⟨nm_x4, q_x4, N_x4, bs_x4, sn_x4, su_x4, ab_x4, co_x4, dd_x4, m0_x4, m1_x4, m2_x4, m3_x4, m5_x4, xC_x4⟩, eC_x4, tC_x4, kC_x4⟩
  have F_i_x4 := fun_mk (st := sNoBeliefsI) l_i_x4 c_i_x4 k_i_x4
  have b_i_x4 := F_i_x4.binds (ps := ["self"]) fun _ _ _ _ _ _ us hl => match us, hl with | [_], _ => rfl
  have ex_x5 : ExcC K C_x5 := ⟨ga_x5, gg_x5, eC_x5, hd_x5, cl_x5, sp_, tk_, mo_x5⟩
  have xf_x5 : XfC K C_x5 := ⟨ga_x5, gg_x5, eC_x5, hd_x5⟩
  have gC_x5 := PySem.W.mg_of X G aC_x5
  have oex_x5 : OexC K C_x5 := ⟨⟨nm_x5, q_x5, N_x5, bs_x5, _, sn_x5, su_x5, ab_x5, co_x5, dd_x5, m0_x5, m1_x5, m2_x5, m3_x5, m5_x5, xC_x5, by decide +kernel⟩, sa_x5, eC_x5, tC_x5, kC_x5⟩
  have exc_x5 : ExC K C_x5 "ValueError.__new__" [.type "ValueError", .type "Exception", .type "BaseException", .type "object"] := ⟨⟨nm_x5, q_x5, N_x5, bs_x5, sn_x5, su_x5, ab_x5, co_x5, dd_x5, m0_x5, m1_x5, m2_x5, m3_x5, m5_x5, xC_x5⟩, eC_x5, tC_x5, kC_x5⟩
  have F_i_x5 := fun_mk (st := sNoSharesI) l_i_x5 c_i_x5 k_i_x5
  have b_i_x5 := F_i_x5.binds (ps := ["self"]) fun _ _ _ _ _ _ us hl => match us, hl with | [_], _ => rfl
  have ex_x6 : ExcC K C_x6 := ⟨ga_x6, gg_x6, eC_x6, hd_x6, cl_x6, sp_, tk_, mo_x6⟩
  have xf_x6 : XfC K C_x6 := ⟨ga_x6, gg_x6, eC_x6, hd_x6⟩
  have gC_x6 := PySem.W.mg_of X G aC_x6
  have oex_x6 : OexC K C_x6 := ⟨⟨nm_x6, q_x6, N_x6, bs_x6, _, sn_x6, su_x6, ab_x6, co_x6, dd_x6, m0_x6, m1_x6, m2_x6, m3_x6, m5_x6, xC_x6, by decide +kernel⟩, sa_x6, eC_x6, tC_x6, kC_x6⟩
  have exc_x6 : ExC K C_x6 "ValueError.__new__" [.type "ValueError", .type "Exception", .type "BaseException", .type "object"] := ⟨⟨nm_x6, q_x6, N_x6, bs_x6, sn_x6, su_x6, ab_x6, co_x6, dd_x6, m0_x6, m1_x6, m2_x6, m3_x6, m5_x6, xC_x6⟩, eC_x6, tC_x6, kC_x6⟩
  have F_i_x6 := fun_mk (st := sNoAdviceI) l_i_x6 c_i_x6 k_i_x6
  have b_i_x6 := F_i_x6.binds (ps := ["self", "words"]) fun _ _ _ _ _ _ us hl => match us, hl with | [_, _], _ => rfl
  have ex_x7 : ExcC K C_x7 := ⟨ga_x7, gg_x7, eC_x7, hd_x7, cl_x7, sp_, tk_, mo_x7⟩
  have xf_x7 : XfC K C_x7 := ⟨ga_x7, gg_x7, eC_x7, hd_x7⟩
  have gC_x7 := PySem.W.mg_of X G aC_x7
  have oex_x7 : OexC K C_x7 := ⟨⟨nm_x7, q_x7, N_x7, bs_x7, _, sn_x7, su_x7, ab_x7, co_x7, dd_x7, m0_x7, m1_x7, m2_x7, m3_x7, m5_x7, xC_x7, by decide +kernel⟩, sa_x7, eC_x7, tC_x7, kC_x7⟩
  have exc_x7 : ExC K C_x7 "ValueError.__new__" [.type "ValueError", .type "Exception", .type "BaseException", .type "object"] := ⟨⟨nm_x7, q_x7, N_x7, bs_x7, sn_x7, su_x7, ab_x7, co_x7, dd_x7, m0_x7, m1_x7, m2_x7, m3_x7, m5_x7, xC_x7⟩, eC_x7, tC_x7, kC_x7⟩
  have F_i_x7 := fun_mk (st := sNoGroupsI) l_i_x7 c_i_x7 k_i_x7
  have b_i_x7 := F_i_x7.binds (ps := ["self", "word"]) fun _ _ _ _ _ _ us hl => match us, hl with | [_, _], _ => rfl
  have ex_x8 : ExcC K C_x8 := ⟨ga_x8, gg_x8, eC_x8, hd_x8, cl_x8, sp_, tk_, mo_x8⟩
  have xf_x8 : XfC K C_x8 := ⟨ga_x8, gg_x8, eC_x8, hd_x8⟩
  have gC_x8 := PySem.W.mg_of X G aC_x8
  have oex_x8 : OexC K C_x8 := ⟨⟨nm_x8, q_x8, N_x8, bs_x8, _, sn_x8, su_x8, ab_x8, co_x8, dd_x8, m0_x8, m1_x8, m2_x8, m3_x8, m5_x8, xC_x8, by decide +kernel⟩, sa_x8, eC_x8, tC_x8, kC_x8⟩
  have exc_x8 : ExC K C_x8 "ValueError.__new__" [.type "ValueError", .type "Exception", .type "BaseException", .type "object"] := ⟨⟨nm_x8, q_x8, N_x8, bs_x8, sn_x8, su_x8, ab_x8, co_x8, dd_x8, m0_x8, m1_x8, m2_x8, m3_x8, m5_x8, xC_x8⟩, eC_x8, tC_x8, kC_x8⟩
  have F_i_x8 := fun_mk (st := sNoHearersI) l_i_x8 c_i_x8 k_i_x8
  have b_i_x8 := F_i_x8.binds (ps := ["self", "number"]) fun _ _ _ _ _ _ us hl => match us, hl with | [_, _], _ => rfl
  have ex_x9 : ExcC K C_x9 := ⟨ga_x9, gg_x9, eC_x9, hd_x9, cl_x9, sp_, tk_, mo_x9⟩
  have xf_x9 : XfC K C_x9 := ⟨ga_x9, gg_x9, eC_x9, hd_x9⟩
  have gC_x9 := PySem.W.mg_of X G aC_x9
  have oex_x9 : OexC K C_x9 := ⟨⟨nm_x9, q_x9, N_x9, bs_x9, _, sn_x9, su_x9, ab_x9, co_x9, dd_x9, m0_x9, m1_x9, m2_x9, m3_x9, m5_x9, xC_x9, by decide +kernel⟩, sa_x9, eC_x9, tC_x9, kC_x9⟩
  have exc_x9 : ExC K C_x9 "ValueError.__new__" [.type "ValueError", .type "Exception", .type "BaseException", .type "object"] := ⟨⟨nm_x9, q_x9, N_x9, bs_x9, sn_x9, su_x9, ab_x9, co_x9, dd_x9, m0_x9, m1_x9, m2_x9, m3_x9, m5_x9, xC_x9⟩, eC_x9, tC_x9, kC_x9⟩
  have F_i_x9 := fun_mk (st := sNoCountsI) l_i_x9 c_i_x9 k_i_x9
  have b_i_x9 := F_i_x9.binds (ps := ["self"]) fun _ _ _ _ _ _ us hl => match us, hl with | [_], _ => rfl
  have ex_x10 : ExcC K C_x10 := ⟨ga_x10, gg_x10, eC_x10, hd_x10, cl_x10, sp_, tk_, mo_x10⟩
  have xf_x10 : XfC K C_x10 := ⟨ga_x10, gg_x10, eC_x10, hd_x10⟩
  have gC_x10 := PySem.W.mg_of X G aC_x10
  have oex_x10 : OexC K C_x10 := ⟨⟨nm_x10, q_x10, N_x10, bs_x10, _, sn_x10, su_x10, ab_x10, co_x10, dd_x10, m0_x10, m1_x10, m2_x10, m3_x10, m5_x10, xC_x10, by decide +kernel⟩, sa_x10, eC_x10, tC_x10, kC_x10⟩
  have exc_x10 : ExC K C_x10 "ValueError.__new__" [.type "ValueError", .type "Exception", .type "BaseException", .type "object"] := ⟨⟨nm_x10, q_x10, N_x10, bs_x10, sn_x10, su_x10, ab_x10, co_x10, dd_x10, m0_x10, m1_x10, m2_x10, m3_x10, m5_x10, xC_x10⟩, eC_x10, tC_x10, kC_x10⟩
  have F_i_x10 := fun_mk (st := sNoOrderI) l_i_x10 c_i_x10 k_i_x10
  have b_i_x10 := F_i_x10.binds (ps := ["self", "part"]) fun _ _ _ _ _ _ us hl => match us, hl with | [_, _], _ => rfl
  have ex_x11 : ExcC K C_x11 := ⟨ga_x11, gg_x11, eC_x11, hd_x11, cl_x11, sp_, tk_, mo_x11⟩
  have xf_x11 : XfC K C_x11 := ⟨ga_x11, gg_x11, eC_x11, hd_x11⟩
  have gC_x11 := PySem.W.mg_of X G aC_x11
  have oex_x11 : OexC K C_x11 := ⟨⟨nm_x11, q_x11, N_x11, bs_x11, _, sn_x11, su_x11, ab_x11, co_x11, dd_x11, m0_x11, m1_x11, m2_x11, m3_x11, m5_x11, xC_x11, by decide +kernel⟩, sa_x11, eC_x11, tC_x11, kC_x11⟩
  have exc_x11 : ExC K C_x11 "ValueError.__new__" [.type "ValueError", .type "Exception", .type "BaseException", .type "object"] := ⟨⟨nm_x11, q_x11, N_x11, bs_x11, sn_x11, su_x11, ab_x11, co_x11, dd_x11, m0_x11, m1_x11, m2_x11, m3_x11, m5_x11, xC_x11⟩, eC_x11, tC_x11, kC_x11⟩
  have F_i_x11 := fun_mk (st := sNoRowI) l_i_x11 c_i_x11 k_i_x11
  have b_i_x11 := F_i_x11.binds (ps := ["self"]) fun _ _ _ _ _ _ us hl => match us, hl with | [_], _ => rfl
  have ex_x12 : ExcC K C_x12 := ⟨ga_x12, gg_x12, eC_x12, hd_x12, cl_x12, sp_, tk_, mo_x12⟩
  have xf_x12 : XfC K C_x12 := ⟨ga_x12, gg_x12, eC_x12, hd_x12⟩
  have gC_x12 := PySem.W.mg_of X G aC_x12
  have oex_x12 : OexC K C_x12 := ⟨⟨nm_x12, q_x12, N_x12, bs_x12, _, sn_x12, su_x12, ab_x12, co_x12, dd_x12, m0_x12, m1_x12, m2_x12, m3_x12, m5_x12, xC_x12, by decide +kernel⟩, sa_x12, eC_x12, tC_x12, kC_x12⟩
  have exc_x12 : ExC K C_x12 "ValueError.__new__" [.type "ValueError", .type "Exception", .type "BaseException", .type "object"] := ⟨⟨nm_x12, q_x12, N_x12, bs_x12, sn_x12, su_x12, ab_x12, co_x12, dd_x12, m0_x12, m1_x12, m2_x12, m3_x12, m5_x12, xC_x12⟩, eC_x12, tC_x12, kC_x12⟩
  have F_i_x12 := fun_mk (st := sUnlikeI) l_i_x12 c_i_x12 k_i_x12
  have b_i_x12 := F_i_x12.binds (ps := ["self", "one", "other"]) fun _ _ _ _ _ _ us hl => match us, hl with | [_, _, _], _ => rfl
  have ex_x13 : ExcC K C_x13 := ⟨ga_x13, gg_x13, eC_x13, hd_x13, cl_x13, sp_, tk_, mo_x13⟩
  have xf_x13 : XfC K C_x13 := ⟨ga_x13, gg_x13, eC_x13, hd_x13⟩
  have gC_x13 := PySem.W.mg_of X G aC_x13
  have exc_x13 : ExC K C_x13 "ArithmeticError.__new__" [.type "ArithmeticError", .type "Exception", .type "BaseException", .type "object"] := ⟨⟨nm_x13, q_x13, N_x13, bs_x13, sn_x13, su_x13, ab_x13, co_x13, dd_x13, m0_x13, m1_x13, m2_x13, m3_x13, m5_x13, xC_x13⟩, eC_x13, tC_x13, kC_x13⟩
  have F_i_x13 := fun_mk (st := sNotTwoI) l_i_x13 c_i_x13 k_i_x13
  have b_i_x13 := F_i_x13.binds (ps := ["self", "many"]) fun _ _ _ _ _ _ us hl => match us, hl with | [_, _], _ => rfl
  have ex_x14 : ExcC K C_x14 := ⟨ga_x14, gg_x14, eC_x14, hd_x14, cl_x14, sp_, tk_, mo_x14⟩
  have xf_x14 : XfC K C_x14 := ⟨ga_x14, gg_x14, eC_x14, hd_x14⟩
  have gC_x14 := PySem.W.mg_of X G aC_x14
  have exc_x14 : ExC K C_x14 "ZeroDivisionError.__new__" [.type "ZeroDivisionError", .type "ArithmeticError", .type "Exception", .type "BaseException", .type "object"] := ⟨⟨nm_x14, q_x14, N_x14, bs_x14, sn_x14, su_x14, ab_x14, co_x14, dd_x14, m0_x14, m1_x14, m2_x14, m3_x14, m5_x14, xC_x14⟩, eC_x14, tC_x14, kC_x14⟩
  have F_i_x14 := fun_mk (st := sByNoughtI) l_i_x14 c_i_x14 k_i_x14
  have b_i_x14 := F_i_x14.binds (ps := ["self"]) fun _ _ _ _ _ _ us hl => match us, hl with | [_], _ => rfl
  have ex_x15 : ExcC K C_x15 := ⟨ga_x15, gg_x15, eC_x15, hd_x15, cl_x15, sp_, tk_, mo_x15⟩
  have xf_x15 : XfC K C_x15 := ⟨ga_x15, gg_x15, eC_x15, hd_x15⟩
  have gC_x15 := PySem.W.mg_of X G aC_x15
  have exc_x15 : ExC K C_x15 "OverflowError.__new__" [.type "OverflowError", .type "ArithmeticError", .type "Exception", .type "BaseException", .type "object"] := ⟨⟨nm_x15, q_x15, N_x15, bs_x15, sn_x15, su_x15, ab_x15, co_x15, dd_x15, m0_x15, m1_x15, m2_x15, m3_x15, m5_x15, xC_x15⟩, eC_x15, tC_x15, kC_x15⟩
  have F_i_x15 := fun_mk (st := sTooManyI) l_i_x15 c_i_x15 k_i_x15
  have b_i_x15 := F_i_x15.binds (ps := ["self", "many"]) fun _ _ _ _ _ _ us hl => match us, hl with | [_, _], _ => rfl
  have ex_x16 : ExcC K C_x16 := ⟨ga_x16, gg_x16, eC_x16, hd_x16, cl_x16, sp_, tk_, mo_x16⟩
  have xf_x16 : XfC K C_x16 := ⟨ga_x16, gg_x16, eC_x16, hd_x16⟩
  have gC_x16 := PySem.W.mg_of X G aC_x16
  have exc_x16 : ExC K C_x16 "IndexError.__new__" [.type "IndexError", .type "LookupError", .type "Exception", .type "BaseException", .type "object"] := ⟨⟨nm_x16, q_x16, N_x16, bs_x16, sn_x16, su_x16, ab_x16, co_x16, dd_x16, m0_x16, m1_x16, m2_x16, m3_x16, m5_x16, xC_x16⟩, eC_x16, tC_x16, kC_x16⟩
  have F_i_x16 := fun_mk (st := sNoWordI) l_i_x16 c_i_x16 k_i_x16
  have b_i_x16 := F_i_x16.binds (ps := ["self", "word"]) fun _ _ _ _ _ _ us hl => match us, hl with | [_, _], _ => rfl
  have ex_x17 : ExcC K C_x17 := ⟨ga_x17, gg_x17, eC_x17, hd_x17, cl_x17, sp_, tk_, mo_x17⟩
  have xf_x17 : XfC K C_x17 := ⟨ga_x17, gg_x17, eC_x17, hd_x17⟩
  have gC_x17 := PySem.W.mg_of X G aC_x17
  have exc_x17 : ExC K C_x17 "IndexError.__new__" [.type "IndexError", .type "LookupError", .type "Exception", .type "BaseException", .type "object"] := ⟨⟨nm_x17, q_x17, N_x17, bs_x17, sn_x17, su_x17, ab_x17, co_x17, dd_x17, m0_x17, m1_x17, m2_x17, m3_x17, m5_x17, xC_x17⟩, eC_x17, tC_x17, kC_x17⟩
  have F_i_x17 := fun_mk (st := sNoDeedI) l_i_x17 c_i_x17 k_i_x17
  have b_i_x17 := F_i_x17.binds (ps := ["self", "number"]) fun _ _ _ _ _ _ us hl => match us, hl with | [_, _], _ => rfl
  have ex_x18 : ExcC K C_x18 := ⟨ga_x18, gg_x18, eC_x18, hd_x18, cl_x18, sp_, tk_, mo_x18⟩
  have xf_x18 : XfC K C_x18 := ⟨ga_x18, gg_x18, eC_x18, hd_x18⟩
  have gC_x18 := PySem.W.mg_of X G aC_x18
  have exc_x18 : ExC K C_x18 "LookupError.__new__" [.type "KeyError", .type "LookupError", .type "Exception", .type "BaseException", .type "object"] := ⟨⟨nm_x18, q_x18, N_x18, bs_x18, sn_x18, su_x18, ab_x18, co_x18, dd_x18, m0_x18, m1_x18, m2_x18, m3_x18, m5_x18, xC_x18⟩, eC_x18, tC_x18, kC_x18⟩
  have F_i_x18 := fun_mk (st := sNoNameI) l_i_x18 c_i_x18 k_i_x18
  have b_i_x18 := F_i_x18.binds (ps := ["self", "name"]) fun _ _ _ _ _ _ us hl => match us, hl with | [_, _], _ => rfl
  have ex_x19 : ExcC K C_x19 := ⟨ga_x19, gg_x19, eC_x19, hd_x19, cl_x19, sp_, tk_, mo_x19⟩
  have xf_x19 : XfC K C_x19 := ⟨ga_x19, gg_x19, eC_x19, hd_x19⟩
  have gC_x19 := PySem.W.mg_of X G aC_x19
  have exc_x19 : ExC K C_x19 "LookupError.__new__" [.type "LookupError", .type "Exception", .type "BaseException", .type "object"] := ⟨⟨nm_x19, q_x19, N_x19, bs_x19, sn_x19, su_x19, ab_x19, co_x19, dd_x19, m0_x19, m1_x19, m2_x19, m3_x19, m5_x19, xC_x19⟩, eC_x19, tC_x19, kC_x19⟩
  have F_i_x19 := fun_mk (st := sUnsaidI) l_i_x19 c_i_x19 k_i_x19
  have b_i_x19 := F_i_x19.binds (ps := ["self", "word"]) fun _ _ _ _ _ _ us hl => match us, hl with | [_, _], _ => rfl
  have ex_x20 : ExcC K C_x20 := ⟨ga_x20, gg_x20, eC_x20, hd_x20, cl_x20, sp_, tk_, mo_x20⟩
  have xf_x20 : XfC K C_x20 := ⟨ga_x20, gg_x20, eC_x20, hd_x20⟩
  have gC_x20 := PySem.W.mg_of X G aC_x20
  have exc_x20 : ExC K C_x20 "LookupError.__new__" [.type "LookupError", .type "Exception", .type "BaseException", .type "object"] := ⟨⟨nm_x20, q_x20, N_x20, bs_x20, sn_x20, su_x20, ab_x20, co_x20, dd_x20, m0_x20, m1_x20, m2_x20, m3_x20, m5_x20, xC_x20⟩, eC_x20, tC_x20, kC_x20⟩
  have F_i_x20 := fun_mk (st := sNoPartI) l_i_x20 c_i_x20 k_i_x20
  have b_i_x20 := F_i_x20.binds (ps := ["self", "part"]) fun _ _ _ _ _ _ us hl => match us, hl with | [_, _], _ => rfl
  have ex_x21 : ExcC K C_x21 := ⟨ga_x21, gg_x21, eC_x21, hd_x21, cl_x21, sp_, tk_, mo_x21⟩
  have xf_x21 : XfC K C_x21 := ⟨ga_x21, gg_x21, eC_x21, hd_x21⟩
  have gC_x21 := PySem.W.mg_of X G aC_x21
  have exc_x21 : ExC K C_x21 "RuntimeError.__new__" [.type "RuntimeError", .type "Exception", .type "BaseException", .type "object"] := ⟨⟨nm_x21, q_x21, N_x21, bs_x21, sn_x21, su_x21, ab_x21, co_x21, dd_x21, m0_x21, m1_x21, m2_x21, m3_x21, m5_x21, xC_x21⟩, eC_x21, tC_x21, kC_x21⟩
  have F_i_x21 := fun_mk (st := sBareI) l_i_x21 c_i_x21 k_i_x21
  have b_i_x21 := F_i_x21.binds (ps := ["self", "many"]) fun _ _ _ _ _ _ us hl => match us, hl with | [_, _], _ => rfl
  have em_x18_x18 := PySem.W.exm_ref eC_x18 hd_x18 tC_x18 sb_x18_x18
  have F_d_law_left := fun_mk (st := sLeft) l_d_law_left c_d_law_left k_d_law_left
  have b_d_law_left := F_d_law_left.binds (ps := ["_law_cell"]) fun _ _ _ _ _ _ us hl => match us, hl with | [_], _ => rfl
  have g_d_law_left := PySem.W.mg_of X G a_d_law_left
  have F_d_law_digit := fun_mk (st := sDigit) l_d_law_digit c_d_law_digit k_d_law_digit
  have b_d_law_digit := F_d_law_digit.binds (ps := ["_law_left_here", "_law_many"]) fun _ _ _ _ _ _ us hl => match us, hl with | [_, _], _ => rfl
  have g_d_law_digit := PySem.W.mg_of X G a_d_law_digit
  have F_d_law_all := fun_mk (st := sAll) l_d_law_all c_d_law_all k_d_law_all
  have b_d_law_all := F_d_law_all.binds (ps := ["_law_one", "_law_other"]) fun _ _ _ _ _ _ us hl => match us, hl with | [_, _], _ => rfl
  have g_d_law_all := PySem.W.mg_of X G a_d_law_all
  have F_d_law_kinds := fun_mk (st := sKinds) l_d_law_kinds c_d_law_kinds k_d_law_kinds
  have b_d_law_kinds := F_d_law_kinds.binds (ps := ["_law_error"]) fun _ _ _ _ _ _ us hl => match us, hl with | [_], _ => rfl
  have g_d_law_kinds := PySem.W.mg_of X G a_d_law_kinds
  have F_d_law_above := fun_mk (st := sAbove) l_d_law_above c_d_law_above k_d_law_above
  have b_d_law_above := F_d_law_above.binds (ps := ["_law_error"]) fun _ _ _ _ _ _ us hl => match us, hl with | [_], _ => rfl
  have g_d_law_above := PySem.W.mg_of X G a_d_law_above
  have F_d_law_fields := fun_mk (st := sFields) l_d_law_fields c_d_law_fields k_d_law_fields
  have b_d_law_fields := F_d_law_fields.binds (ps := ["_law_one", "_law_other"]) fun _ _ _ _ _ _ us hl => match us, hl with | [_, _], _ => rfl
  have g_d_law_fields := PySem.W.mg_of X G a_d_law_fields
  have F_d_law_raised := fun_mk (st := sRaised) l_d_law_raised c_d_law_raised k_d_law_raised
  have b_d_law_raised := F_d_law_raised.binds (ps := ["_law_one"]) fun _ _ _ _ _ _ us hl => match us, hl with | [_], _ => rfl
  have g_d_law_raised := PySem.W.mg_of X G a_d_law_raised
  have F_d_law := fun_mk (st := sLaw) l_d_law c_d_law k_d_law
  have g_d_law := PySem.W.mg_of X G a_d_law
  refine ⟨PySem.W.fnOf "law" "law" (defArgs sLaw) (defBody sLaw) (defScope sLaw) .none kV_d_law dc_d_law pm_d_law an_d_law cd_d_law ct_d_law, fun s v => .of_eq rfl, fun base _ _ => ?_⟩
  have T0 : ErF K mg "NoNumber" "ValueError" "ValueError.__new__" [.type "ValueError", .type "Exception", .type "BaseException", .type "object"] C_x0 f_i_x0 ["number"] := ⟨⟨exc_x0, sa_x0⟩, (fun n hn => by rw [List.mem_singleton.mp hn]; exact no_x0_number), gC_x0, i_i_x0, ty_i_x0, vV_x0, ex_x0, xf_x0⟩
  have M0 := MkF.mk (P := l.prog) (w := w) (base := base) (k := 1) T0 ⟨_, ok_NoNumberI F_i_x0 T0 B, b_i_x0⟩
  have T1 : ErF K mg "NoText" "ValueError" "ValueError.__new__" [.type "ValueError", .type "Exception", .type "BaseException", .type "object"] C_x1 f_i_x1 ["part"] := ⟨⟨exc_x1, sa_x1⟩, (fun n hn => by rw [List.mem_singleton.mp hn]; exact no_x1_part), gC_x1, i_i_x1, ty_i_x1, vV_x1, ex_x1, xf_x1⟩
  have M1 := MkF.mk (P := l.prog) (w := w) (base := base) (k := 1) T1 ⟨_, ok_NoTextI F_i_x1 T1 B, b_i_x1⟩
  have T2 : ErF K mg "NoCase" "ValueError" "ValueError.__new__" [.type "ValueError", .type "Exception", .type "BaseException", .type "object"] C_x2 f_i_x2 ["part", "number"] := ⟨⟨exc_x2, sa_x2⟩, (fun n hn => by simp only [List.mem_cons, List.not_mem_nil, or_false] at hn; rcases hn with rfl | rfl; exact no_x2_part; exact no_x2_number), gC_x2, i_i_x2, ty_i_x2, vV_x2, ex_x2, xf_x2⟩
  have M2 := MkF.mk (P := l.prog) (w := w) (base := base) (k := 1) T2 ⟨_, ok_NoCaseI F_i_x2 T2 B, b_i_x2⟩
  have T3 : ErF K mg "NoRule" "ValueError" "ValueError.__new__" [.type "ValueError", .type "Exception", .type "BaseException", .type "object"] C_x3 f_i_x3 ["world"] := ⟨⟨exc_x3, sa_x3⟩, (fun n hn => by rw [List.mem_singleton.mp hn]; exact no_x3_world), gC_x3, i_i_x3, ty_i_x3, vV_x3, ex_x3, xf_x3⟩
  have M3 := MkF.mk (P := l.prog) (w := w) (base := base) (k := 1) T3 ⟨_, ok_NoRuleI F_i_x3 T3 B, b_i_x3⟩
  have T4 : ErF K mg "NoBeliefs" "ValueError" "ValueError.__new__" [.type "ValueError", .type "Exception", .type "BaseException", .type "object"] C_x4 f_i_x4 [] := ⟨⟨exc_x4, sa_x4⟩, (fun n hn => by cases hn), gC_x4, i_i_x4, ty_i_x4, vV_x4, ex_x4, xf_x4⟩
  have M4 := MkF.mk (P := l.prog) (w := w) (base := base) (k := 1) T4 ⟨_, ok_NoBeliefsI F_i_x4 T4 B, b_i_x4⟩
  have T5 : ErF K mg "NoShares" "ValueError" "ValueError.__new__" [.type "ValueError", .type "Exception", .type "BaseException", .type "object"] C_x5 f_i_x5 [] := ⟨⟨exc_x5, sa_x5⟩, (fun n hn => by cases hn), gC_x5, i_i_x5, ty_i_x5, vV_x5, ex_x5, xf_x5⟩
  have M5 := MkF.mk (P := l.prog) (w := w) (base := base) (k := 1) T5 ⟨_, ok_NoSharesI F_i_x5 T5 B, b_i_x5⟩
  have T6 : ErF K mg "NoAdvice" "ValueError" "ValueError.__new__" [.type "ValueError", .type "Exception", .type "BaseException", .type "object"] C_x6 f_i_x6 ["words"] := ⟨⟨exc_x6, sa_x6⟩, (fun n hn => by rw [List.mem_singleton.mp hn]; exact no_x6_words), gC_x6, i_i_x6, ty_i_x6, vV_x6, ex_x6, xf_x6⟩
  have M6 := MkF.mk (P := l.prog) (w := w) (base := base) (k := 1) T6 ⟨_, ok_NoAdviceI F_i_x6 T6 B, b_i_x6⟩
  have T7 : ErF K mg "NoGroups" "ValueError" "ValueError.__new__" [.type "ValueError", .type "Exception", .type "BaseException", .type "object"] C_x7 f_i_x7 ["word"] := ⟨⟨exc_x7, sa_x7⟩, (fun n hn => by rw [List.mem_singleton.mp hn]; exact no_x7_word), gC_x7, i_i_x7, ty_i_x7, vV_x7, ex_x7, xf_x7⟩
  have M7 := MkF.mk (P := l.prog) (w := w) (base := base) (k := 1) T7 ⟨_, ok_NoGroupsI F_i_x7 T7 B, b_i_x7⟩
  have T8 : ErF K mg "NoHearers" "ValueError" "ValueError.__new__" [.type "ValueError", .type "Exception", .type "BaseException", .type "object"] C_x8 f_i_x8 ["number"] := ⟨⟨exc_x8, sa_x8⟩, (fun n hn => by rw [List.mem_singleton.mp hn]; exact no_x8_number), gC_x8, i_i_x8, ty_i_x8, vV_x8, ex_x8, xf_x8⟩
  have M8 := MkF.mk (P := l.prog) (w := w) (base := base) (k := 1) T8 ⟨_, ok_NoHearersI F_i_x8 T8 B, b_i_x8⟩
  have T9 : ErF K mg "NoCounts" "ValueError" "ValueError.__new__" [.type "ValueError", .type "Exception", .type "BaseException", .type "object"] C_x9 f_i_x9 [] := ⟨⟨exc_x9, sa_x9⟩, (fun n hn => by cases hn), gC_x9, i_i_x9, ty_i_x9, vV_x9, ex_x9, xf_x9⟩
  have M9 := MkF.mk (P := l.prog) (w := w) (base := base) (k := 1) T9 ⟨_, ok_NoCountsI F_i_x9 T9 B, b_i_x9⟩
  have T10 : ErF K mg "NoOrder" "ValueError" "ValueError.__new__" [.type "ValueError", .type "Exception", .type "BaseException", .type "object"] C_x10 f_i_x10 ["part"] := ⟨⟨exc_x10, sa_x10⟩, (fun n hn => by rw [List.mem_singleton.mp hn]; exact no_x10_part), gC_x10, i_i_x10, ty_i_x10, vV_x10, ex_x10, xf_x10⟩
  have M10 := MkF.mk (P := l.prog) (w := w) (base := base) (k := 1) T10 ⟨_, ok_NoOrderI F_i_x10 T10 B, b_i_x10⟩
  have T11 : ErF K mg "NoRow" "ValueError" "ValueError.__new__" [.type "ValueError", .type "Exception", .type "BaseException", .type "object"] C_x11 f_i_x11 [] := ⟨⟨exc_x11, sa_x11⟩, (fun n hn => by cases hn), gC_x11, i_i_x11, ty_i_x11, vV_x11, ex_x11, xf_x11⟩
  have M11 := MkF.mk (P := l.prog) (w := w) (base := base) (k := 1) T11 ⟨_, ok_NoRowI F_i_x11 T11 B, b_i_x11⟩
  have T12 : ErF K mg "Unlike" "ValueError" "ValueError.__new__" [.type "ValueError", .type "Exception", .type "BaseException", .type "object"] C_x12 f_i_x12 ["one", "other"] := ⟨⟨exc_x12, sa_x12⟩, (fun n hn => by simp only [List.mem_cons, List.not_mem_nil, or_false] at hn; rcases hn with rfl | rfl; exact no_x12_one; exact no_x12_other), gC_x12, i_i_x12, ty_i_x12, vV_x12, ex_x12, xf_x12⟩
  have M12 := MkF.mk (P := l.prog) (w := w) (base := base) (k := 1) T12 ⟨_, ok_UnlikeI F_i_x12 T12 B, b_i_x12⟩
  have T13 : ErF K mg "NotTwo" "ArithmeticError" "ArithmeticError.__new__" [.type "ArithmeticError", .type "Exception", .type "BaseException", .type "object"] C_x13 f_i_x13 ["many"] := ⟨⟨exc_x13, sa_x13⟩, (fun n hn => by rw [List.mem_singleton.mp hn]; exact no_x13_many), gC_x13, i_i_x13, ty_i_x13, vV_x13, ex_x13, xf_x13⟩
  have M13 := MkF.mk (P := l.prog) (w := w) (base := base) (k := 1) T13 ⟨_, ok_NotTwoI F_i_x13 T13 B, b_i_x13⟩
  have T14 : ErF K mg "ByNought" "ZeroDivisionError" "ZeroDivisionError.__new__" [.type "ZeroDivisionError", .type "ArithmeticError", .type "Exception", .type "BaseException", .type "object"] C_x14 f_i_x14 [] := ⟨⟨exc_x14, sa_x14⟩, (fun n hn => by cases hn), gC_x14, i_i_x14, ty_i_x14, vV_x14, ex_x14, xf_x14⟩
  have M14 := MkF.mk (P := l.prog) (w := w) (base := base) (k := 1) T14 ⟨_, ok_ByNoughtI F_i_x14 T14 B, b_i_x14⟩
  have T15 : ErF K mg "TooMany" "OverflowError" "OverflowError.__new__" [.type "OverflowError", .type "ArithmeticError", .type "Exception", .type "BaseException", .type "object"] C_x15 f_i_x15 ["many"] := ⟨⟨exc_x15, sa_x15⟩, (fun n hn => by rw [List.mem_singleton.mp hn]; exact no_x15_many), gC_x15, i_i_x15, ty_i_x15, vV_x15, ex_x15, xf_x15⟩
  have M15 := MkF.mk (P := l.prog) (w := w) (base := base) (k := 1) T15 ⟨_, ok_TooManyI F_i_x15 T15 B, b_i_x15⟩
  have T16 : ErF K mg "NoWord" "IndexError" "IndexError.__new__" [.type "IndexError", .type "LookupError", .type "Exception", .type "BaseException", .type "object"] C_x16 f_i_x16 ["word"] := ⟨⟨exc_x16, sa_x16⟩, (fun n hn => by rw [List.mem_singleton.mp hn]; exact no_x16_word), gC_x16, i_i_x16, ty_i_x16, vV_x16, ex_x16, xf_x16⟩
  have M16 := MkF.mk (P := l.prog) (w := w) (base := base) (k := 1) T16 ⟨_, ok_NoWordI F_i_x16 T16 B, b_i_x16⟩
  have T17 : ErF K mg "NoDeed" "IndexError" "IndexError.__new__" [.type "IndexError", .type "LookupError", .type "Exception", .type "BaseException", .type "object"] C_x17 f_i_x17 ["number"] := ⟨⟨exc_x17, sa_x17⟩, (fun n hn => by rw [List.mem_singleton.mp hn]; exact no_x17_number), gC_x17, i_i_x17, ty_i_x17, vV_x17, ex_x17, xf_x17⟩
  have M17 := MkF.mk (P := l.prog) (w := w) (base := base) (k := 1) T17 ⟨_, ok_NoDeedI F_i_x17 T17 B, b_i_x17⟩
  have T18 : ErF K mg "NoName" "KeyError" "LookupError.__new__" [.type "KeyError", .type "LookupError", .type "Exception", .type "BaseException", .type "object"] C_x18 f_i_x18 ["name"] := ⟨⟨exc_x18, sa_x18⟩, (fun n hn => by rw [List.mem_singleton.mp hn]; exact no_x18_name), gC_x18, i_i_x18, ty_i_x18, vV_x18, ex_x18, xf_x18⟩
  have M18 := MkF.mk (P := l.prog) (w := w) (base := base) (k := 1) T18 ⟨_, ok_NoNameI F_i_x18 T18 B, b_i_x18⟩
  have T19 : ErF K mg "Unsaid" "LookupError" "LookupError.__new__" [.type "LookupError", .type "Exception", .type "BaseException", .type "object"] C_x19 f_i_x19 ["word"] := ⟨⟨exc_x19, sa_x19⟩, (fun n hn => by rw [List.mem_singleton.mp hn]; exact no_x19_word), gC_x19, i_i_x19, ty_i_x19, vV_x19, ex_x19, xf_x19⟩
  have M19 := MkF.mk (P := l.prog) (w := w) (base := base) (k := 1) T19 ⟨_, ok_UnsaidI F_i_x19 T19 B, b_i_x19⟩
  have T20 : ErF K mg "NoPart" "LookupError" "LookupError.__new__" [.type "LookupError", .type "Exception", .type "BaseException", .type "object"] C_x20 f_i_x20 ["part"] := ⟨⟨exc_x20, sa_x20⟩, (fun n hn => by rw [List.mem_singleton.mp hn]; exact no_x20_part), gC_x20, i_i_x20, ty_i_x20, vV_x20, ex_x20, xf_x20⟩
  have M20 := MkF.mk (P := l.prog) (w := w) (base := base) (k := 1) T20 ⟨_, ok_NoPartI F_i_x20 T20 B, b_i_x20⟩
  have T21 : ErF K mg "Bare" "RuntimeError" "RuntimeError.__new__" [.type "RuntimeError", .type "Exception", .type "BaseException", .type "object"] C_x21 f_i_x21 ["many"] := ⟨⟨exc_x21, sa_x21⟩, (fun n hn => by rw [List.mem_singleton.mp hn]; exact no_x21_many), gC_x21, i_i_x21, ty_i_x21, vV_x21, ex_x21, xf_x21⟩
  have M21 := MkF.mk (P := l.prog) (w := w) (base := base) (k := 1) T21 ⟨_, ok_BareI F_i_x21 T21 B, b_i_x21⟩
  have A : AE l.prog w K mg base 1 C_x0 C_x1 C_x2 C_x3 C_x4 C_x5 C_x6 C_x7 C_x8 C_x9 C_x10 C_x11 C_x12 C_x13 C_x14 C_x15 C_x16 C_x17 C_x18 C_x19 C_x20 C_x21 f_i_x0 f_i_x1 f_i_x2 f_i_x3 f_i_x4 f_i_x5 f_i_x6 f_i_x7 f_i_x8 f_i_x9 f_i_x10 f_i_x11 f_i_x12 f_i_x13 f_i_x14 f_i_x15 f_i_x16 f_i_x17 f_i_x18 f_i_x19 f_i_x20 f_i_x21 := ⟨M0, M1, M2, M3, M4, M5, M6, M7, M8, M9, M10, M11, M12, M13, M14, M15, M16, M17, M18, M19, M20, M21⟩
  have A3 : AE l.prog w K mg base 3 C_x0 C_x1 C_x2 C_x3 C_x4 C_x5 C_x6 C_x7 C_x8 C_x9 C_x10 C_x11 C_x12 C_x13 C_x14 C_x15 C_x16 C_x17 C_x18 C_x19 C_x20 C_x21 f_i_x0 f_i_x1 f_i_x2 f_i_x3 f_i_x4 f_i_x5 f_i_x6 f_i_x7 f_i_x8 f_i_x9 f_i_x10 f_i_x11 f_i_x12 f_i_x13 f_i_x14 f_i_x15 f_i_x16 f_i_x17 f_i_x18 f_i_x19 f_i_x20 f_i_x21 := by
    refine ⟨?_, ?_, ?_, ?_, ?_, ?_, ?_, ?_, ?_, ?_, ?_, ?_, ?_, ?_, ?_, ?_, ?_, ?_, ?_, ?_, ?_, ?_⟩
    · exact ⟨T0, let ⟨fd, h, b⟩ := M0.g; ⟨fd, h.mono (by decide), b⟩⟩
    · exact ⟨T1, let ⟨fd, h, b⟩ := M1.g; ⟨fd, h.mono (by decide), b⟩⟩
    · exact ⟨T2, let ⟨fd, h, b⟩ := M2.g; ⟨fd, h.mono (by decide), b⟩⟩
    · exact ⟨T3, let ⟨fd, h, b⟩ := M3.g; ⟨fd, h.mono (by decide), b⟩⟩
    · exact ⟨T4, let ⟨fd, h, b⟩ := M4.g; ⟨fd, h.mono (by decide), b⟩⟩
    · exact ⟨T5, let ⟨fd, h, b⟩ := M5.g; ⟨fd, h.mono (by decide), b⟩⟩
    · exact ⟨T6, let ⟨fd, h, b⟩ := M6.g; ⟨fd, h.mono (by decide), b⟩⟩
    · exact ⟨T7, let ⟨fd, h, b⟩ := M7.g; ⟨fd, h.mono (by decide), b⟩⟩
    · exact ⟨T8, let ⟨fd, h, b⟩ := M8.g; ⟨fd, h.mono (by decide), b⟩⟩
    · exact ⟨T9, let ⟨fd, h, b⟩ := M9.g; ⟨fd, h.mono (by decide), b⟩⟩
    · exact ⟨T10, let ⟨fd, h, b⟩ := M10.g; ⟨fd, h.mono (by decide), b⟩⟩
    · exact ⟨T11, let ⟨fd, h, b⟩ := M11.g; ⟨fd, h.mono (by decide), b⟩⟩
    · exact ⟨T12, let ⟨fd, h, b⟩ := M12.g; ⟨fd, h.mono (by decide), b⟩⟩
    · exact ⟨T13, let ⟨fd, h, b⟩ := M13.g; ⟨fd, h.mono (by decide), b⟩⟩
    · exact ⟨T14, let ⟨fd, h, b⟩ := M14.g; ⟨fd, h.mono (by decide), b⟩⟩
    · exact ⟨T15, let ⟨fd, h, b⟩ := M15.g; ⟨fd, h.mono (by decide), b⟩⟩
    · exact ⟨T16, let ⟨fd, h, b⟩ := M16.g; ⟨fd, h.mono (by decide), b⟩⟩
    · exact ⟨T17, let ⟨fd, h, b⟩ := M17.g; ⟨fd, h.mono (by decide), b⟩⟩
    · exact ⟨T18, let ⟨fd, h, b⟩ := M18.g; ⟨fd, h.mono (by decide), b⟩⟩
    · exact ⟨T19, let ⟨fd, h, b⟩ := M19.g; ⟨fd, h.mono (by decide), b⟩⟩
    · exact ⟨T20, let ⟨fd, h, b⟩ := M20.g; ⟨fd, h.mono (by decide), b⟩⟩
    · exact ⟨T21, let ⟨fd, h, b⟩ := M21.g; ⟨fd, h.mono (by decide), b⟩⟩
  exact ok_law F_d_law (k := 3) A3 nd_ ⟨⟨f_d_law_left, _, (ok_left (k := 2) F_d_law_left B), k_d_law_left, b_d_law_left, g_d_law_left⟩, ⟨f_d_law_digit, _, (ok_digit (k := 2) F_d_law_digit), k_d_law_digit, b_d_law_digit, g_d_law_digit⟩, ⟨f_d_law_all, _, ok_All F_d_law_all A, k_d_law_all, b_d_law_all, g_d_law_all⟩, ⟨f_d_law_kinds, _, ok_Kinds (j := 2) F_d_law_kinds A B, k_d_law_kinds, b_d_law_kinds, g_d_law_kinds⟩, ⟨f_d_law_above, _, ok_Above (j := 2) F_d_law_above B, k_d_law_above, b_d_law_above, g_d_law_above⟩, ⟨f_d_law_fields, _, ok_Fields F_d_law_fields A B, k_d_law_fields, b_d_law_fields, g_d_law_fields⟩, ⟨f_d_law_raised, _, ok_Raised F_d_law_raised A em_x18_x18 B, k_d_law_raised, b_d_law_raised, g_d_law_raised⟩⟩ B
end K4
open PySem PySem.W PyProof.Rows
set_option maxRecDepth 100000 in
set_option maxHeartbeats 0 in
theorem PySem.Challenge.cw_besttelling_k04_refusals_apart_holds : PySem.Challenge.rw_besttelling_k04_refusals_apart.Holds := by
  w_on; o_law; k_head; (case hw => w_witness2)
  k_fill
  refine BX.walk_ofG (l := PySem.Challenge.rw_besttelling_k04_refusals_apart) (n := 63) (k := 5) (x := "_law_script") (CX := fun _ => L2.CX0) (sp := fun w => K4.spLaw _) rfl (by decide) rfl ⟨rfl, by decide, by decide⟩ (fun w h Y => PySem.W.kIn_of Y) ?F (fun _ _ a ns hl _ hS => ⟨a, ns, rfl, hS, hl, fun _ => rfl⟩) (fun _ _ _ _ _ h => h)
  case F =>
    intro w mg fa h KX G hmg
    refine' K4.all_mk KX G hmg ?aC_x0 ?xC_x0 ?sa_x0 ?ga_x0 ?gg_x0 ?cl_x0 ?mo_x0 ?kC_x0 ?eC_x0 ?tC_x0 ?hd_x0 ?vV_x0 ?sp_ ?tk_ ?i_i_x0 ?ty_i_x0 ?l_i_x0 ?c_i_x0 ?k_i_x0 ?no_x0_number ?aC_x1 ?xC_x1 ?sa_x1 ?ga_x1 ?gg_x1 ?cl_x1 ?mo_x1 ?kC_x1 ?eC_x1 ?tC_x1 ?hd_x1 ?vV_x1 ?i_i_x1 ?ty_i_x1 ?l_i_x1 ?c_i_x1 ?k_i_x1 ?no_x1_part ?aC_x2 ?xC_x2 ?sa_x2 ?ga_x2 ?gg_x2 ?cl_x2 ?mo_x2 ?kC_x2 ?eC_x2 ?tC_x2 ?hd_x2 ?vV_x2 ?i_i_x2 ?ty_i_x2 ?l_i_x2 ?c_i_x2 ?k_i_x2 ?no_x2_part ?no_x2_number ?aC_x3 ?xC_x3 ?sa_x3 ?ga_x3 ?gg_x3 ?cl_x3 ?mo_x3 ?kC_x3 ?eC_x3 ?tC_x3 ?hd_x3 ?vV_x3 ?i_i_x3 ?ty_i_x3 ?l_i_x3 ?c_i_x3 ?k_i_x3 ?no_x3_world ?aC_x4 ?xC_x4 ?sa_x4 ?ga_x4 ?gg_x4 ?cl_x4 ?mo_x4 ?kC_x4 ?eC_x4 ?tC_x4 ?hd_x4 ?vV_x4 ?i_i_x4 ?ty_i_x4 ?l_i_x4 ?c_i_x4 ?k_i_x4 ?aC_x5 ?xC_x5 ?sa_x5 ?ga_x5 ?gg_x5 ?cl_x5 ?mo_x5 ?kC_x5 ?eC_x5 ?tC_x5 ?hd_x5 ?vV_x5 ?i_i_x5 ?ty_i_x5 ?l_i_x5 ?c_i_x5 ?k_i_x5 ?aC_x6 ?xC_x6 ?sa_x6 ?ga_x6 ?gg_x6 ?cl_x6 ?mo_x6 ?kC_x6 ?eC_x6 ?tC_x6 ?hd_x6 ?vV_x6 ?i_i_x6 ?ty_i_x6 ?l_i_x6 ?c_i_x6 ?k_i_x6 ?no_x6_words ?aC_x7 ?xC_x7 ?sa_x7 ?ga_x7 ?gg_x7 ?cl_x7 ?mo_x7 ?kC_x7 ?eC_x7 ?tC_x7 ?hd_x7 ?vV_x7 ?i_i_x7 ?ty_i_x7 ?l_i_x7 ?c_i_x7 ?k_i_x7 ?no_x7_word ?aC_x8 ?xC_x8 ?sa_x8 ?ga_x8 ?gg_x8 ?cl_x8 ?mo_x8 ?kC_x8 ?eC_x8 ?tC_x8 ?hd_x8 ?vV_x8 ?i_i_x8 ?ty_i_x8 ?l_i_x8 ?c_i_x8 ?k_i_x8 ?no_x8_number ?aC_x9 ?xC_x9 ?sa_x9 ?ga_x9 ?gg_x9 ?cl_x9 ?mo_x9 ?kC_x9 ?eC_x9 ?tC_x9 ?hd_x9 ?vV_x9 ?i_i_x9 ?ty_i_x9 ?l_i_x9 ?c_i_x9 ?k_i_x9 ?aC_x10 ?xC_x10 ?sa_x10 ?ga_x10 ?gg_x10 ?cl_x10 ?mo_x10 ?kC_x10 ?eC_x10 ?tC_x10 ?hd_x10 ?vV_x10 ?i_i_x10 ?ty_i_x10 ?l_i_x10 ?c_i_x10 ?k_i_x10 ?no_x10_part ?aC_x11 ?xC_x11 ?sa_x11 ?ga_x11 ?gg_x11 ?cl_x11 ?mo_x11 ?kC_x11 ?eC_x11 ?tC_x11 ?hd_x11 ?vV_x11 ?i_i_x11 ?ty_i_x11 ?l_i_x11 ?c_i_x11 ?k_i_x11 ?aC_x12 ?xC_x12 ?sa_x12 ?ga_x12 ?gg_x12 ?cl_x12 ?mo_x12 ?kC_x12 ?eC_x12 ?tC_x12 ?hd_x12 ?vV_x12 ?i_i_x12 ?ty_i_x12 ?l_i_x12 ?c_i_x12 ?k_i_x12 ?no_x12_one ?no_x12_other ?aC_x13 ?xC_x13 ?sa_x13 ?ga_x13 ?gg_x13 ?cl_x13 ?mo_x13 ?kC_x13 ?eC_x13 ?tC_x13 ?hd_x13 ?vV_x13 ?i_i_x13 ?ty_i_x13 ?l_i_x13 ?c_i_x13 ?k_i_x13 ?no_x13_many ?aC_x14 ?xC_x14 ?sa_x14 ?ga_x14 ?gg_x14 ?cl_x14 ?mo_x14 ?kC_x14 ?eC_x14 ?tC_x14 ?hd_x14 ?vV_x14 ?i_i_x14 ?ty_i_x14 ?l_i_x14 ?c_i_x14 ?k_i_x14 ?aC_x15 ?xC_x15 ?sa_x15 ?ga_x15 ?gg_x15 ?cl_x15 ?mo_x15 ?kC_x15 ?eC_x15 ?tC_x15 ?hd_x15 ?vV_x15 ?i_i_x15 ?ty_i_x15 ?l_i_x15 ?c_i_x15 ?k_i_x15 ?no_x15_many ?aC_x16 ?xC_x16 ?sa_x16 ?ga_x16 ?gg_x16 ?cl_x16 ?mo_x16 ?kC_x16 ?eC_x16 ?tC_x16 ?hd_x16 ?vV_x16 ?i_i_x16 ?ty_i_x16 ?l_i_x16 ?c_i_x16 ?k_i_x16 ?no_x16_word ?aC_x17 ?xC_x17 ?sa_x17 ?ga_x17 ?gg_x17 ?cl_x17 ?mo_x17 ?kC_x17 ?eC_x17 ?tC_x17 ?hd_x17 ?vV_x17 ?i_i_x17 ?ty_i_x17 ?l_i_x17 ?c_i_x17 ?k_i_x17 ?no_x17_number ?aC_x18 ?xC_x18 ?sa_x18 ?ga_x18 ?gg_x18 ?cl_x18 ?mo_x18 ?kC_x18 ?eC_x18 ?tC_x18 ?hd_x18 ?vV_x18 ?i_i_x18 ?ty_i_x18 ?l_i_x18 ?c_i_x18 ?k_i_x18 ?no_x18_name ?aC_x19 ?xC_x19 ?sa_x19 ?ga_x19 ?gg_x19 ?cl_x19 ?mo_x19 ?kC_x19 ?eC_x19 ?tC_x19 ?hd_x19 ?vV_x19 ?i_i_x19 ?ty_i_x19 ?l_i_x19 ?c_i_x19 ?k_i_x19 ?no_x19_word ?aC_x20 ?xC_x20 ?sa_x20 ?ga_x20 ?gg_x20 ?cl_x20 ?mo_x20 ?kC_x20 ?eC_x20 ?tC_x20 ?hd_x20 ?vV_x20 ?i_i_x20 ?ty_i_x20 ?l_i_x20 ?c_i_x20 ?k_i_x20 ?no_x20_part ?aC_x21 ?xC_x21 ?sa_x21 ?ga_x21 ?gg_x21 ?cl_x21 ?mo_x21 ?kC_x21 ?eC_x21 ?tC_x21 ?hd_x21 ?vV_x21 ?i_i_x21 ?ty_i_x21 ?l_i_x21 ?c_i_x21 ?k_i_x21 ?no_x21_many ?sb_x18_x18 ?nd_ ?a_d_law_left ?l_d_law_left ?c_d_law_left ?k_d_law_left ?a_d_law_digit ?l_d_law_digit ?c_d_law_digit ?k_d_law_digit ?a_d_law_all ?l_d_law_all ?c_d_law_all ?k_d_law_all ?a_d_law_kinds ?l_d_law_kinds ?c_d_law_kinds ?k_d_law_kinds ?a_d_law_above ?l_d_law_above ?c_d_law_above ?k_d_law_above ?a_d_law_fields ?l_d_law_fields ?c_d_law_fields ?k_d_law_fields ?a_d_law_raised ?l_d_law_raised ?c_d_law_raised ?k_d_law_raised ?a_d_law ?l_d_law ?c_d_law ?k_d_law ?z_abs ?z_isinstance ?z_int ?z_bool ?z_tuple ?z_list ?z_len ?z_range ?z_str ?z_repr ?z_sum ?z_all ?z_any ?z_enumerate ?z_zip ?z_min ?z_max ?z_sorted ?z_ValueError ?z_ZeroDivisionError ?z_OverflowError ?z_IndexError ?z_LookupError ?z_ArithmeticError ?z_KeyError ?z_RuntimeError
    (case aC_x0 => k_is)
    (case xC_x0 => k_is)
    (case sa_x0 => k_is)
    (case ga_x0 => k_is)
    (case gg_x0 => k_is)
    (case cl_x0 => k_is)
    (case mo_x0 => first | rfl | k_is | decide +kernel)
    (case kC_x0 => k_is)
    (case eC_x0 => k_is)
    (case tC_x0 => k_is)
    (case hd_x0 => k_is)
    (case vV_x0 => first | rfl | decide +kernel | k_is)
    (case sp_ => first | rfl | k_is | decide +kernel)
    (case tk_ => first | rfl | k_is | decide +kernel)
    (case i_i_x0 => k_is)
    (case ty_i_x0 => k_is)
    (case l_i_x0 => k_is)
    (case c_i_x0 => k_is)
    (case k_i_x0 => k_is)
    (case no_x0_number => k_is)
    (case aC_x1 => k_is)
    (case xC_x1 => k_is)
    (case sa_x1 => k_is)
    (case ga_x1 => k_is)
    (case gg_x1 => k_is)
    (case cl_x1 => k_is)
    (case mo_x1 => first | rfl | k_is | decide +kernel)
    (case kC_x1 => k_is)
    (case eC_x1 => k_is)
    (case tC_x1 => k_is)
    (case hd_x1 => k_is)
    (case vV_x1 => first | rfl | decide +kernel | k_is)
    (case i_i_x1 => k_is)
    (case ty_i_x1 => k_is)
    (case l_i_x1 => k_is)
    (case c_i_x1 => k_is)
    (case k_i_x1 => k_is)
    (case no_x1_part => k_is)
    (case aC_x2 => k_is)
    (case xC_x2 => k_is)
    (case sa_x2 => k_is)
    (case ga_x2 => k_is)
    (case gg_x2 => k_is)
    (case cl_x2 => k_is)
    (case mo_x2 => first | rfl | k_is | decide +kernel)
    (case kC_x2 => k_is)
    (case eC_x2 => k_is)
    (case tC_x2 => k_is)
    (case hd_x2 => k_is)
    (case vV_x2 => first | rfl | decide +kernel | k_is)
    (case i_i_x2 => k_is)
    (case ty_i_x2 => k_is)
    (case l_i_x2 => k_is)
    (case c_i_x2 => k_is)
    (case k_i_x2 => k_is)
    (case no_x2_part => k_is)
    (case no_x2_number => k_is)
    (case aC_x3 => k_is)
    (case xC_x3 => k_is)
    (case sa_x3 => k_is)
    (case ga_x3 => k_is)
    (case gg_x3 => k_is)
    (case cl_x3 => k_is)
    (case mo_x3 => first | rfl | k_is | decide +kernel)
    (case kC_x3 => k_is)
    (case eC_x3 => k_is)
    (case tC_x3 => k_is)
    (case hd_x3 => k_is)
    (case vV_x3 => first | rfl | decide +kernel | k_is)
    (case i_i_x3 => k_is)
    (case ty_i_x3 => k_is)
    (case l_i_x3 => k_is)
    (case c_i_x3 => k_is)
    (case k_i_x3 => k_is)
    (case no_x3_world => k_is)
    (case aC_x4 => k_is)
    (case xC_x4 => k_is)
    (case sa_x4 => k_is)
    (case ga_x4 => k_is)
    (case gg_x4 => k_is)
    (case cl_x4 => k_is)
    (case mo_x4 => first | rfl | k_is | decide +kernel)
    (case kC_x4 => k_is)
    (case eC_x4 => k_is)
    (case tC_x4 => k_is)
    (case hd_x4 => k_is)
    (case vV_x4 => first | rfl | decide +kernel | k_is)
    (case i_i_x4 => k_is)
    (case ty_i_x4 => k_is)
    (case l_i_x4 => k_is)
    (case c_i_x4 => k_is)
    (case k_i_x4 => k_is)
    (case aC_x5 => k_is)
    (case xC_x5 => k_is)
    (case sa_x5 => k_is)
    (case ga_x5 => k_is)
    (case gg_x5 => k_is)
    (case cl_x5 => k_is)
    (case mo_x5 => first | rfl | k_is | decide +kernel)
    (case kC_x5 => k_is)
    (case eC_x5 => k_is)
    (case tC_x5 => k_is)
    (case hd_x5 => k_is)
    (case vV_x5 => first | rfl | decide +kernel | k_is)
    (case i_i_x5 => k_is)
    (case ty_i_x5 => k_is)
    (case l_i_x5 => k_is)
    (case c_i_x5 => k_is)
    (case k_i_x5 => k_is)
    (case aC_x6 => k_is)
    (case xC_x6 => k_is)
    (case sa_x6 => k_is)
    (case ga_x6 => k_is)
    (case gg_x6 => k_is)
    (case cl_x6 => k_is)
    (case mo_x6 => first | rfl | k_is | decide +kernel)
    (case kC_x6 => k_is)
    (case eC_x6 => k_is)
    (case tC_x6 => k_is)
    (case hd_x6 => k_is)
    (case vV_x6 => first | rfl | decide +kernel | k_is)
    (case i_i_x6 => k_is)
    (case ty_i_x6 => k_is)
    (case l_i_x6 => k_is)
    (case c_i_x6 => k_is)
    (case k_i_x6 => k_is)
    (case no_x6_words => k_is)
    (case aC_x7 => k_is)
    (case xC_x7 => k_is)
    (case sa_x7 => k_is)
    (case ga_x7 => k_is)
    (case gg_x7 => k_is)
    (case cl_x7 => k_is)
    (case mo_x7 => first | rfl | k_is | decide +kernel)
    (case kC_x7 => k_is)
    (case eC_x7 => k_is)
    (case tC_x7 => k_is)
    (case hd_x7 => k_is)
    (case vV_x7 => first | rfl | decide +kernel | k_is)
    (case i_i_x7 => k_is)
    (case ty_i_x7 => k_is)
    (case l_i_x7 => k_is)
    (case c_i_x7 => k_is)
    (case k_i_x7 => k_is)
    (case no_x7_word => k_is)
    (case aC_x8 => k_is)
    (case xC_x8 => k_is)
    (case sa_x8 => k_is)
    (case ga_x8 => k_is)
    (case gg_x8 => k_is)
    (case cl_x8 => k_is)
    (case mo_x8 => first | rfl | k_is | decide +kernel)
    (case kC_x8 => k_is)
    (case eC_x8 => k_is)
    (case tC_x8 => k_is)
    (case hd_x8 => k_is)
    (case vV_x8 => first | rfl | decide +kernel | k_is)
    (case i_i_x8 => k_is)
    (case ty_i_x8 => k_is)
    (case l_i_x8 => k_is)
    (case c_i_x8 => k_is)
    (case k_i_x8 => k_is)
    (case no_x8_number => k_is)
    (case aC_x9 => k_is)
    (case xC_x9 => k_is)
    (case sa_x9 => k_is)
    (case ga_x9 => k_is)
    (case gg_x9 => k_is)
    (case cl_x9 => k_is)
    (case mo_x9 => first | rfl | k_is | decide +kernel)
    (case kC_x9 => k_is)
    (case eC_x9 => k_is)
    (case tC_x9 => k_is)
    (case hd_x9 => k_is)
    (case vV_x9 => first | rfl | decide +kernel | k_is)
    (case i_i_x9 => k_is)
    (case ty_i_x9 => k_is)
    (case l_i_x9 => k_is)
    (case c_i_x9 => k_is)
    (case k_i_x9 => k_is)
    (case aC_x10 => k_is)
    (case xC_x10 => k_is)
    (case sa_x10 => k_is)
    (case ga_x10 => k_is)
    (case gg_x10 => k_is)
    (case cl_x10 => k_is)
    (case mo_x10 => first | rfl | k_is | decide +kernel)
    (case kC_x10 => k_is)
    (case eC_x10 => k_is)
    (case tC_x10 => k_is)
    (case hd_x10 => k_is)
    (case vV_x10 => first | rfl | decide +kernel | k_is)
    (case i_i_x10 => k_is)
    (case ty_i_x10 => k_is)
    (case l_i_x10 => k_is)
    (case c_i_x10 => k_is)
    (case k_i_x10 => k_is)
    (case no_x10_part => k_is)
    (case aC_x11 => k_is)
    (case xC_x11 => k_is)
    (case sa_x11 => k_is)
    (case ga_x11 => k_is)
    (case gg_x11 => k_is)
    (case cl_x11 => k_is)
    (case mo_x11 => first | rfl | k_is | decide +kernel)
    (case kC_x11 => k_is)
    (case eC_x11 => k_is)
    (case tC_x11 => k_is)
    (case hd_x11 => k_is)
    (case vV_x11 => first | rfl | decide +kernel | k_is)
    (case i_i_x11 => k_is)
    (case ty_i_x11 => k_is)
    (case l_i_x11 => k_is)
    (case c_i_x11 => k_is)
    (case k_i_x11 => k_is)
    (case aC_x12 => k_is)
    (case xC_x12 => k_is)
    (case sa_x12 => k_is)
    (case ga_x12 => k_is)
    (case gg_x12 => k_is)
    (case cl_x12 => k_is)
    (case mo_x12 => first | rfl | k_is | decide +kernel)
    (case kC_x12 => k_is)
    (case eC_x12 => k_is)
    (case tC_x12 => k_is)
    (case hd_x12 => k_is)
    (case vV_x12 => first | rfl | decide +kernel | k_is)
    (case i_i_x12 => k_is)
    (case ty_i_x12 => k_is)
    (case l_i_x12 => k_is)
    (case c_i_x12 => k_is)
    (case k_i_x12 => k_is)
    (case no_x12_one => k_is)
    (case no_x12_other => k_is)
    (case aC_x13 => k_is)
    (case xC_x13 => k_is)
    (case sa_x13 => k_is)
    (case ga_x13 => k_is)
    (case gg_x13 => k_is)
    (case cl_x13 => k_is)
    (case mo_x13 => first | rfl | k_is | decide +kernel)
    (case kC_x13 => k_is)
    (case eC_x13 => k_is)
    (case tC_x13 => k_is)
    (case hd_x13 => k_is)
    (case vV_x13 => first | rfl | decide +kernel | k_is)
    (case i_i_x13 => k_is)
    (case ty_i_x13 => k_is)
    (case l_i_x13 => k_is)
    (case c_i_x13 => k_is)
    (case k_i_x13 => k_is)
    (case no_x13_many => k_is)
    (case aC_x14 => k_is)
    (case xC_x14 => k_is)
    (case sa_x14 => k_is)
    (case ga_x14 => k_is)
    (case gg_x14 => k_is)
    (case cl_x14 => k_is)
    (case mo_x14 => first | rfl | k_is | decide +kernel)
    (case kC_x14 => k_is)
    (case eC_x14 => k_is)
    (case tC_x14 => k_is)
    (case hd_x14 => k_is)
    (case vV_x14 => first | rfl | decide +kernel | k_is)
    (case i_i_x14 => k_is)
    (case ty_i_x14 => k_is)
    (case l_i_x14 => k_is)
    (case c_i_x14 => k_is)
    (case k_i_x14 => k_is)
    (case aC_x15 => k_is)
    (case xC_x15 => k_is)
    (case sa_x15 => k_is)
    (case ga_x15 => k_is)
    (case gg_x15 => k_is)
    (case cl_x15 => k_is)
    (case mo_x15 => first | rfl | k_is | decide +kernel)
    (case kC_x15 => k_is)
    (case eC_x15 => k_is)
    (case tC_x15 => k_is)
    (case hd_x15 => k_is)
    (case vV_x15 => first | rfl | decide +kernel | k_is)
    (case i_i_x15 => k_is)
    (case ty_i_x15 => k_is)
    (case l_i_x15 => k_is)
    (case c_i_x15 => k_is)
    (case k_i_x15 => k_is)
    (case no_x15_many => k_is)
    (case aC_x16 => k_is)
    (case xC_x16 => k_is)
    (case sa_x16 => k_is)
    (case ga_x16 => k_is)
    (case gg_x16 => k_is)
    (case cl_x16 => k_is)
    (case mo_x16 => first | rfl | k_is | decide +kernel)
    (case kC_x16 => k_is)
    (case eC_x16 => k_is)
    (case tC_x16 => k_is)
    (case hd_x16 => k_is)
    (case vV_x16 => first | rfl | decide +kernel | k_is)
    (case i_i_x16 => k_is)
    (case ty_i_x16 => k_is)
    (case l_i_x16 => k_is)
    (case c_i_x16 => k_is)
    (case k_i_x16 => k_is)
    (case no_x16_word => k_is)
    (case aC_x17 => k_is)
    (case xC_x17 => k_is)
    (case sa_x17 => k_is)
    (case ga_x17 => k_is)
    (case gg_x17 => k_is)
    (case cl_x17 => k_is)
    (case mo_x17 => first | rfl | k_is | decide +kernel)
    (case kC_x17 => k_is)
    (case eC_x17 => k_is)
    (case tC_x17 => k_is)
    (case hd_x17 => k_is)
    (case vV_x17 => first | rfl | decide +kernel | k_is)
    (case i_i_x17 => k_is)
    (case ty_i_x17 => k_is)
    (case l_i_x17 => k_is)
    (case c_i_x17 => k_is)
    (case k_i_x17 => k_is)
    (case no_x17_number => k_is)
    (case aC_x18 => k_is)
    (case xC_x18 => k_is)
    (case sa_x18 => k_is)
    (case ga_x18 => k_is)
    (case gg_x18 => k_is)
    (case cl_x18 => k_is)
    (case mo_x18 => first | rfl | k_is | decide +kernel)
    (case kC_x18 => k_is)
    (case eC_x18 => k_is)
    (case tC_x18 => k_is)
    (case hd_x18 => k_is)
    (case vV_x18 => first | rfl | decide +kernel | k_is)
    (case i_i_x18 => k_is)
    (case ty_i_x18 => k_is)
    (case l_i_x18 => k_is)
    (case c_i_x18 => k_is)
    (case k_i_x18 => k_is)
    (case no_x18_name => k_is)
    (case aC_x19 => k_is)
    (case xC_x19 => k_is)
    (case sa_x19 => k_is)
    (case ga_x19 => k_is)
    (case gg_x19 => k_is)
    (case cl_x19 => k_is)
    (case mo_x19 => first | rfl | k_is | decide +kernel)
    (case kC_x19 => k_is)
    (case eC_x19 => k_is)
    (case tC_x19 => k_is)
    (case hd_x19 => k_is)
    (case vV_x19 => first | rfl | decide +kernel | k_is)
    (case i_i_x19 => k_is)
    (case ty_i_x19 => k_is)
    (case l_i_x19 => k_is)
    (case c_i_x19 => k_is)
    (case k_i_x19 => k_is)
    (case no_x19_word => k_is)
    (case aC_x20 => k_is)
    (case xC_x20 => k_is)
    (case sa_x20 => k_is)
    (case ga_x20 => k_is)
    (case gg_x20 => k_is)
    (case cl_x20 => k_is)
    (case mo_x20 => first | rfl | k_is | decide +kernel)
    (case kC_x20 => k_is)
    (case eC_x20 => k_is)
    (case tC_x20 => k_is)
    (case hd_x20 => k_is)
    (case vV_x20 => first | rfl | decide +kernel | k_is)
    (case i_i_x20 => k_is)
    (case ty_i_x20 => k_is)
    (case l_i_x20 => k_is)
    (case c_i_x20 => k_is)
    (case k_i_x20 => k_is)
    (case no_x20_part => k_is)
    (case aC_x21 => k_is)
    (case xC_x21 => k_is)
    (case sa_x21 => k_is)
    (case ga_x21 => k_is)
    (case gg_x21 => k_is)
    (case cl_x21 => k_is)
    (case mo_x21 => first | rfl | k_is | decide +kernel)
    (case kC_x21 => k_is)
    (case eC_x21 => k_is)
    (case tC_x21 => k_is)
    (case hd_x21 => k_is)
    (case vV_x21 => first | rfl | decide +kernel | k_is)
    (case i_i_x21 => k_is)
    (case ty_i_x21 => k_is)
    (case l_i_x21 => k_is)
    (case c_i_x21 => k_is)
    (case k_i_x21 => k_is)
    (case no_x21_many => k_is)
    (case sb_x18_x18 => first | rfl | k_is | decide +kernel)
    (case nd_ => decide)
    (case a_d_law_left => k_is)
    (case l_d_law_left => k_is)
    (case c_d_law_left => k_is)
    (case k_d_law_left => k_is)
    (case a_d_law_digit => k_is)
    (case l_d_law_digit => k_is)
    (case c_d_law_digit => k_is)
    (case k_d_law_digit => k_is)
    (case a_d_law_all => k_is)
    (case l_d_law_all => k_is)
    (case c_d_law_all => k_is)
    (case k_d_law_all => k_is)
    (case a_d_law_kinds => k_is)
    (case l_d_law_kinds => k_is)
    (case c_d_law_kinds => k_is)
    (case k_d_law_kinds => k_is)
    (case a_d_law_above => k_is)
    (case l_d_law_above => k_is)
    (case c_d_law_above => k_is)
    (case k_d_law_above => k_is)
    (case a_d_law_fields => k_is)
    (case l_d_law_fields => k_is)
    (case c_d_law_fields => k_is)
    (case k_d_law_fields => k_is)
    (case a_d_law_raised => k_is)
    (case l_d_law_raised => k_is)
    (case c_d_law_raised => k_is)
    (case k_d_law_raised => k_is)
    (case a_d_law => k_is)
    (case l_d_law => k_is)
    (case c_d_law => k_is)
    (case k_d_law => k_is)
    (case z_abs => k_is)
    (case z_isinstance => k_is)
    (case z_int => k_is)
    (case z_bool => k_is)
    (case z_tuple => k_is)
    (case z_list => k_is)
    (case z_len => k_is)
    (case z_range => k_is)
    (case z_str => k_is)
    (case z_repr => k_is)
    (case z_sum => k_is)
    (case z_all => k_is)
    (case z_any => k_is)
    (case z_enumerate => k_is)
    (case z_zip => k_is)
    (case z_min => k_is)
    (case z_max => k_is)
    (case z_sorted => k_is)
    (case z_ValueError => k_is)
    (case z_ZeroDivisionError => k_is)
    (case z_OverflowError => k_is)
    (case z_IndexError => k_is)
    (case z_LookupError => k_is)
    (case z_ArithmeticError => k_is)
    (case z_KeyError => k_is)
    (case z_RuntimeError => k_is)
