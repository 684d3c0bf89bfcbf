import PyProof.Rows.All
import Wide.All
import OpenK.AllK
import Wide.FinOn
import HandS.Base
import HandS.Call
import HandS.List
import HandS.Ends
import HandS.Words
import HandS.Exc
import HandS.ExcOwn
import HandS.ExcInit
import HandS.ExcField
import HandS.ExcIs
import HandS.WordsExc
import HandS.TryOnly
import HandS.TryMany
import KE.KExcIs
import PyProof.ReprRoads
import HandS.Wide
import HandS.IsInst
import HandS.Defaults
import HandS.Style
import HandS.Comp
import HandS.Flow
import HandS.Iter
import HandS.Zip
import HandS.CallLocal
import HandS.Dict
import HandS.Walk
import PySem.Challenge.RW_besttelling_k09_what_makes_a_rule
namespace Fr
theorem fmod_abs (a : Int) {b : Int} (h : b ≠ 0) : (a.fmod b).natAbs < b.natAbs := by
  by_cases hb : 0 < b
  · have h1 := Int.fmod_lt_of_pos a hb
    have h2 := Int.fmod_nonneg_of_pos a hb
    omega
  · have hb' : 0 < -b := by omega
    have e := Int.neg_fmod_neg (-a) (-b)
    rw [Int.neg_neg, Int.neg_neg] at e
    have h1 := Int.fmod_lt_of_pos (-a) hb'
    have h2 := Int.fmod_nonneg_of_pos (-a) hb'
    omega
theorem gcd_step (a b : Int) : Int.gcd b (a.fmod b) = Int.gcd a b := by
  rw [Int.fmod_def, Int.mul_comm, Int.gcd_sub_mul_right_right, Int.gcd_comm]
theorem gcd_pos {t b : Int} (h : b ≠ 0) : (0 : Int) < (Int.gcd t b : Int) := by
  have : 0 < Int.gcd t b := Int.gcd_pos_of_ne_zero_right t h
  omega
theorem low_num {t b : Int} (hb : 0 < b) : t.fdiv (Int.gcd t b) = (Rat.divInt t b).num := by
  rw [Rat.num_divInt, Int.sign_eq_one_of_pos hb, Int.one_mul, Int.gcd_comm b t, Int.fdiv_eq_ediv_of_nonneg _ (by omega)]
theorem low_den {t b : Int} (hb : 0 < b) : b.fdiv (Int.gcd t b) = ((Rat.divInt t b).den : Int) := by
  rw [Rat.den_divInt, if_neg (by omega), Int.gcd_comm b t, Int.fdiv_eq_ediv_of_nonneg _ (by omega), Int.natCast_ediv]
  congr 1
  omega
theorem lowN_num {t b : Int} (hb : b < 0) : t.fdiv (-(Int.gcd t b : Int)) = (Rat.divInt t b).num := by
  have e := Int.neg_fdiv_neg (-t) (Int.gcd t b : Int)
  rw [Int.neg_neg] at e
  rw [e, Rat.num_divInt, Int.sign_eq_neg_one_of_neg hb, Int.gcd_comm b t, Int.fdiv_eq_ediv_of_nonneg _ (by omega), Int.neg_mul, Int.one_mul]
theorem lowN_den {t b : Int} (hb : b < 0) : b.fdiv (-(Int.gcd t b : Int)) = ((Rat.divInt t b).den : Int) := by
  have e := Int.neg_fdiv_neg (-b) (Int.gcd t b : Int)
  rw [Int.neg_neg] at e
  rw [e, Rat.den_divInt, if_neg (by omega), Int.gcd_comm b t, Int.fdiv_eq_ediv_of_nonneg _ (by omega), Int.natCast_ediv]
  congr 1
  omega
/-- top and bottom below 2 ^ n -/
def Bd (n : Nat) (q : Rat) : Prop := q.num.natAbs < 2 ^ n ∧ q.den < 2 ^ n
theorem Bd.mono {n m : Nat} {q : Rat} (h : Bd n q) (l : n ≤ m) : Bd m q :=
  ⟨Nat.lt_of_lt_of_le h.1 (Nat.pow_le_pow_right (by decide) l), Nat.lt_of_lt_of_le h.2 (Nat.pow_le_pow_right (by decide) l)⟩
theorem bd_low {t b : Int} {n : Nat} (ht : t.natAbs < 2 ^ n) (hb : b.natAbs < 2 ^ n) (h : b ≠ 0) : Bd n (Rat.divInt t b) := by
  constructor
  · rw [Rat.num_divInt]
    have h1 : (b.sign * t).natAbs = t.natAbs := by
      rw [Int.natAbs_mul, Int.natAbs_sign_of_ne_zero h, Nat.one_mul]
    have h2 : (b.sign * t / (b.gcd t : Int)).natAbs ≤ (b.sign * t).natAbs := Int.natAbs_ediv_le_natAbs _ _
    omega
  · rw [Rat.den_divInt, if_neg h]
    exact Nat.lt_of_le_of_lt (Nat.div_le_self _ _) hb
theorem den_pos (q : Rat) : (0 : Int) < (q.den : Int) := by
  have := q.den_pos
  omega
theorem den_ne (q : Rat) : (q.den : Int) ≠ 0 := Int.ne_of_gt (den_pos q)
theorem add_eq (a b : Rat) : Rat.divInt (a.num * b.den + b.num * a.den) (a.den * b.den) = a + b := by
  rw [← Rat.divInt_add_divInt _ _ (den_ne a) (den_ne b), Rat.num_divInt_den, Rat.num_divInt_den]
theorem sub_eq (a b : Rat) : Rat.divInt (a.num * b.den - b.num * a.den) (a.den * b.den) = a - b := by
  rw [Rat.sub_def, Rat.normalize_eq_mkRat, ← Int.natCast_mul]
  rfl
theorem mul_eq (a b : Rat) : Rat.divInt (a.num * b.num) (a.den * b.den) = a * b := by
  rw [← Rat.divInt_mul_divInt, Rat.num_divInt_den, Rat.num_divInt_den]
theorem div_eq (a b : Rat) : Rat.divInt (a.num * b.den) (a.den * b.num) = a / b := by
  rw [Rat.div_def, Rat.inv_def, ← Rat.divInt_mul_divInt, Rat.num_divInt_den]
theorem mul_bd {i j : Int} {n m : Nat} (hi : i.natAbs < 2 ^ n) (hj : j.natAbs < 2 ^ m) : (i * j).natAbs < 2 ^ (n + m) := by
  rw [Int.natAbs_mul, Nat.pow_add]
  exact Nat.mul_lt_mul'' hi hj
theorem add_bd {i j : Int} {n : Nat} (hi : i.natAbs < 2 ^ n) (hj : j.natAbs < 2 ^ n) : (i + j).natAbs < 2 ^ (n + 1) := by
  rw [Nat.pow_succ]
  omega
theorem sub_bd {i j : Int} {n : Nat} (hi : i.natAbs < 2 ^ n) (hj : j.natAbs < 2 ^ n) : (i - j).natAbs < 2 ^ (n + 1) := by
  rw [Nat.pow_succ]
  omega
theorem Bd.dn {n : Nat} {q : Rat} (h : Bd n q) : (q.den : Int).natAbs < 2 ^ n := by
  rw [Int.natAbs_natCast]
  exact h.2
theorem up {i : Int} {n m : Nat} (h : i.natAbs < 2 ^ n) (l : n ≤ m) : i.natAbs < 2 ^ m := Nat.lt_of_lt_of_le h (Nat.pow_le_pow_right (by decide) l)
theorem dd_ne (a b : Rat) : (a.den : Int) * (b.den : Int) ≠ 0 := Int.mul_ne_zero (den_ne a) (den_ne b)
theorem bd_add {a b : Rat} {n m : Nat} (ha : Bd n a) (hb : Bd m b) : Bd (n + m + 1) (a + b) := by
  rw [← add_eq]
  refine bd_low ?_ (up (mul_bd ha.dn hb.dn) (Nat.le_succ _)) (dd_ne a b)
  have h2 := mul_bd hb.1 ha.dn
  rw [Nat.add_comm m n] at h2
  exact add_bd (mul_bd ha.1 hb.dn) h2
theorem bd_sub {a b : Rat} {n m : Nat} (ha : Bd n a) (hb : Bd m b) : Bd (n + m + 1) (a - b) := by
  rw [← sub_eq]
  refine bd_low ?_ (up (mul_bd ha.dn hb.dn) (Nat.le_succ _)) (dd_ne a b)
  have h2 := mul_bd hb.1 ha.dn
  rw [Nat.add_comm m n] at h2
  exact sub_bd (mul_bd ha.1 hb.dn) h2
theorem bd_mul {a b : Rat} {n m : Nat} (ha : Bd n a) (hb : Bd m b) : Bd (n + m) (a * b) := by
  rw [← mul_eq]
  exact bd_low (mul_bd ha.1 hb.1) (mul_bd ha.dn hb.dn) (dd_ne a b)
theorem ratio_gcd (q : Rat) : Int.gcd q.num q.den = 1 := by
  have := q.reduced
  rw [Int.gcd, Int.natAbs_natCast]
  exact this
theorem foldl_add (l : List Rat) : ∀ a : Rat, l.foldl (· + ·) a = a + l.sum := by
  induction l with
  | nil => intro a; rw [List.foldl_nil, List.sum_nil, Rat.add_zero]
  | cons x r ih => intro a; rw [List.foldl_cons, ih, List.sum_cons, Rat.add_assoc]
theorem sum_rev (l : List Rat) : l.reverse.sum = l.sum := by
  induction l with
  | nil => rfl
  | cons x r ih => rw [List.reverse_cons, List.sum_append, ih, List.sum_cons, List.sum_cons, List.sum_nil, Rat.add_zero, Rat.add_comm]
theorem div_self' {a : Rat} (h : a ≠ 0) : a / a = 1 := by
  rw [Rat.div_def]
  exact Rat.mul_inv_cancel a h
end Fr

set_option Elab.async false
set_option linter.all false
set_option maxRecDepth 100000
set_option maxHeartbeats 4000000
namespace BX
open PySem PySem.Spec PyProof.Rows L2
/-! ### several clauses «except x as n» -/
structure Clause where
  cls : Value
  slot : Nat
  ts : Addr → Value → Option Addr → TS
def wClauses (K : PySem.W.Frag) (Wout : WX) (D : Ends) : List Clause → WX
  | [] => Wout
  | c :: r => wAs K c.cls c.slot c.ts (wClauses K Wout D r) D
inductive ClausesOk (X : Cx) : List ExceptHandler → List Clause → Prop
  | nil : ClausesOk X [] []
  | cons {x n : Str} {c : Value} {i : Nat} {ts : Addr → Value → Option Addr → TS} {b₀ : Stmt} {suite : List Stmt} {np pos' : Pos} {hds : List ExceptHandler} {l : List Clause} (hi : X.N[i]? = some n) (hln : X.env.kindOf n = some .local) (hc : Names X x c)
      (hsu : ∀ (a : Addr) (oe : Obj) (cls : Value) (d : Option Addr) (pn : List (Addr × Obj)), Zc cls d oe → (∃ vs, oe.data = .fields vs) → PSs (X.suite a ((a, oe) :: pn)) (b₀ :: suite) (ts a cls d)) (r : ClausesOk X hds l) :
      ClausesOk X (.ExceptHandler (some (.Name x np)) (some n) (b₀ :: suite) pos' :: hds) (⟨c, i, ts⟩ :: l)
section
variable {X : Cx} {body : List Stmt} {h₀ : ExceptHandler} {hds : List ExceptHandler} {l : List Clause} {pos : Pos} {tb : WX → TS} {Wout : WX}
theorem ps_try_clauses (hs : X.stack = X.env :: X.outer) (hf : X.env.frame = some X.env.locals) (hN : X.N.Nodup) (tk : Takes X Wout)
    (hb : ∀ (W : WX) (pn : List (Addr × Obj)) (xe : Value → Shared → Prop), Takes (X.tr pn xe) W → PassesOwn (model X.prog X.w) X.A X.env xe → PSs (X.tr pn xe) body (tb W))
    (hh : ClausesOk X (h₀ :: hds) l) : PS X (.Try body (h₀ :: hds) [] [] pos) (fun D σ H => tb (wClauses X.K Wout D l) D σ H) := by
  refine ⟨fun pins s σ H D I h => ?_⟩
  have ok := I.ok
  have hfr : X.A.frames = some (X.env :: X.outer) := by rw [ok.frames, hs]
  refine wpAny_Try_except ?_
  refine wpAny_mono ((hb (wClauses X.K Wout D l) (X.pn ++ pins) (fun e s₁ => wpAny (model X.prog X.w) X.A (noteFrame e X.env) (fun _ s₂ => wpAny (model X.prog X.w) X.A (setFlight e none) (fun _ s₃ =>
    wpAny (model X.prog X.w) X.A (handleBy e X.env (h₀ :: hds)) (SP X pins D) X.xe s₃) X.xe s₂) X.xe s₁) (fun u s' xx => ?_) PassesOwn.looking).run [] s σ H D (I.toTry _) h) (fun f s1 hsp => ?_) (fun e s1 he => he)
  · obtain ⟨a, B, sI, pins', σ', H', cls, d, rfl, J', nb, up, sky, na, os, ag, ww⟩ := xx
    have J : Inv X pins σ' H' sI := J'.ofTry ok
    have sky' : Sky B (X.env :: X.outer) a (Zc cls d) X.env.locals s'.heap := by rw [← hs]; exact sky
    show wpAny (model X.prog X.w) X.A (noteFrame (.ref a) X.env) _ _ _
    refine Sky.land Zc.steady hfr hf sky' fun h3 fl3 up3 => ?_
    have J3 : Inv X pins σ' H' { s' with heap := h3 } := J.landed nb fl3.1 (up.trans up3) os ag
    obtain ⟨oe3, vs3, he3, hz3, hd3⟩ := fl3.there
    have nfr : a ∉ frs (X.env :: X.outer) := fun hm => by
      obtain ⟨_, o', e', hnf⟩ := fl3.2.2.1.mem hm
      rw [he3] at e'; cases e'
      exact hnf _ hd3
    have nL : a ≠ X.env.locals := fun z => nfr (List.mem_filterMap.mpr ⟨X.env, List.mem_cons_self, by rw [hf, z]⟩)
    have nF : a ∉ X.fs := fun hm => by
      obtain ⟨e, he, q⟩ := List.mem_filterMap.mp hm
      exact nfr (List.mem_filterMap.mpr ⟨e, List.mem_cons_of_mem _ he, q⟩)
    have S3 := J3.suite he3 hd3 na nL nF
    have go : ∀ {hds' : List ExceptHandler} {l' : List Clause}, ClausesOk X hds' l' → wClauses X.K Wout D l' cls d σ' H' →
        wpAny (model X.prog X.w) X.A (handleBy (.ref a) X.env hds') (SP X pins D) X.xe { s' with heap := h3 } := by
      intro hds' l' hk
      induction hk with
      | nil =>
        intro ww
        refine wpAny_handleBy_nil ?_
        obtain ⟨k1, k2, k3, oe, vs, T, oT, ts', he, hz, hd, h1, hr⟩ := id fl3
        unfold PySem.passOn
        refine wpAny_bind (wpAny_field he hd h1 ?_)
        rw [if_neg (show ¬ ((Value.ref T == Value.none) = true) from by simp)]
        have fin : wpAny (model X.prog X.w) X.A (setFlight (.ref a) X.env.frame) (fun _ s4 => wpAny (model X.prog X.w) X.A (throw (.ref a) : Sem Flow) (SP X pins D) X.xe s4) X.xe { s' with heap := h3 } := by
          rw [hf]
          refine HandSPX.setFlight_upZ fl3 fun h4 hh4 up4 => wpAny_throw (tk _ _ ?_)
          exact ⟨a, B, sI, pins, σ', H', cls, d, rfl, J, nb, (up.trans up3).trans up4, .inr (.inr (by rw [hs]; exact hh4)), na, os, ag, ww⟩
        first
          | exact wpAny_bind (wpAny_pure (wpAny_bind fin))
          | exact wpAny_bind fin
      | @cons x n c i ts b₀ suite np pos' hds2 l2 hi hln hc hsu r ih =>
        intro ww
        have hloc : Loc X.env.scope n := .inl hln
        obtain ⟨b, hb1, hyes, hno⟩ := ww
        refine wpAny_handleBy_cons (codeAny_handlers_test ?_) (by intro q; cases q)
        have LT : PySem.W.Looks (model X.prog X.w) h3 (typeOf (.ref a)) cls := fun A Q E s k q => wpAny_typeOf_ref (k _ _ he3) (by rw [hz3.1]; exact q)
        have LM := PySem.W.exm_one (M := model X.prog X.w) (J3.kIn) LT hb1
        have test : ∀ {Q : Value → Shared → Prop} {E : Value → Shared → Prop}, Q c { s' with heap := h3 } → wpAny (model X.prog X.w) (X.A.mark (some (.ref a))) (eval (.Name x np) X.env) Q E { s' with heap := h3 } := fun {Q E} q => by
          obtain ⟨hg, hdbg, hm | ⟨hm, hv, hnn⟩⟩ := hc
          · exact ld_glob (X := X.suite a ((a, oe3) :: (X.pn ++ pins))) S3 hg hm q hdbg
          · exact ld_blt (X := X.suite a ((a, oe3) :: (X.pn ++ pins))) S3 hg hm hv q hnn hdbg
        refine test (LM.here ?_)
        cases b with
        | true =>
          refine codeAny_handlers_suite_as ?_
          refine HandSPX.lands_againZ fl3 fun h4 fl4 up4 => ?_
          have J4 : Inv X pins σ' H' { s' with heap := h4 } := J.landed nb fl4.1 ((up.trans up3).trans up4) os ag
          obtain ⟨oe4, vs4, he4, hz4, hd4⟩ := fl4.there
          have S4 := J4.suite he4 hd4 na nL nF
          refine store_ok (X := X.suite a ((a, oe4) :: (X.pn ++ pins))) (v := .ref a) S4 hN hi hloc rfl (fun s5 S5 => ?_) (.inr hln)
          refine wpAny_mono ((hsu a oe4 cls d (X.pn ++ pins) hz4 ⟨_, hd4⟩).run [] s5 _ H' _ S5 (hyes rfl a na)) (fun f s6 hsp => ?_) (fun _ _ z => False.elim z)
          have end_ : ∀ {σ6 : L2.St} {H6 : Hp} {Q : Shared → Prop}, Inv (X.suite a ((a, oe4) :: (X.pn ++ pins))) [] σ6 H6 s6 → (∀ s7, Inv X pins (σ6.set i none) H6 s7 → Q s7) →
              wpAny (model X.prog X.w) X.A (do bindName X.env n .none; unbindBehindTheSuite X.env n pos') (fun _ s7 => Q s7) X.xe s6 := fun {σ6 H6 Q} S6 hq => gone_ok (S6.unsuite ok) hN hi hln hq
          cases f with
          | next =>
            obtain ⟨σ6, H6, S6, q6⟩ := hsp
            exact end_ S6 fun s7 J7 => ⟨_, _, J7, q6⟩
          | brk =>
            obtain ⟨σ6, H6, S6, q6⟩ := hsp
            exact end_ S6 fun s7 J7 => ⟨_, _, J7, q6⟩
          | cont =>
            obtain ⟨σ6, H6, S6, q6⟩ := hsp
            exact end_ S6 fun s7 J7 => ⟨_, _, J7, q6⟩
          | ret u =>
            obtain ⟨v6, σ6, H6, S6, r6, q6⟩ := hsp
            exact end_ S6 fun s7 J7 => ⟨_, _, _, J7, r6, q6⟩
        | false =>
          show wpAny _ X.A (handleBy (.ref a) X.env hds2) _ _ _
          exact ih (hno rfl)
    exact go hh ww
  · cases f with
    | next =>
      obtain ⟨σ', H', J', q⟩ := hsp
      exact wpAny_execs_nil ⟨σ', H', J'.ofTry ok, q⟩
    | brk =>
      obtain ⟨σ', H', J', q⟩ := hsp
      exact ⟨σ', H', J'.ofTry ok, q⟩
    | cont =>
      obtain ⟨σ', H', J', q⟩ := hsp
      exact ⟨σ', H', J'.ofTry ok, q⟩
    | ret u =>
      obtain ⟨v, σ', H', J', r, q⟩ := hsp
      exact ⟨v, σ', H', J'.ofTry ok, r, q⟩
end
/-! ### isinstance of a caught error, with or without fields -/
def rIsX (K : PySem.W.Frag) (D a : Addr) (cls : Value) (d : Option Addr) : List V → Hp → VK → Prop := fun xs H Q => ∃ (c : V) (u : Value) (b : Bool), xs = [.ref a, c] ∧ cls = .ref D ∧ ClsE c u ∧ (d = none ∨ ∃ dd fs, d = some dd ∧ H dd = some (.xd fs)) ∧ PySem.W.kitOne K (.ref D) u = some b ∧ Q (.bl b) H
where ClsE (c : V) (u : Value) : Prop := ∀ w, RelV c w → w = u
theorem call_isX {X : Cx} {a D : Addr} {oe : Obj} {cls : Value} {d : Option Addr} {pn : List (Addr × Obj)} (C : ExcC X.K D) (hz : Zc cls d oe) (hf : ∃ vs, oe.data = .fields vs) : CallR (X.suite a ((a, oe) :: pn)) (.builtin "isinstance") (rIsX X.K D a cls d) := by
  intro pins s σ H xs us Q I r h
  obtain ⟨c, u, b, rfl, rfl, hcv, hdd, e, q⟩ := h
  cases r with
  | cons rx rr =>
    cases rr with
    | cons rt rr =>
      cases rr
      cases rx
      have ec := hcv _ rt
      subst ec
      obtain ⟨hget, _⟩ := I.pin (a, oe) (List.mem_append.mpr (.inl List.mem_cons_self))
      obtain ⟨vs, hv⟩ := hf
      have hcl : (PySem.W.clsIn X.K D).isSome = true := by
        obtain ⟨cd, hc, _⟩ := PySem.W.any_some C.hd
        rw [hc]
        rfl
      have J : ∃ od, PySem.W.InstAt s.heap a oe D od := by
        obtain ⟨oc, od, oda, osl⟩ := oe
        obtain ⟨h1, h2⟩ := hz
        dsimp only at h1 h2 hv
        subst h1 h2 hv
        rcases hdd with rfl | ⟨dd, fs, rfl, hx⟩
        · exact ⟨none, hget, rfl, rfl, trivial⟩
        · obtain ⟨o, ho⟩ := objOk_get (I.hok dd _ hx)
          exact ⟨some o, hget, rfl, rfl, ho⟩
      obtain ⟨od, J⟩ := J
      exact PySem.W.kia_one (PySem.W.kitx_exc hcl C.hg C.hk C.hs C.ha C.hn C.ht C.hm) I.kIn J e (fun z => nomatch z) fun tk => ⟨.bl b, H, I.kept (t' := tk) fun _ _ z => z, rfl, q⟩
end BX

set_option Elab.async false
set_option linter.all false
set_option maxRecDepth 100000
set_option maxHeartbeats 4000000
namespace BX
open PySem PySem.Spec PyProof.Rows L2
/-! ### promises of defs that are called where nothing is being shown -/
structure FnOkG (P : Program) (w : World) (K : PySem.W.Frag) (mg : Str → Option Value) (base : Heap) (CX : CXT) (k : Nat) (f : Addr) (fd : FuncData) (ps : List Str) (sp : Sp) : Prop where
  len : ∀ vs H Q E, sp vs H Q E → vs.length = ps.length
  run : ∀ (A : Around) (outer : List Env) (s : Shared) (H : Hp) (args : Args) (us : List Value) (vs : List V) (Q : VK) (E : XK), Room k A → A.guards = some [] → Env0 P w K mg base A outer s H → BindsTo s fd args (ps.zip us) → Vals vs us → sp vs H Q E →
    codeAny (model P w) A (.call (.ref f) args) (CR CX outer P w H s Q E) s
section
variable {P : Program} {w : World} {K : PySem.W.Frag} {mg : Str → Option Value} {base : Heap} {CX : CXT} {k : Nat} {f : Addr} {fd : FuncData} {ps : List Str} {sp : Sp}
theorem FnOkG.of (F : FnOk P w K mg base CX k f fd ps sp) : FnOkG P w K mg base CX k f fd ps sp := ⟨F.len, fun A outer s H args us vs Q E hr _ e b r h => F.run A outer s H args us vs Q E hr e b r h⟩
theorem FnOkG.mono {j : Nat} (F : FnOkG P w K mg base CX j f fd ps sp) (h : j ≤ k) : FnOkG P w K mg base CX k f fd ps sp := ⟨F.len, fun A outer s H args us vs Q E hr => F.run A outer s H args us vs Q E (hr.mono h)⟩
/-- the body of such a def -/
theorem fn_ofG {name qual : Str} {params : Arguments} {body : List Stmt} {scope : Scope} {dV kV doc pm cdv ct oc : Value} {an od : Option Addr} {osl : Array (Option Value)} {N : List Str}
    (lk : K.lookup f = some ⟨oc, od, .func (PySem.W.fnOf name qual params body scope dV kV doc pm an cdv ct), osl⟩) (hcd : PySem.W.codeIn K cdv qual = true) (S : FnScope N ps scope) (len : ∀ vs H Q E, sp vs H Q E → vs.length = ps.length)
    (hbody : ∀ (A : Around) (outer : List Env) (s : Shared) (H : Hp) (vs : List V) (Q : VK) (E : XK), Room k (A.deeper (envOfC qual scope s.heap.objs.size f cdv)) → (A.deeper (envOfC qual scope s.heap.objs.size f cdv)).guards = some [] → sp vs H Q E →
      ∃ t, PSs (cxOf CX P w K mg base N qual scope f cdv A outer s H E) body t ∧ t { nx := fun _ H' => Q .non H', rt := Q } (start N vs) H) :
    FnOkG P w K mg base CX (k + 1) f (PySem.W.fnOf name qual params body scope dV kV doc pm an cdv ct) ps sp := by
  refine ⟨len, fun A outer s H args us vs Q E hr hgd e0 hb r hsp => ?_⟩
  have KX : K.In s.heap := e0.mod.kin.keeps fun b o e => (e0.bs b o e).1
  have lim : s.heap.NoLimit := e0.mod.nolimit.keeps fun b o e => (e0.bs b o e).1
  have hkind : ∀ y ∈ ps.zip us, scope.names.lookup y.1 = some .local ∨ (scope.names.lookup y.1 = some .cell ∧ ((cellsFrom (s.heap.objs.size + 1) scope.names []).lookup y.1).isSome = true) := fun ⟨n, v⟩ hy => by
    rcases S.par n (List.of_mem_zip hy).1 with q | q
    · exact .inl q
    · exact .inr ⟨q, PySem.W.cellsFrom_some _ _ _ (.inl q)⟩
  refine codeAny_call_function hr.depth (KX _ _ lk) rfl S.co S.gen rfl (PySem.W.codeRec_of KX hcd) (hb _ _ _ _ ?_)
  refine wpAny_newFunctionEnv_cells S.kind hkind fun env he s1 x => ?_
  subst he
  refine ⟨lim.keeps x.toInCall.keep, codeAny_func ?_⟩
  obtain ⟨t, ht, hq⟩ := hbody A outer s H vs Q E (hr.deeper _) hgd hsp
  have I : Inv (cxOf CX P w K mg base N qual scope f cdv A outer s H E) [] (start N vs) H s1 := inv_start S hr.hd e0 (len _ _ _ _ hsp) r x
  refine wpAny_mono (ht.run [] s1 (start N vs) H _ I hq) (fun fl s' hs => ?_) fun e s' hs => hs
  have fin : ∀ {σ' : L2.St} {H' : Hp} {v : V} {u : Value}, Inv (cxOf CX P w K mg base N qual scope f cdv A outer s H E) [] σ' H' s' → RelV v u → Q v H' → CE outer P w H s Q u s' :=
    fun {σ' H' v u} J rv q => ⟨v, H', J.os, J.bare, J.base, J.hok, rv, q⟩
  cases fl with
  | ret u =>
    obtain ⟨v, σ', H', J, rv, q⟩ := hs
    exact fin J rv q
  | next =>
    obtain ⟨σ', H', J, q⟩ := hs
    exact fin (v := V.non) (u := Value.none) J rfl q
  | brk =>
    obtain ⟨_, _, _, q⟩ := hs
    exact False.elim q
  | cont =>
    obtain ⟨_, _, _, q⟩ := hs
    exact False.elim q
theorem okG {x qual : Str} {st : Stmt} {N : List Str} (F : Fun K x qual st f fd) (S : FnScope N ps (defScope st)) (len : ∀ vs H Q E, sp vs H Q E → vs.length = ps.length)
    (hbody : ∀ (cdv : Value) (A : Around) (outer : List Env) (s : Shared) (H : Hp) (vs : List V) (Q : VK) (E : XK), Room k (A.deeper (envOfC qual (defScope st) s.heap.objs.size f cdv)) → (A.deeper (envOfC qual (defScope st) s.heap.objs.size f cdv)).guards = some [] → sp vs H Q E →
      ∃ t, PSs (cxOf CX0 P w K mg base N qual (defScope st) f cdv A outer s H E).nox (defBody st) t ∧ t { nx := fun _ H' => Q .non H', rt := Q } (start N vs) H) : FnOkG P w K mg base CX0 (k + 1) f fd ps sp := by
  obtain ⟨oc, od, kV, doc, pm, an, cdv, ct, osl, rfl, lk, hcd⟩ := F.ex
  refine fn_ofG lk hcd S len fun A outer s H vs Q E hr hgd hsp => ?_
  obtain ⟨t, h, q⟩ := hbody cdv A outer s H vs Q E hr hgd hsp
  exact ⟨t, h.nox, q⟩
end
section
variable {X : Cx} {CX : CXT} {k : Nat} {f : Addr} {fd : FuncData} {ps : List Str} {sp : Sp} {E : XK} {x : Str} {p pos : Pos} {e : Expr} {es : List Expr} {t : TA} {ds : List Value} {dvs : List V}
theorem run_fnG {pins : List (Addr × Obj)} {σ : L2.St} {H : Hp} {s : Shared} {Q : VK} {us : List Value} {vs : List V} (F : FnOkG X.prog X.w X.K X.mg X.base CX k f fd ps sp) (hr : Room k X.A) (hgd : X.A.guards = some []) (hb : Binds X.K fd ps ds) (hd : Vals dvs ds) (hx : Passes CX X E)
    (I : Inv X pins σ H s) (r : Vals vs us) (h : sp (vs ++ dvs) H Q E) : wpAny (model X.prog X.w) X.A (call (.ref f) us) (EP X pins σ Q) X.xe s := by
  have r2 : Vals (vs ++ dvs) (us ++ ds) := r.append hd
  have hl : (us ++ ds).length = ps.length := by rw [← r2.length]; exact F.len _ _ _ _ h
  refine wpAny_call (codeAny_mono (F.run X.A X.stack s H ⟨us, []⟩ (us ++ ds) (vs ++ dvs) Q E hr hgd I.env0 (hb s us I.kIn hl) r2 h) fun r s' hq => ?_)
  cases r with
  | error e => exact hx pins σ H s e s' I hq
  | ok fl =>
    cases fl with
    | ret u => exact I.after hq
    | next => exact False.elim hq
    | brk => exact False.elim hq
    | cont => exact False.elim hq
theorem pe_callG (F : FnOkG X.prog X.w X.K X.mg X.base CX k f fd ps sp) (hr : Room k X.A) (hgd : X.A.guards = some []) (hg : Gl X x) (hm : X.mg x = some (.ref f)) (hk : PySem.W.keepIn X.K (.ref f) = true) (hb : Binds X.K fd ps ds) (hd : Vals dvs ds) (hx : Passes CX X E)
    (ha : PA X (e :: es) t) (hdb : (x == ("__debug__" : Str)) = false := by decide) (he : starEach (e :: es) X.env = (false, eval e X.env) :: starEach es X.env := by rfl) (hpl : (backTo pos (starEach es X.env)).any (·.1) = false := by rfl) :
    PE X (.Call (.Name x p) (e :: es) [] pos) (tCall sp dvs E t) := by
  refine ⟨fun pins s σ H Q I h => ?_⟩
  refine wpAny_Call_Name_kw (ld_glob I hg hm ?_ hdb)
  refine PySem.W.callWith_K (h₀ := X.base) I.ok.mod.kin hk (thn (ha.run pos pins s σ H _ I h) fun us s1 ⟨vs, H1, I1, r, q⟩ => ⟨I1.kIn, ?_⟩) he hpl
  exact run_fnG F hr hgd hb hd hx I1 r q
end
/-! ### repr -/
/-- data, or the empty dict -/
def Dq (K : PySem.W.Frag) (H : Hp) (v : V) (d : PyData) : Prop := Dp K H v d ∨ ∃ a, v = .ref a ∧ H a = some (.dK []) ∧ d = .dict []
mutual
theorem noDict {K : PySem.W.Frag} {H : Hp} : ∀ (d : PyData) (v : V), Dp K H v d → d.hasDict = false
  | .none, _, _ => rfl
  | .bool _, _, _ => rfl
  | .int _, _, _ => rfl
  | .str _, _, _ => rfl
  | .list ds, _, h => by
    cases h with
    | lst _ ha => exact noDicts ds _ ha
  | .tuple ds, _, h => by
    cases h with
    | tup _ ha => exact noDicts ds _ ha
  | .dict _, _, h => by cases h
theorem noDicts {K : PySem.W.Frag} {H : Hp} : ∀ (ds : List PyData) (vs : List V), DpAll K H vs ds → PyData.hasDictAll ds = false
  | [], _, _ => rfl
  | d :: ds, _, h => by
    cases h with
    | cons h1 h2 =>
      show (PyData.hasDict d || PyData.hasDictAll ds) = false
      rw [noDict d _ h1, noDicts ds _ h2]
      rfl
end
def rRepr (K : PySem.W.Frag) : List V → Hp → VK → Prop := fun xs H Q => ∃ x d, xs = [x] ∧ Dq K H x d ∧ d.showable = true ∧ d.depth ≤ 64 ∧ d.shown.length ≤ sizeLine ∧ Q (.str d.shown) H
theorem call_reprD {X : Cx} (hgd : X.A.guards = some []) (hu : X.A.units + 80 < cLine) : CallR X (.builtin "repr") (rRepr X.K) := by
  intro pins s σ H xs us Q I r h
  obtain ⟨x, d, rfl, hd, hs, hdp, hsz, q⟩ := h
  cases r with
  | @cons _ u _ _ ru rn =>
    cases rn
    have up : ∀ {a : Addr} {as : List Addr}, Reads s.heap (.ref a) d as → (d.hasDict = true → sysModules ∉ as) → wpAny (model X.prog X.w) X.A (call (.builtin "repr") [.ref a]) (EP X pins σ Q) X.xe s := fun {a as} rd hsm =>
      repr_of_reads' rd hs hsm hgd (by omega) (fun _ _ z => z) (fun h' u tk hk => ⟨.str d.shown, H, I.kept (t' := tk) hk, ⟨_, rfl⟩, q⟩) hsz
    rcases hd with hd | ⟨a, rfl, ha, rfl⟩
    · have nd := noDict d x hd
      cases hd with
      | non => cases (show u = Value.none from ru); exact P.repr_of_none ⟨.str (PyData.shown .none), H, I.tok _, ⟨_, rfl⟩, q⟩
      | bl b => cases (show u = Value.bool b from ru); exact P.repr_of_bool ⟨.str (PyData.shown (.bool b)), H, I.tok _, ⟨_, rfl⟩, q⟩
      | int i => obtain ⟨t, e⟩ := (show ∃ t, u = Value.int i t from ru); cases e; exact P.repr_of_int (of_decide_eq_true hs) ⟨.str (PyData.shown (.int i)), H, I.tok _, ⟨_, rfl⟩, q⟩
      | str y => obtain ⟨t, e⟩ := (show ∃ t, u = Value.str y t from ru); cases e; exact P.repr_of_str ⟨.str (PyData.shown (.str y)), H, I.tok _, ⟨_, rfl⟩, q⟩ hsz
      | @lst a xs ds h1 h2 =>
        cases (show u = Value.ref a from ru)
        obtain ⟨as, rd⟩ := Dp.reads I _ _ _ (Dp.lst h1 h2) (show RelV (.ref a) (.ref a) from rfl)
        exact up rd (fun z => by rw [nd] at z; cases z)
      | @tup a xs ds h1 h2 =>
        cases (show u = Value.ref a from ru)
        obtain ⟨as, rd⟩ := Dp.reads I _ _ _ (Dp.tup h1 h2) (show RelV (.ref a) (.ref a) from rfl)
        exact up rd (fun z => by rw [nd] at z; cases z)
    · cases (show u = Value.ref a from ru)
      obtain ⟨_, hns, vs, hkv, o, es, ep, h1, h2, h3, h4, h5, _⟩ := (show ObjOk X.prog X.w H s.heap a (.dK []) from I.hok a _ ha)
      cases hkv
      have he : es.toList = [] := List.eq_nil_of_length_eq_zero h5.length
      refine up (as := a :: [] ++ []) (Reads.dict h1 h2.1 h3 (by rw [he]; exact .nil) (by rw [he]; exact .nil)) (fun _ hm => ?_)
      have ea : sysModules = a := by simpa using hm
      rw [← ea] at hns
      exact absurd hns (by decide +kernel)
end BX

set_option Elab.async false
set_option linter.all false
set_option maxRecDepth 100000
set_option maxHeartbeats 2000000
namespace Co
open PySem PySem.Spec PyProof.Rows L2
open Fr (Bd)
/-! ### // by any number but nought -/
def CDivZ (_ j : Int) : Prop := j ≠ 0 ∧ j.natAbs.log2 < 9000
theorem op_fdivZ {X : Cx} : OpR X (binaryOp .FloorDiv) (rI CDivZ fun i j => .int (i.fdiv j)) := opI fun i j _ _ _ _ _ hc q => floordiv_int hc.1 q (.inl (PyProof.noPylong_of_log2 hc.2))
theorem divZ {i j : Int} {n : Nat} (h : j ≠ 0) (hb : j.natAbs < 2 ^ n) (h0 : 0 < n) (h9 : n ≤ 9000) : CDivZ i j := ⟨h, Nat.lt_of_lt_of_le (PySem.Flt.log2_lt_of h0 hb) h9⟩
theorem same_new {H : Hp} {p : Addr} (h : H p = none) (o : HO) : Same H (upd H p o) := fun b u q => by rw [upd_ne (ne_of_none q h)]; exact q
theorem seqT {K : PySem.W.Frag} {H H' : Hp} {a : Addr} {xs : List V} (e : Same H H') (h : SqT K H a xs) : SqT K H' a xs := by
  rcases h with (h | ⟨o, h⟩) | h
  · exact .inl (.inl (e _ _ h))
  · exact .inl (.inr ⟨o, e _ _ h⟩)
  · exact .inr h
/-- what stands in a fraction's tuple -/
def rp (q : Rat) : List V := [.int q.num, .int (q.den : Int)]
def spDiv : Sp := fun vs H Q _ => ∃ a b : Int, vs = [.int a, .int b] ∧ Q (.int (Int.gcd a b : Int)) H
def spLow : Sp := fun vs H Q _ => ∃ (t b : Int) (n : Nat), vs = [.int t, .int b] ∧ t.natAbs < 2 ^ n ∧ b.natAbs < 2 ^ n ∧ b ≠ 0 ∧ n ≤ 8950 ∧ ∀ p, H p = none → Q (.ref p) (upd H p (.tup (rp (Rat.divInt t b))))
theorem gcd_bd {t b : Int} {n : Nat} (h : b ≠ 0) (hb : b.natAbs < 2 ^ n) : (Int.gcd t b : Int).natAbs < 2 ^ n := by
  rw [Int.natAbs_natCast]
  exact Nat.lt_of_le_of_lt (Nat.le_of_dvd (by omega) (Int.gcd_dvd_natAbs_right t b)) hb
theorem wmul {i j : Int} {n m : Nat} (hi : i.natAbs < 2 ^ n) (hj : j.natAbs < 2 ^ m) (h : n + m ≤ 9000) : CMulW i j :=
  wide_mul (a := n + 1) (b := m + 1) (Fr.up hi (Nat.le_succ _)) (Fr.up hj (Nat.le_succ _)) (Nat.succ_pos _) (Nat.succ_pos _) (by omega)
theorem at0 (q : Rat) : atI (rp q) 0 = some (.int q.num) := atI_nat (j := 0) rfl
theorem at1 (q : Rat) : atI (rp q) 1 = some (.int (q.den : Int)) := atI_nat (j := 1) rfl
/-- a fraction made of two -/
def spBin (K : PySem.W.Frag) (g : Rat → Rat → Rat) : Sp := fun vs H Q _ => ∃ (a b : Addr) (x y : Rat) (n m : Nat), vs = [.ref a, .ref b] ∧ SqT K H a (rp x) ∧ SqT K H b (rp y) ∧ Bd n x ∧ Bd m y ∧ n + m ≤ 8900 ∧ ∀ p, H p = none → Q (.ref p) (upd H p (.tup (rp (g x y))))
def spUnder (K : PySem.W.Frag) : Sp := fun vs H Q _ => ∃ (a b : Addr) (x y : Rat) (n m : Nat), vs = [.ref a, .ref b] ∧ SqT K H a (rp x) ∧ SqT K H b (rp y) ∧ Bd n x ∧ Bd m y ∧ n + m ≤ 8900 ∧ Q (.bl (decide (x.num * y.den < y.num * x.den))) H
theorem abs_eq (x : Int) : (if x < 0 then -x else x) = (x.natAbs : Int) := by split <;> omega
theorem tyT {K : PySem.W.Frag} {H : Hp} {a : Addr} {xs : List V} (h : SqT K H a xs) : TyX K H (.ref a) (.type "tuple") := by
  rcases h with (h | ⟨o, h⟩) | ⟨o, its, n, e, c, _⟩
  · exact .base (.tup h)
  · exact .fTuple h
  · exact .kTuple e c
/-- what the module leaves of the built-in names -/
structure Blt (mg : Str → Option Value) : Prop where
  abs_ : mg "abs" = none
  isinstance_ : mg "isinstance" = none
  int_ : mg "int" = none
  bool_ : mg "bool" = none
  tuple_ : mg "tuple" = none
  list_ : mg "list" = none
  len_ : mg "len" = none
  range_ : mg "range" = none
  str_ : mg "str" = none
  repr_ : mg "repr" = none
  sum_ : mg "sum" = none
  all_ : mg "all" = none
  any_ : mg "any" = none
  enumerate_ : mg "enumerate" = none
  zip_ : mg "zip" = none
  min_ : mg "min" = none
  max_ : mg "max" = none
  sorted_ : mg "sorted" = none
  ValueError_ : mg "ValueError" = none
  ZeroDivisionError_ : mg "ZeroDivisionError" = none
  OverflowError_ : mg "OverflowError" = none
  IndexError_ : mg "IndexError" = none
  LookupError_ : mg "LookupError" = none
  ArithmeticError_ : mg "ArithmeticError" = none
  KeyError_ : mg "KeyError" = none
  RuntimeError_ : mg "RuntimeError" = none
/-- a list of fractions: its items, and what they are worth -/
structure FrL (K : PySem.W.Frag) (H : Hp) (refs : List V) (qs : List Rat) : Prop where
  len : refs.length = qs.length
  at_ : ∀ (i : Nat) (v : V), refs[i]? = some v → ∃ (a : Addr) (q : Rat), qs[i]? = some q ∧ v = .ref a ∧ SqT K H a (rp q) ∧ Bd 100 q
theorem FrL.keep {K : PySem.W.Frag} {H H' : Hp} {refs : List V} {qs : List Rat} (h : FrL K H refs qs) (k : ∀ a xs, SqT K H a xs → SqT K H' a xs) : FrL K H' refs qs :=
  ⟨h.len, fun i v e => let ⟨a, q, e1, e2, e3, e4⟩ := h.at_ i v e; ⟨a, q, e1, e2, k _ _ e3, e4⟩⟩
theorem FrL.same {K : PySem.W.Frag} {H H' : Hp} {refs : List V} {qs : List Rat} (h : FrL K H refs qs) (e : Same H H') : FrL K H' refs qs := h.keep fun _ _ => seqT e
theorem FrL.nil {K : PySem.W.Frag} {H : Hp} : FrL K H [] [] := ⟨rfl, fun i v e => by simp at e⟩
theorem FrL.snoc {K : PySem.W.Frag} {H : Hp} {refs : List V} {qs : List Rat} {a : Addr} {q : Rat} (h : FrL K H refs qs) (ha : SqT K H a (rp q)) (hb : Bd 100 q) : FrL K H (refs ++ [.ref a]) (qs ++ [q]) := by
  refine ⟨by rw [List.length_append, List.length_append, h.len]; rfl, fun i v e => ?_⟩
  by_cases hi : i < refs.length
  · rw [List.getElem?_append_left hi] at e
    obtain ⟨a', q', e1, e2, e3, e4⟩ := h.at_ i v e
    exact ⟨a', q', by rw [List.getElem?_append_left (by rw [← h.len]; exact hi)]; exact e1, e2, e3, e4⟩
  · rw [List.getElem?_append_right (by omega)] at e
    have e0 : i - refs.length = 0 := by
      cases z : i - refs.length with
      | zero => rfl
      | succ j => rw [z] at e; simp at e
    rw [e0] at e
    have ev : (V.ref a) = v := Option.some.inj e
    refine ⟨a, q, ?_, ev.symm, ha, hb⟩
    rw [List.getElem?_append_right (by rw [← h.len]; omega), ← h.len, e0]
    rfl
theorem keep_lst {K : PySem.W.Frag} {H : Hp} {l : Addr} {ys zs : List V} (hl : H l = some (.lst ys)) : ∀ a xs, SqT K H a xs → SqT K (upd H l (.lst zs)) a xs := fun a xs h => by
  rcases h with (h | ⟨o, h⟩) | h
  · exact .inl (.inl (by rw [upd_ne (ne_of h hl (by intro z; cases z))]; exact h))
  · exact .inl (.inr ⟨o, by rw [upd_ne (ne_of h hl (by intro z; cases z))]; exact h⟩)
  · exact .inr h
theorem sum_snoc {qs : List Rat} {i : Nat} {q : Rat} (h : qs[i]? = some q) : (qs.take (i + 1)).sum = (qs.take i).sum + q := by
  rw [List.take_add_one, h, List.sum_append]
  show _ + ([q] : List Rat).sum = _
  rw [List.sum_cons, List.sum_nil, Rat.add_zero]
def spLeft : Sp := fun vs H Q _ => ∃ c : Int, vs = [.int c] ∧ ∀ p n, H p = none → Q (.ref p) (upd H p (.lst [.int n]))
def spDigit : Sp := fun vs H Q _ => ∃ (l : Addr) (n m : Int), vs = [.ref l, .int m] ∧ H l = some (.lst [.int n]) ∧ 0 < m ∧ m.natAbs < 2 ^ 200 ∧ ∀ d n' : Int, 0 ≤ d → d < m → Q (.int d) (upd H l (.lst [.int n']))
theorem lt100 {i : Int} (h : i.natAbs ≤ 10 ^ 20) : i.natAbs < 2 ^ 100 := Nat.lt_of_le_of_lt h (by decide)
/-- a fraction as data -/
def dR (q : Rat) : PyData := .tuple [.int q.num, .int (q.den : Int)]
theorem dp_r {K : PySem.W.Frag} {H : Hp} {a : Addr} {q : Rat} (h : SqT K H a (rp q)) : Dp K H (.ref a) (dR q) := .tup h (.cons (.int _) (.cons (.int _) .nil))
theorem dR_lay (q : Rat) : (dR q).canLay0 = true := rfl
theorem dR_depth (q : Rat) : (dR q).depth = 1 := rfl
theorem dR_shaped (q : Rat) : SeqAt.shaped (dR q) = true := rfl
theorem FrL.dp {K : PySem.W.Frag} {H : Hp} : ∀ {refs : List V} {qs : List Rat}, FrL K H refs qs → DpAll K H refs (qs.map dR)
  | [], [], _ => .nil
  | [], _ :: _, h => by have := h.len; simp at this
  | _ :: _, [], h => by have := h.len; simp at this
  | v :: refs, q :: qs, h => by
    obtain ⟨a, q', e1, rfl, e3, _⟩ := h.at_ 0 v rfl
    have e : q = q' := Option.some.inj e1
    subst e
    refine .cons (dp_r e3) (FrL.dp ⟨by have := h.len; simpa using this, fun i v e => ?_⟩)
    exact h.at_ (i + 1) v e
theorem lays : ∀ qs : List Rat, PyData.canLayAll0 (qs.map dR) = true
  | [] => rfl
  | q :: qs => by
    show (PyData.canLay0 (dR q) && PyData.canLayAll0 (qs.map dR)) = true
    rw [lays qs]
    rfl
theorem deps : ∀ qs : List Rat, PyData.depthAll (qs.map dR) ≤ 1
  | [] => by decide
  | q :: qs => by
    have := deps qs
    show max (PyData.depth (dR q)) (PyData.depthAll (qs.map dR)) ≤ 1
    rw [dR_depth]
    omega
theorem list_lay (qs : List Rat) : (PyData.list (qs.map dR)).canLay0 = true := lays qs
theorem list_shaped (qs : List Rat) : SeqAt.shaped (.list (qs.map dR)) = true := by
  unfold SeqAt.shaped
  rw [list_lay, Bool.true_and]
  refine decide_eq_true ?_
  have := deps qs
  show PyData.depthAll (qs.map dR) + 1 ≤ 64
  omega
theorem FrL.rev {K : PySem.W.Frag} {H : Hp} {refs : List V} {qs : List Rat} (h : FrL K H refs qs) : FrL K H refs.reverse qs.reverse := by
  refine ⟨by rw [List.length_reverse, List.length_reverse, h.len], fun i v e => ?_⟩
  have hi : i < refs.length := by
    have := (List.getElem?_eq_some_iff.mp e).1
    rw [List.length_reverse] at this
    exact this
  rw [List.getElem?_reverse hi] at e
  obtain ⟨a, q, e1, e2, e3, e4⟩ := h.at_ _ v e
  refine ⟨a, q, ?_, e2, e3, e4⟩
  rw [List.getElem?_reverse (by rw [← h.len]; exact hi), ← h.len]
  exact e1
theorem cut_mem {xs : List V} {lo hi : Option Int} {x : V} (h : x ∈ cutV xs lo hi) : x ∈ xs := List.mem_of_mem_drop (List.mem_of_mem_take h)
theorem FrL.mem {K : PySem.W.Frag} {H : Hp} {refs : List V} {qs : List Rat} {v : V} (h : FrL K H refs qs) (hv : v ∈ refs) : ∃ (a : Addr) (q : Rat), v = .ref a ∧ SqT K H a (rp q) ∧ Bd 100 q := by
  obtain ⟨i, hi, e⟩ := List.getElem_of_mem hv
  obtain ⟨a, q, _, e2, e3, e4⟩ := h.at_ i v (by rw [List.getElem?_eq_getElem hi, e])
  exact ⟨a, q, e2, e3, e4⟩
theorem int_of {ns : List Int} {x : V} {lo hi : Option Int} {z : Int} {i : Nat} (h : (cutV (ns.map V.int) lo hi ++ [V.int z])[i]? = some x) : ∃ c : Int, x = .int c := by
  have hm := List.mem_of_getElem? h
  rcases List.mem_append.mp hm with hm | hm
  · obtain ⟨c, _, e⟩ := List.mem_map.mp (cut_mem hm)
    exact ⟨c, e.symm⟩
  · exact ⟨z, by simpa using hm⟩
/-- an error of the class at S is what «except S» names -/
theorem exm_self {K : PySem.W.Frag} {S : Addr} (h1 : PySem.W.subIn K (.ref S) (.type "BaseException") = some true) (h2 : PySem.W.isClsIn K S = true) (h3 : PySem.W.typeIn K (.ref S) = some (.type "type")) (h4 : PySem.W.subIn K (.ref S) (.ref S) = some true) :
    PySem.W.exmOne K (.ref S) (.ref S) = some true := by
  have e1 : (PySem.W.subIn K (.ref S) (.type "BaseException") == some true) = true := by rw [h1] <;> rfl
  have e2 : ((PySem.W.clsIn K S).isSome && PySem.W.typeIn K (.ref S) == some (.type "type")) = true := by
    have h2' : (PySem.W.clsIn K S).isSome = true := h2
    rw [h2', h3] <;> rfl
  show (if (PySem.W.subIn K (.ref S) (.type "BaseException") == some true) = true then (if ((PySem.W.clsIn K S).isSome && PySem.W.typeIn K (.ref S) == some (.type "type")) = true then PySem.W.subIn K (.ref S) (.ref S) else none) else none) = some true
  rw [if_pos e1, if_pos e2]
  exact h4
end Co

set_option Elab.async false
set_option linter.all false
set_option maxRecDepth 100000
set_option maxHeartbeats 4000000
namespace EXB
open PySem PySem.Spec PyProof.Rows L2
/-- what the written part says of an own error class over B -/
structure ExC (K : PySem.W.Frag) (C : Addr) (newId : String) (bmB : List Value) : Prop where
  cls : ∃ nm q N bs sn sub ab col dd k0 k1 k2 k3 k5, K.lookup C = some (excClassObj nm q C N bs bmB true sn sub ab col dd k0 k1 k2 k3 k5 newId)
  exC : PySem.W.subIn K (.ref C) (.type "BaseException") = some true
  tyC : PySem.W.typeIn K (.ref C) = some (.type "type")
  kC : PySem.W.keepIn K (.ref C) = true
section
variable {X : Cx} {pins : List (Addr × Obj)} {σ : L2.St} {H : Hp} {s : Shared} {a C : Addr} {A : Around} {E : Value → Shared → Prop} {B newId initId : String} {bmB : List Value}
/-- B.__init__(self, ..): nothing of it is told -/
theorem einit_ok {us : List Value} {Q : Value → Shared → Prop} (Fb : ExcBaseFacts B newId initId bmB) (T : ExC X.K C newId bmB) (I : Inv X pins σ H s) (e : H a = some (exo a C none)) (hl : us.length ≤ sizeLine) (h : ∀ s', Inv X pins σ H s' → Q .none s') :
    wpAny (model X.prog X.w) A (call (.builtin initId) (.ref a :: us)) Q E s := by
  obtain ⟨nm, q, N, bs, sn, sub, ab, col, dd, k0, k1, k2, k3, k5, hC⟩ := T.cls
  obtain ⟨t1, ho⟩ := exo_at I.hok e
  obtain ⟨hp, g, d, t, os⟩ := s
  refine wpAny_call (PySem.HandSPX.init_base Fb (fun Y => rfl) (I.kIn _ _ hC) ho hl fun h' t2 k hx => ?_)
  have J := I.write (t' := t) (x := a) (e := a) (o := exo a C none) (by rw [e]; exact True.intro) (.inl rfl) k ⟨_, hx⟩ (exo_ok hx)
  have eu : upd H a (exo a C none) = H := by
    funext b
    by_cases hb : b = a
    · rw [hb, upd_same, e]
    · rw [upd_ne hb]
  rw [eu] at J
  exact h _ J
end
def tExI (K : PySem.W.Frag) (newId : String) (bmB : List Value) (ta : TA) : TE := fun σ H Q => ta σ H fun vs H1 => ∃ (a C : Addr) (ws : List V), vs = .ref a :: ws ∧ ws.length ≤ 1000 ∧ ExC K C newId bmB ∧ H1 a = some (exo a C none) ∧ Q .non H1
section
variable {X : Cx} {e : Expr} {es : List Expr} {ta : TA} {p p1 p2 pos : Pos} {B newId initId : String} {bmB : List Value}
theorem typ_ZD : typeOf (.type "ZeroDivisionError") = pure (.type "type") := by kernel_rfl
theorem pe_zdinit {pl : Sem Bool} (hg : Gl X "ZeroDivisionError") (hm : X.mg "ZeroDivisionError" = none) (vV : PySem.W.findCls X.K (.type "ZeroDivisionError") (.type "type") "__init__" = some (.val (.builtin "ZeroDivisionError.__init__"))) (ha : PA X (e :: es) ta)
    (hc : eval (.Call (.Attribute (.Name "ZeroDivisionError" p1) "__init__" p2) (e :: es) [] pos) X.env = (do
      let ov ← eval (.Name "ZeroDivisionError" p1) X.env
      standAt p2.atName
      let (f, first) ← holding [ov] (getMethod ov "__init__" pl)
      callWith pos f first (backTo pos (starEach (e :: es) X.env)) (backToKw pos (keywordEach [] X.env))) := by rfl)
    (he : starEach (e :: es) X.env = (false, eval e X.env) :: starEach es X.env := by rfl) (hpl : (backTo pos (starEach es X.env)).any (·.1) = false := by rfl) :
    PE X (.Call (.Attribute (.Name "ZeroDivisionError" p1) "__init__" p2) (e :: es) [] pos) (tExI X.K "ZeroDivisionError.__new__" [.type "ZeroDivisionError", .type "ArithmeticError", .type "Exception", .type "BaseException", .type "object"] ta) := by
  refine ⟨fun pins s σ H Q I h => ?_⟩
  refine PySem.W.methodCall_KW (ld_blt I hg hm PyProof.Rows.Boot.«ZeroDivisionError» ?_ (by decide) (by decide)) hc
  obtain ⟨m, fr⟩ := I.fr
  refine PySem.W.method_type fr I.ok.mod.kin typ_ZD (by decide +kernel) vV (by decide +kernel) ?_
  show wpAny _ _ (callWith pos (Value.builtin "ZeroDivisionError.__init__") [] (backTo pos (starEach (e :: es) X.env)) []) _ _ _
  refine PyProof.Rows.callWith_method1 (thn (ha.run pos pins _ σ H _ (I.tok _) h) fun us s1 ⟨vs, H1, I1, r1, a, C, ws, ev, hl, T, ea, q⟩ => ?_) he hpl
  subst ev
  cases r1 with
  | @cons _ u0 _ ur ra rw' =>
    obtain rfl : u0 = Value.ref a := ra
    have hlen : ur.length ≤ sizeLine := by
      rw [← Paired.length rw', sizeLine_eq]
      omega
    exact einit_ok PySem.F.excBase_ZeroDivisionError T I1 ea hlen fun s' J => ⟨.non, H1, J, rfl, q⟩
/-- the end of C(..), no field: the exception is let go -/
theorem mk_endN {pins : List (Addr × Obj)} {σ : L2.St} {H1 H2 : Hp} {Q : XK} {hp hp2 h2 : Heap} {g1 g2 : Array GenState} {d1 d2 : Drawn} {t1 t2 : Nat} {os1 os2 : OsState} {a C : Addr} (T : Raises X (.ref C)) (I1 : Inv X pins σ H1 ⟨hp, g1, d1, t1, os1⟩)
    (ha : hp.objs.size ≤ a) (k : ∀ b o, hp.get? b = some o → hp2.get? b = some o) (un : Un (frs X.stack) [] (upd H1 a (exo a C none)) H2 hp2 h2) (hok : HOk X.prog X.w H2 h2) (ho : os2 = os1) (hb : AllBare g2)
    (ea : H2 a = some (exo a C none)) (q : Q (.ref C) none (del H2 a)) : MkP X pins σ Q (.ref a) ⟨h2, g2, d2, t2, os2⟩ := by
  obtain ⟨t0, hoe⟩ := exo_at hok ea
  have hn : H1 a = none := I1.hok.fresh ha
  obtain ⟨G, g1', g2'⟩ := restrict h2 fun b => decide (b ≠ a)
  have gk : ∀ b, b ≠ a → G.get? b = h2.get? b := fun b hb => g1' b (decide_eq_true hb)
  have ge : G.get? a = none := g2' a (by simp)
  have nha : ∀ {b : Addr} {o : Obj}, hp.get? b = some o → b ≠ a := fun {b o} z => Nat.ne_of_lt (Nat.lt_of_lt_of_le (Heap.lt_size z) ha)
  have up : ∀ {b : Addr}, b ≠ a → H1 b = none → upd H1 a (exo a C none) b = none := fun {b} hb n => by rw [upd_ne hb]; exact n
  have U : Un (frs X.stack) [] H1 (del H2 a) hp G := {
    keep := fun b o z n hf hx => by
      rw [gk b (nha z)]
      exact un.keep b o (k b o z) (up (nha z) n) hf hx
    slot := fun b o z n hf hx => by
      rw [gk b (nha z)]
      exact un.slot b o (k b o z) (up (nha z) n) hf hx
    free := fun b o z n hx => by
      rw [del_ne (nha z)]
      exact un.free b o (k b o z) (up (nha z) n) hx
    there := fun b o z hx => by
      rw [gk b (nha z)]
      exact un.there b o (k b o z) hx
    tups := fun b xs z => by
      rw [del_ne (ne_of_none z hn)]
      exact un.tups b xs (by rw [upd_ne (ne_of_none z hn)]; exact z)
    frzs := fun b o v z => by
      rw [del_ne (ne_of_none z hn)]
      exact un.frzs b o v (by rw [upd_ne (ne_of_none z hn)]; exact z)
    tbls := fun b ps z => by
      rw [del_ne (ne_of_none z hn)]
      exact un.tbls b ps (by rw [upd_ne (ne_of_none z hn)]; exact z) }
  have hok3 : HOk X.prog X.w (del H2 a) G := fun b o z => by
    have hba : b ≠ a := fun e => by
      rw [e, del_same] at z
      cases z
    rw [del_ne hba] at z
    have noa : ∀ {c : Addr}, H2 c = some (.own b) → c ≠ a := fun {c} hc => at_ne ea hc exo_own
    exact (hok b o z).stay (fun c v hc y => by
        have hca : c ≠ a := by
          rcases hc with hc | hc
          · rw [hc]
            exact hba
          · exact noa hc
        rw [gk c hca]
        exact y)
      (fun c hc => by rw [del_ne (noa hc)]; exact hc) (fun c xs hc => by rw [del_ne (at_ne ea hc exo_tup)]; exact hc)
  have J : Inv X pins σ (del H2 a) ⟨G, g2, d2, t2, os2⟩ := I1.call' (ch := []) ho U hok3 hb (fun b z => absurd z (by simp))
  refine ⟨a, _, _, ⟨G, g2, d2, t2, os2⟩, _, .ref C, none, rfl, J, fun b o z => ?_, ge, hoe, ⟨rfl, rfl⟩, rfl, rfl, del_same, rfl, hb, T, q⟩
  by_cases hba : b = a
  · have z' : G.get? b = some o := z
    rw [hba, ge] at z'
    cases z'
  · exact (gk b hba).symm.trans z
/-- the promise of an __init__ that makes no field -/
def spEi (C : Addr) : Sp := fun vs H Q _ => ∃ a, vs = [.ref a] ∧ H a = some (exo a C none) ∧ Q .non H
/-- C(), C's __init__ making no field -/
theorem pmk_exN {x : Str} {C fI : Addr} {k : Nat} {fd : FuncData} {ps : List Str} (Fb : ExcBaseFacts B newId initId bmB) (T : ExC X.K C newId bmB) (iC : PySem.W.findIn X.K (.ref C) "__init__" = some (some (.ref fI))) (tI : PySem.W.typeIn X.K (.ref fI) = some (.type "function"))
    (F1 : FnOk X.prog X.w X.K X.mg X.base CX0 k fI fd ps (spEi C)) (hr : Room (k + 1) X.A) (hb : Binds X.K fd ps []) (hg : Gl X x) (hm : X.mg x = some (.ref C))
    (hdb : (x == ("__debug__" : Str)) = false := by decide) :
    PMk X (.Call (.Name x p) [] [] pos) (fun _ H Q => Q (.ref C) none H) := by
  intro pins s σ H Q I h
  obtain ⟨nm, q, N, bs, sn, sub, ab, col, dd, k0, k1, k2, k3, k5, hC⟩ := T.cls
  refine wpAny_Call_Name_kw (ld_glob I hg hm ?_ hdb)
  refine PySem.W.callWith_K0 I.kIn T.kC ?_
  show wpAny _ _ (call (.ref C) []) _ _ _
  obtain ⟨hp, g, dr, tk, os⟩ := s
  have hsz : hp.objs.size ≤ hp.objs.size + 1 := Nat.le_succ _
  have hn : H (hp.objs.size + 1) = none := I.hok.fresh hsz
  have kk : ∀ b o, hp.get? b = some o → ((hp.push (PySem.W.kdv_tup [])).push (PySem.HandSPX.excO C hp.objs.size)).get? b = some o := fun b o e => Heap.get?_push_of_some _ (Heap.get?_push_of_some _ e)
  have hget : ((hp.push (PySem.W.kdv_tup [])).push (PySem.HandSPX.excO C hp.objs.size)).get? (hp.objs.size + 1) = some (PySem.HandSPX.excO C hp.objs.size) := by heap_get
  have I2 : Inv X pins σ (upd H (hp.objs.size + 1) (exo (hp.objs.size + 1) C none)) ⟨(hp.push (PySem.W.kdv_tup [])).push (PySem.HandSPX.excO C hp.objs.size), g, dr, tk, os⟩ :=
    I.laid (t' := tk) (a := hp.objs.size + 1) (o := exo (hp.objs.size + 1) C none) (h' := (hp.push (PySem.W.kdv_tup [])).push (PySem.HandSPX.excO C hp.objs.size)) kk hsz (exo_ok hget)
  have r2 : Vals [V.ref (hp.objs.size + 1)] [Value.ref (hp.objs.size + 1)] := .cons rfl .nil
  have hq : spEi C [V.ref (hp.objs.size + 1)] (upd H (hp.objs.size + 1) (exo (hp.objs.size + 1) C none)) (fun v H2 => v = .non ∧ H2 = upd H (hp.objs.size + 1) (exo (hp.objs.size + 1) C none)) (fun _ _ _ => False) :=
    ⟨_, rfl, upd_same, rfl, rfl⟩
  have hl : ([Value.ref (hp.objs.size + 1)] ++ []).length = ps.length := by
    have e := r2.length
    rw [F1.len _ _ _ _ hq] at e
    exact e.symm
  refine wpAny_call (PySem.HandSPX.call_own Fb (fun Y => rfl) (I.kIn _ _ hC) (PySem.W.looks_findIn I.kIn iC) (fun self => PySem.W.bind_fn I.kIn self tI) (Nat.zero_le _)
    (codeAny_mono (F1.run _ X.stack _ _ ⟨[Value.ref (hp.objs.size + 1)], []⟩ [Value.ref (hp.objs.size + 1)] _ _ (fun _ _ _ => False) (hr.make C [] []) (I2.env0.make C [] []) (hb _ [Value.ref (hp.objs.size + 1)] I2.kIn hl) r2 hq) fun r s' hq' => ?_))
  cases r with
  | error er => exact False.elim hq'
  | ok fl =>
    cases fl with
    | ret u =>
      obtain ⟨v, H2, os2, bare2, un2, hok2, rv, ev, eH⟩ := hq'
      subst ev
      subst eH
      obtain ⟨h2, g2, d2, t2, os'⟩ := s'
      refine ⟨rv, mk_endN (raises_own T.exC T.tyC) I hsz kk un2 hok2 os2 bare2 upd_same ?_⟩
      have eD : del (upd H (hp.objs.size + 1) (exo (hp.objs.size + 1) C none)) (hp.objs.size + 1) = H := by
        funext b
        by_cases hb : b = hp.objs.size + 1
        · rw [hb, del_same]
          exact hn.symm
        · rw [del_ne hb, upd_ne hb]
      rw [eD]
      exact h
    | next => exact False.elim hq'
    | brk => exact False.elim hq'
    | cont => exact False.elim hq'
end
/-! ### an own error over ValueError with one field -/
/-- the promise of an __init__ that makes the field f -/
def spE1 (C : Addr) (f : Str) : Sp := fun vs H Q _ => ∃ a v, vs = [.ref a, v] ∧ H a = some (exo a C none) ∧ ∀ dx, H dx = none → dx ≠ a → Q .non (upd (upd H dx (exd dx [(f, v)])) a (exo a C (some dx)))
/-- the same of two fields -/
def spE2 (C : Addr) (f g : Str) : Sp := fun vs H Q _ => ∃ a v u, vs = [.ref a, v, u] ∧ H a = some (exo a C none) ∧ ∀ dx, H dx = none → dx ≠ a → Q .non (upd (upd H dx (exd dx [(g, u), (f, v)])) a (exo a C (some dx)))
theorem heap_out {H : Hp} {a dx C : Addr} {fs : List (Str × V)} (ha : H a = none) (hd : dx ≠ a) : upd (del (upd (upd (upd H a (exo a C none)) dx (exd dx fs)) a (exo a C (some dx))) a) dx (.xd fs) = upd H dx (.xd fs) := by
  funext b
  by_cases h1 : b = dx
  · rw [h1, upd_same, upd_same]
  · rw [upd_ne h1, upd_ne h1]
    by_cases h2 : b = a
    · rw [h2, del_same, ha]
    · rw [del_ne h2, upd_ne h2, upd_ne h1, upd_ne h2]
theorem mk1 {C : Addr} {f : Str} {H : Hp} {v : V} {Q : XK} (h : ∀ dx, H dx = none → Q (.ref C) (some dx) (upd H dx (.xd [(f, v)]))) :
    [v].length ≤ 1000 ∧ ∀ a, H a = none → spE1 C f (.ref a :: ([v] ++ [])) (upd H a (exo a C none)) (fun v H2 => v = .non ∧ ∃ (d : Addr) (fs : List (Str × V)), H2 a = some (exo a C (some d)) ∧ H2 d = some (exd d fs) ∧ H d = none ∧ Q (.ref C) (some d) (upd (del H2 a) d (.xd fs))) (fun _ _ _ => False) := by
  refine ⟨by show 1 ≤ 1000; decide, fun a ha => ⟨a, v, rfl, upd_same, fun dx hdx hne => ?_⟩⟩
  have h0 : H dx = none := by rw [upd_ne hne] at hdx; exact hdx
  refine ⟨rfl, dx, [(f, v)], upd_same, by rw [upd_ne hne, upd_same], h0, ?_⟩
  rw [heap_out ha hne]
  exact h dx h0
theorem mk2 {C : Addr} {f g : Str} {H : Hp} {v u : V} {Q : XK} (h : ∀ dx, H dx = none → Q (.ref C) (some dx) (upd H dx (.xd [(g, u), (f, v)]))) :
    [v, u].length ≤ 1000 ∧ ∀ a, H a = none → spE2 C f g (.ref a :: ([v, u] ++ [])) (upd H a (exo a C none)) (fun v H2 => v = .non ∧ ∃ (d : Addr) (fs : List (Str × V)), H2 a = some (exo a C (some d)) ∧ H2 d = some (exd d fs) ∧ H d = none ∧ Q (.ref C) (some d) (upd (del H2 a) d (.xd fs))) (fun _ _ _ => False) := by
  refine ⟨by show 2 ≤ 1000; decide, fun a ha => ⟨a, v, u, rfl, upd_same, fun dx hdx hne => ?_⟩⟩
  have h0 : H dx = none := by rw [upd_ne hne] at hdx; exact hdx
  refine ⟨rfl, dx, [(g, u), (f, v)], upd_same, by rw [upd_ne hne, upd_same], h0, ?_⟩
  rw [heap_out ha hne]
  exact h dx h0
end EXB

set_option Elab.async false
set_option linter.all false
set_option maxRecDepth 100000
set_option maxHeartbeats 4000000
namespace BX
open PySem PySem.Spec PyProof.Rows L2
section
variable {X : Cx} {CX : CXT} {k : Nat} {f : Addr} {fd : FuncData} {ps ks : List Str} {sp : Sp} {E : L2.St → XK} {x : Str} {p pos : Pos} {e : Expr} {es : List Expr} {kws : List Keyword} {t tk : TA} {ds : List Value} {dvs : List V}
/-- a call with any arguments, what it raises being wished for at the caller's slots -/
theorem run_any {pins : List (Addr × Obj)} {σ : L2.St} {H : Hp} {s : Shared} {Q : VK} {us bs : List Value} {kw : List (Str × Value)} {vs : List V} (F : FnOkG X.prog X.w X.K X.mg X.base CX k f fd ps sp) (hr : Room k X.A) (hgd : X.A.guards = some []) (hx : PassesAt CX X σ (E σ))
    (I : Inv X pins σ H s) (hb : BindsTo s fd ⟨us, kw⟩ (ps.zip bs)) (r : Vals vs bs) (h : sp vs H Q (E σ)) : wpAny (model X.prog X.w) X.A (call (.ref f) us kw) (EP X pins σ Q) X.xe s := by
  refine wpAny_call (codeAny_mono (F.run X.A X.stack s H ⟨us, kw⟩ bs vs Q (E σ) hr hgd I.env0 hb r h) fun r s' hq => ?_)
  cases r with
  | error e => exact hx pins H s e s' I hq
  | ok fl =>
    cases fl with
    | ret u => exact I.after hq
    | next => exact False.elim hq
    | brk => exact False.elim hq
    | cont => exact False.elim hq
def tCallD (sp : Sp) (dvs : List V) (E : L2.St → XK) (t : TA) : TE := fun σ H Q => t σ H fun vs H1 => sp (vs ++ dvs) H1 Q (E σ)
/-- f(e, ..), the defaults behind them -/
theorem pe_callD (F : FnOkG X.prog X.w X.K X.mg X.base CX k f fd ps sp) (hr : Room k X.A) (hgd : X.A.guards = some []) (hg : Gl X x) (hm : X.mg x = some (.ref f)) (hk : PySem.W.keepIn X.K (.ref f) = true) (hb : Binds X.K fd ps ds) (hd : Vals dvs ds) (hx : ∀ σ, PassesAt CX X σ (E σ))
    (ha : PA X (e :: es) t) (hdb : (x == ("__debug__" : Str)) = false := by decide) (he : starEach (e :: es) X.env = (false, eval e X.env) :: starEach es X.env := by rfl) (hpl : (backTo pos (starEach es X.env)).any (·.1) = false := by rfl) :
    PE X (.Call (.Name x p) (e :: es) [] pos) (tCallD sp dvs E t) := by
  refine ⟨fun pins s σ H Q I h => ?_⟩
  refine wpAny_Call_Name_kw (ld_glob I hg hm ?_ hdb)
  refine PySem.W.callWith_K (h₀ := X.base) I.ok.mod.kin hk (thn (ha.run pos pins s σ H _ I h) fun us s1 ⟨vs, H1, I1, r, q⟩ => ⟨I1.kIn, ?_⟩) he hpl
  have r2 : Vals (vs ++ dvs) (us ++ ds) := r.append hd
  exact run_any F hr hgd (hx σ) I1 (hb s1 us I1.kIn (by rw [← r2.length]; exact F.len _ _ _ _ q)) r2 q
def tCallW (sp : Sp) (E : L2.St → XK) (tk : TA) : TE := fun σ H Q => tk σ H fun zs H1 => sp zs H1 Q (E σ)
/-- f(k = v, ..), all parameters by their names, in their order -/
theorem pe_callW (F : FnOkG X.prog X.w X.K X.mg X.base CX k f fd ps sp) (hr : Room k X.A) (hgd : X.A.guards = some []) (hg : Gl X x) (hm : X.mg x = some (.ref f)) (hk : PySem.W.keepIn X.K (.ref f) = true)
    (hb : ∀ (s : Shared) (ws : List Value), X.K.In s.heap → ws.length = ps.length → BindsTo s fd ⟨[], ps.zip ws⟩ (ps.zip ws)) (hx : ∀ σ, PassesAt CX X σ (E σ))
    (hkw : PK X kws tk) (hall : (backToKw pos (keywordEach kws X.env)).all (·.1.isSome) = true := by rfl) (hks : (backToKw pos (keywordEach kws X.env)).filterMap (·.1) = ps := by rfl)
    (hdb : (x == ("__debug__" : Str)) = false := by decide) (hpl : ((backTo pos (starEach [] X.env)).any (·.1) || (backToKw pos (keywordEach kws X.env)).any (·.1.isNone)) = false := by rfl) :
    PE X (.Call (.Name x p) [] kws pos) (tCallW sp E tk) := by
  refine ⟨fun pins s σ H Q I h => ?_⟩
  refine wpAny_Call_Name_kw (ld_glob I hg hm ?_ hdb)
  refine PySem.W.callWith_KW0 (h₀ := X.base) I.ok.mod.kin hk hall (thn (hkw.run pos pins s σ H _ I h) fun ws s2 ⟨zs, H2, I2, rz, q2⟩ => ⟨I2.kIn, ?_⟩) hpl
  rw [hks]
  exact run_any F hr hgd (hx σ) I2 (hb s2 ws I2.kIn (by rw [← rz.length]; exact F.len _ _ _ _ q2)) rz q2
end
end BX

set_option Elab.async false
set_option linter.all false
set_option maxRecDepth 100000
set_option maxHeartbeats 4000000
namespace BX
open PySem PySem.Spec PyProof.Rows L2
/-- the law's call, of a promise that holds where nothing is being shown -/
theorem law_callG {P : Program} {w : World} {K : PySem.W.Frag} {mg mb : Str → Option Value} {CX : CXT} {k : Nat} {fa a : Addr} {fd : FuncData} {x : Str} {sp : Sp} {s₁ : Shared} {vs : List Value} {ns : List Int}
    (KX : K.In s₁.heap) (hns : s₁.heap.Ns mainGlobals mg) (hb : s₁.heap.Ns builtinsNs mb) (hbb : ∀ x : Str, x ≠ "__name__" → mb x = bootBuiltins x) (hlim : s₁.heap.NoLimit) (hg : s₁.gens = #[])
    (ha : s₁.heap.get? a = some { cls := .type "list", data := .seq vs.toArray }) (hi : IntsAre vs ns) (hl : ns.length ≤ sizeLine) (hr : Room k callerA)
    (F : ∀ base : Heap, K.In base → base.Ns mainGlobals mg → FnOkG P w K mg base CX k fa fd [x] sp) (hbind : ∀ (s : Shared) (u : Value), BindsTo s fd ⟨[u], []⟩ [(x, u)])
    (hsp : ∀ H : Hp, Only H → SqL K H a (ns.map V.int) → sp [.ref a] H (fun v _ => v = .bl true) fun _ _ _ => False)
    (hCX : ∀ H e s', CX [] H s₁ (fun _ _ _ => False) e s' → False) :
    codeAny (model P w) callerA (.call (.ref fa) ⟨[.ref a], []⟩) (fun r s' => r = .ok (.ret (.bool true)) ∧ OldK s₁.heap s'.heap ∧ s'.os = s₁.os ∧ AllBare s'.gens) s₁ := by
  have rv := vals_ints hi
  have lenV := hi.length
  have core : ∀ H : Hp, Only H → SqL K H a (ns.map V.int) → HOk P w H s₁.heap → (∀ b, H b ≠ none → b = a) → (H a ≠ none → K.lookup a = none) →
      codeAny (model P w) callerA (.call (.ref fa) ⟨[.ref a], []⟩) (fun r s' => r = .ok (.ret (.bool true)) ∧ OldK s₁.heap s'.heap ∧ s'.os = s₁.os ∧ AllBare s'.gens) s₁ := by
    intro H hO hS hok hA hK
    have noA : ∀ {b : Addr} {o : Obj} {es : Array DictEntry} {ep : Nat}, s₁.heap.get? b = some o → o.data = .dict es ep → H b = none := fun {b o es ep} e dd => by
      cases q : H b with
      | none => rfl
      | some u =>
        have e' : b = a := hA b (by rw [q]; simp)
        rw [e', ha] at e
        cases e
        cases dd
    have nsK : ∀ {b : Addr} {m : Str → Option Value}, s₁.heap.Ns b m → (hidT s₁.heap H).Ns b m := fun {b m} ⟨o, es, ep, e, dd, r⟩ => ⟨o, es, ep, hidT_get e (noA e dd), dd, r⟩
    have hKb : K.In (hidT s₁.heap H) := fun b o e => hidT_get (KX b o e) (by
      cases q : H b with
      | none => rfl
      | some u =>
        have e' : b = a := hA b (by rw [q]; simp)
        rw [e'] at e q
        rw [hK (by rw [q]; simp)] at e
        cases e)
    have hM : Mod K mg (hidT s₁.heap H) := ⟨hKb, nsK hns, ⟨mb, nsK hb, hbb⟩, let ⟨mc, h1, h2⟩ := hlim; ⟨mc, nsK h1, h2⟩⟩
    have e0 : Env0 P w K mg (hidT s₁.heap H) callerA [] s₁ H := ⟨rfl, hM, fun b o e => of_hidT e, Nat.le_of_eq (hidT_size _ _), trivial, fun b hb => absurd (show b ∈ ([] : List Addr) from hb) (by simp), hok, .of_eq hg⟩
    refine codeAny_mono ((F _ hKb (nsK hns)).run callerA [] s₁ H ⟨[.ref a], []⟩ [.ref a] [.ref a] _ _ hr rfl e0 (hbind s₁ (.ref a)) (.cons rfl .nil) (hsp H hO hS)) fun r s' h => ?_
    cases r with
    | error e => exact (hCX H e s' h).elim
    | ok fl =>
      cases fl with
      | next => exact False.elim h
      | brk => exact False.elim h
      | cont => exact False.elim h
      | ret u =>
        obtain ⟨v, H', os, bare, un, hok', r', q⟩ := h
        have q' : v = .bl true := q
        subst q'
        obtain rfl : u = Value.bool true := r'
        refine ⟨rfl, OldK.of_keep fun b o e => ?_, os, bare⟩
        cases q : H b with
        | none => exact un.keep b o e q (by intro z; exact absurd (show b ∈ ([] : List Addr) from z) (by simp)) (by simp)
        | some u =>
          rcases hO b with z | ⟨ob, xs, z⟩
          · rw [q] at z; cases z
          · obtain ⟨e1, _⟩ := hok b _ z
            obtain ⟨e2, _⟩ := hok' b _ (un.frzs b ob _ z)
            rw [e] at e1; cases e1
            exact e2
  cases hk : K.lookup a with
  | some o =>
    have e := KX a o hk
    rw [ha] at e
    cases e
    refine core (fun _ => none) (fun _ => .inl rfl) (.inr ⟨_, vs.toArray, _, hk, rfl, rfl, rfl, by rw [List.size_toArray, lenV]; exact hl, by simpa using rv⟩) (fun b u z => by have z' : (none : Option HO) = some u := z; cases z') (fun b z => absurd rfl z) fun z => absurd rfl z
  | none =>
    refine core (fun b => if b = a then some (.frz { cls := .type "list", data := .seq vs.toArray } (.lst (ns.map V.int))) else none) (fun b => ?_) (.inl (.inr ⟨{ cls := .type "list", data := .seq vs.toArray }, if_pos rfl⟩)) (fun b u z => ?_) (fun b z => ?_) fun _ => hk
    · by_cases hb : b = a
      · exact .inr ⟨_, _, if_pos hb⟩
      · exact .inl (if_neg hb)
    · by_cases hb : b = a
      · have z' := (if_pos hb).symm.trans z
        cases z'
        subst hb
        exact ⟨ha, by rw [List.length_map]; exact hl, vs, _, rv, ha⟩
      · have z' := (if_neg hb).symm.trans z
        cases z'
    · by_cases hb : b = a
      · exact hb
      · exact absurd (if_neg hb) z
theorem walk_ofG {l : PySem.W.OpenLaw} {n k : Nat} {q : Program} {loose : List Str} {XP : (Str → Option Value) → Heap → Prop} {YP : World → Heap → Prop} {d : DefRec} {K : Params → PySem.W.Frag} {CX : World → CXT} {sp : World → Sp} {x : Str}
    (hn : l.most = some n) (hn2 : n ≤ sizeLine) (hdf : d.params.defaults = []) (hr : Room k callerA) (hY : ∀ (w : World) (h : Heap), YP w h → (K w.params).In h)
    (F : ∀ (w : World) (mg : Str → Option Value) (fa : Addr) (h : Heap), (K w.params).In h → h.Ns mainGlobals mg → mg d.name = some (.ref fa) →
      ∃ fd : FuncData, (∀ (s : Shared) (u : Value), BindsTo s fd ⟨[u], []⟩ [(x, u)]) ∧
        ∀ base : Heap, (K w.params).In base → base.Ns mainGlobals mg → FnOkG l.prog w (K w.params) mg base (CX w) k fa fd [x] (sp w))
    (hsp : ∀ (w : World) (H : Hp) (a : Addr) (ns : List Int), ns.length ≤ n → Only H → SqL (K w.params) H a (ns.map V.int) → sp w [.ref a] H (fun v _ => v = .bl true) fun _ _ _ => False)
    (hCX : ∀ (w : World) (H : Hp) (s : Shared) (e : Value) (s' : Shared), CX w [] H s (fun _ _ _ => False) e s' → False) :
    PySem.W.WalkO q loose XP YP l.row.toRowW d [] (fun f vs => PySem.call f vs) := by
  refine Att.attach_call hn hdf fun w s₀ s₁ mg mb fa o pm cd doc a vs ns G Y ho hd hcd hmg hobj hints hlen hg => ?_
  have KX := hY w _ Y
  obtain ⟨fd, hb, hF⟩ := F w mg fa _ KX G.T.g hmg
  exact law_callG KX G.T.g G.T.b G.T.builtins G.T.nolimit hg hobj hints (Nat.le_trans hlen hn2) hr hF hb (fun H hO hS => hsp w H a ns hlen hO hS) fun H e s' => hCX w H s₁ e s'
end BX

set_option Elab.async false
set_option linter.all false
set_option maxRecDepth 100000
set_option maxHeartbeats 4000000
namespace BX
open PySem PySem.Spec PyProof.Rows L2
def tMakeD (C : Addr) (sp : Sp) (dvs : List V) (E : L2.St → XK) (t : TA) : TE := fun σ H Q => t σ H fun vs H1 => ∀ x dx, H1 x = none → H1 dx = none → dx ≠ x → sp (.ref x :: (vs ++ dvs)) (upd (upd H1 dx (.own x)) x (.ins C dx [])) (fun v H2 => v = .non ∧ Q (.ref x) H2) (E σ)
section
variable {X : Cx} {CX : CXT} {k : Nat} {f C : Addr} {fd : FuncData} {ps : List Str} {sp : Sp} {E : L2.St → XK} {x : Str} {p pos : Pos} {e : Expr} {es : List Expr} {t : TA} {ds : List Value} {dvs : List V}
/-- C(e, ..), what its __init__ raises being wished for at the caller's slots -/
theorem pe_makeD (M : Mk X.K C f) (F : FnOk X.prog X.w X.K X.mg X.base CX k f fd ps sp) (hr : Room (k + 1) X.A) (hg : Gl X x) (hm : X.mg x = some (.ref C)) (hb : Binds X.K fd ps ds) (hd : Vals dvs ds) (hx : ∀ σ, PassesAt CX X σ (E σ))
    (ha : PA X (e :: es) t) (hdb : (x == ("__debug__" : Str)) = false := by decide) (he : starEach (e :: es) X.env = (false, eval e X.env) :: starEach es X.env := by rfl) (hpl : (backTo pos (starEach es X.env)).any (·.1) = false := by rfl) :
    PE X (.Call (.Name x p) (e :: es) [] pos) (tMakeD C sp dvs E t) := by
  refine ⟨fun pins s σ H Q I h => ?_⟩
  refine wpAny_Call_Name_kw (ld_glob I hg hm ?_ hdb)
  refine PySem.W.callWith_K (h₀ := X.base) I.ok.mod.kin M.kp (thn (ha.run pos pins s σ H _ I h) fun us s1 ⟨vs, H1, I1, r, q⟩ => ⟨I1.kIn, ?_⟩) he hpl
  have hq := q (s1.heap.objs.size + 1) s1.heap.objs.size (I1.hok.fresh (Nat.le_succ _)) (I1.hok.fresh (Nat.le_refl _)) (Nat.ne_of_lt (Nat.lt_succ_self _))
  have I2 := Inv.made (C := C) I1
  have r2 : Vals (V.ref (s1.heap.objs.size + 1) :: (vs ++ dvs)) (Value.ref (s1.heap.objs.size + 1) :: (us ++ ds)) := .cons rfl (r.append hd)
  have hl : (Value.ref (s1.heap.objs.size + 1) :: us ++ ds).length = ps.length := by
    have z := r2.length
    rw [F.len _ _ _ _ hq] at z
    exact z.symm
  refine wpAny_call (make_map (f := f) I1.kIn M.makes M.init (beq_iff_eq.mp M.fn) (codeAny_mono (F.run _ X.stack _ _ ⟨Value.ref (s1.heap.objs.size + 1) :: us, []⟩ (Value.ref (s1.heap.objs.size + 1) :: (us ++ ds)) _ _ (E σ) (hr.make C us [])
    (I2.env0.make C us []) (hb _ (Value.ref (s1.heap.objs.size + 1) :: us) I2.kIn hl) r2 hq) fun r s' hq' => ?_))
  cases r with
  | error er => exact hx σ pins _ _ er s' I2 hq'
  | ok fl =>
    cases fl with
    | ret u =>
      obtain ⟨v, H', I3, rv, ev, q3⟩ := I2.after hq'
      subst ev
      exact ⟨rv, ⟨V.ref (s1.heap.objs.size + 1), H', I3, rfl, q3⟩⟩
    | next => exact False.elim hq'
    | brk => exact False.elim hq'
    | cont => exact False.elim hq'
end
end BX

set_option Elab.async false
set_option linter.all false
set_option maxRecDepth 100000
set_option maxHeartbeats 4000000
namespace Ru
open PySem PySem.Spec PyProof.Rows L2 BX EXB Co
open Fr (Bd)
/-! ### rows of fractions -/
/-- cells and what they are worth, below 2 ^ n -/
structure FrN (K : PySem.W.Frag) (H : Hp) (n : Nat) (cs : List V) (qs : List Rat) : Prop where
  len : cs.length = qs.length
  at_ : ∀ (i : Nat) (v : V), cs[i]? = some v → ∃ (a : Addr) (q : Rat), qs[i]? = some q ∧ v = .ref a ∧ SqT K H a (rp q) ∧ Bd n q
section
variable {K : PySem.W.Frag} {H H' : Hp} {n : Nat} {cs : List V} {qs : List Rat}
theorem FrN.keep (h : FrN K H n cs qs) (k : ∀ a xs, SqT K H a xs → SqT K H' a xs) : FrN K H' n cs qs :=
  ⟨h.len, fun i v e => let ⟨a, q, e1, e2, e3, e4⟩ := h.at_ i v e; ⟨a, q, e1, e2, k _ _ e3, e4⟩⟩
theorem FrN.same (h : FrN K H n cs qs) (e : Same H H') : FrN K H' n cs qs := h.keep fun _ _ => seqT e
theorem FrN.mono {m : Nat} (h : FrN K H n cs qs) (l : n ≤ m) : FrN K H m cs qs :=
  ⟨h.len, fun i v e => let ⟨a, q, e1, e2, e3, e4⟩ := h.at_ i v e; ⟨a, q, e1, e2, e3, e4.mono l⟩⟩
theorem FrN.nil : FrN K H n [] [] := ⟨rfl, fun i v e => by simp at e⟩
theorem FrN.snoc {a : Addr} {q : Rat} (h : FrN K H n cs qs) (ha : SqT K H a (rp q)) (hb : Bd n q) : FrN K H n (cs ++ [.ref a]) (qs ++ [q]) := by
  refine ⟨by rw [List.length_append, List.length_append, h.len]; rfl, fun i v e => ?_⟩
  by_cases hi : i < cs.length
  · rw [List.getElem?_append_left hi] at e
    obtain ⟨a', q', e1, e2, e3, e4⟩ := h.at_ i v e
    exact ⟨a', q', by rw [List.getElem?_append_left (by rw [← h.len]; exact hi)]; exact e1, e2, e3, e4⟩
  · rw [List.getElem?_append_right (by omega)] at e
    have e0 : i - cs.length = 0 := by
      cases z : i - cs.length with
      | zero => rfl
      | succ j => rw [z] at e; simp at e
    rw [e0] at e
    have ev : (V.ref a) = v := Option.some.inj e
    refine ⟨a, q, ?_, ev.symm, ha, hb⟩
    rw [List.getElem?_append_right (by rw [← h.len]; omega), ← h.len, e0]
    rfl
theorem FrN.set {a : Addr} {q : Rat} {j : Nat} (h : FrN K H n cs qs) (ha : SqT K H a (rp q)) (hb : Bd n q) : FrN K H n (cs.set j (.ref a)) (qs.set j q) := by
  refine ⟨by rw [List.length_set, List.length_set, h.len], fun i v e => ?_⟩
  by_cases hij : j = i
  · subst hij
    have hj : j < cs.length := by
      have := (List.getElem?_eq_some_iff.mp e).1
      rw [List.length_set] at this
      exact this
    rw [List.getElem?_set_self hj] at e
    exact ⟨a, q, List.getElem?_set_self (by rw [← h.len]; exact hj), (Option.some.inj e).symm, ha, hb⟩
  · rw [List.getElem?_set_ne hij] at e
    obtain ⟨a', q', e1, e2, e3, e4⟩ := h.at_ i v e
    exact ⟨a', q', by rw [List.getElem?_set_ne hij]; exact e1, e2, e3, e4⟩
theorem FrN.dp : ∀ {cs : List V} {qs : List Rat}, FrN K H n cs qs → DpAll K H cs (qs.map dR)
  | [], [], _ => .nil
  | [], _ :: _, h => by have := h.len; simp at this
  | _ :: _, [], h => by have := h.len; simp at this
  | v :: cs, q :: qs, h => by
    obtain ⟨a, q', e1, rfl, e3, _⟩ := h.at_ 0 v rfl
    have e : q = q' := Option.some.inj e1
    subst e
    exact .cons (dp_r e3) (FrN.dp ⟨by have := h.len; simpa using this, fun i v e => h.at_ (i + 1) v e⟩)
end
/-- all but ex stays -/
def SameB (ex : Addr) (H H' : Hp) : Prop := ∀ b o, b ≠ ex → H b = some o → H' b = some o
theorem SameB.of {ex : Addr} {H H' : Hp} (h : Same H H') : SameB ex H H' := fun b o _ e => h b o e
theorem SameB.trans {ex : Addr} {H H1 H2 : Hp} (a : SameB ex H H1) (b : SameB ex H1 H2) : SameB ex H H2 := fun c o hc h => b c o hc (a c o hc h)
theorem SameB.upd {ex : Addr} {H : Hp} {o : HO} : SameB ex H (upd H ex o) := fun b u hb e => by rw [upd_ne hb]; exact e
theorem SameB.tup {K : PySem.W.Frag} {ex : Addr} {H H' : Hp} {ys : List V} (h : SameB ex H H') (hx : H ex = some (.lst ys)) : ∀ a xs, SqT K H a xs → SqT K H' a xs := fun a xs z => by
  rcases z with (z | ⟨o, z⟩) | z
  · exact .inl (.inl (h _ _ (ne_of z hx (by intro w; cases w)) z))
  · exact .inl (.inr ⟨o, h _ _ (ne_of z hx (by intro w; cases w)) z⟩)
  · exact .inr z
/-- what stands in the rows rs is worth rss -/
def RowsAt (K : PySem.W.Frag) (H : Hp) (n : Nat) (rs : List Addr) (rss : List (List Rat)) : Prop := rs.length = rss.length ∧ ∀ (j : Nat) (r : Addr), rs[j]? = some r → ∃ cs qs, rss[j]? = some qs ∧ H r = some (.lst cs) ∧ FrN K H n cs qs
theorem RowsAt.keep {K : PySem.W.Frag} {H H' : Hp} {n : Nat} {rs : List Addr} {rss : List (List Rat)} {ex : Addr} {ys : List V} (h : RowsAt K H n rs rss) (s : SameB ex H H') (hx : H ex = some (.lst ys)) (hn : ex ∉ rs) : RowsAt K H' n rs rss := by
  refine ⟨h.1, fun j r e => ?_⟩
  obtain ⟨cs, qs, e1, e2, e3⟩ := h.2 j r e
  exact ⟨cs, qs, e1, s r _ (fun z => hn (by rw [← z]; exact List.mem_of_getElem? e)) e2, e3.keep (s.tup hx)⟩
theorem RowsAt.same {K : PySem.W.Frag} {H H' : Hp} {n : Nat} {rs : List Addr} {rss : List (List Rat)} (h : RowsAt K H n rs rss) (s : Same H H') : RowsAt K H' n rs rss := by
  refine ⟨h.1, fun j r e => ?_⟩
  obtain ⟨cs, qs, e1, e2, e3⟩ := h.2 j r e
  exact ⟨cs, qs, e1, s r _ e2, e3.same s⟩
theorem RowsAt.nil {K : PySem.W.Frag} {H : Hp} {n : Nat} : RowsAt K H n [] [] := ⟨rfl, fun j r e => by simp at e⟩
theorem RowsAt.snoc {K : PySem.W.Frag} {H : Hp} {n : Nat} {rs : List Addr} {rss : List (List Rat)} {r : Addr} {cs : List V} {qs : List Rat} (h : RowsAt K H n rs rss) (hr : H r = some (.lst cs)) (hf : FrN K H n cs qs) : RowsAt K H n (rs ++ [r]) (rss ++ [qs]) := by
  refine ⟨by rw [List.length_append, List.length_append, h.1]; rfl, fun j x e => ?_⟩
  by_cases hj : j < rs.length
  · rw [List.getElem?_append_left hj] at e
    obtain ⟨cs', qs', e1, e2, e3⟩ := h.2 j x e
    exact ⟨cs', qs', by rw [List.getElem?_append_left (by rw [← h.1]; exact hj)]; exact e1, e2, e3⟩
  · rw [List.getElem?_append_right (by omega)] at e
    have e0 : j - rs.length = 0 := by
      cases z : j - rs.length with
      | zero => rfl
      | succ i => rw [z] at e; simp at e
    rw [e0] at e
    have ev : r = x := Option.some.inj e
    subst ev
    refine ⟨cs, qs, ?_, hr, hf⟩
    rw [List.getElem?_append_right (by rw [← h.1]; omega), ← h.1, e0]
    rfl
theorem RowsAt.dp {K : PySem.W.Frag} {H : Hp} {n : Nat} : ∀ {rs : List Addr} {rss : List (List Rat)}, RowsAt K H n rs rss → DpAll K H (rs.map V.ref) (rss.map fun qs => PyData.list (qs.map dR))
  | [], [], _ => .nil
  | [], _ :: _, h => by have := h.1; simp at this
  | _ :: _, [], h => by have := h.1; simp at this
  | r :: rs, q :: rss, h => by
    obtain ⟨cs, qs, e1, e2, e3⟩ := h.2 0 r rfl
    have e : q = qs := Option.some.inj e1
    subst e
    exact .cons (.lst (SqL.of e2) e3.dp) (RowsAt.dp ⟨by have := h.1; simpa using this, fun j x e => h.2 (j + 1) x e⟩)
/-- rows as data -/
def dRows (rss : List (List Rat)) : PyData := .list (rss.map fun qs => PyData.list (qs.map dR))
theorem rows_lays : ∀ rss : List (List Rat), PyData.canLayAll0 (rss.map fun qs => PyData.list (qs.map dR)) = true
  | [] => rfl
  | q :: rss => by
    show (PyData.canLayAll0 (q.map dR) && PyData.canLayAll0 (rss.map fun qs => PyData.list (qs.map dR))) = true
    rw [rows_lays rss, lays q]
    rfl
theorem rows_deps : ∀ rss : List (List Rat), PyData.depthAll (rss.map fun qs => PyData.list (qs.map dR)) ≤ 2
  | [] => by decide
  | q :: rss => by
    have h1 := rows_deps rss
    have h2 := deps q
    show max (PyData.depthAll (q.map dR) + 1) (PyData.depthAll (rss.map fun qs => PyData.list (qs.map dR))) ≤ 2
    omega
theorem dRows_lay (rss : List (List Rat)) : (dRows rss).canLay0 = true := rows_lays rss
theorem dRows_shaped (rss : List (List Rat)) : SeqAt.shaped (dRows rss) = true := by
  unfold SeqAt.shaped
  rw [dRows_lay, Bool.true_and]
  refine decide_eq_true ?_
  have := rows_deps rss
  show PyData.depthAll (rss.map fun qs => PyData.list (qs.map dR)) + 1 ≤ 64
  omega
/-- a new list of new rows, beside what stood in H0 (but ex) -/
structure New (K : PySem.W.Frag) (H0 H : Hp) (ex D : Addr) (rs : List Addr) (rss : List (List Rat)) (n : Nat) : Prop where
  at_ : H D = some (.lst (rs.map V.ref))
  nd : rs.Nodup
  ne : D ∉ rs
  fresh : ∀ x ∈ rs, H0 x = none
  fD : H0 D = none
  nx : ex ∉ rs
  keep : SameB ex H0 H
  rows : RowsAt K H n rs rss
theorem New.start {K : PySem.W.Frag} {H : Hp} {ex D : Addr} {n : Nat} (hD : H D = none) : New K H (upd H D (.lst [])) ex D [] [] n :=
  ⟨upd_same, List.nodup_nil, by simp, fun x hx => by simp at hx, hD, by simp, SameB.of (same_new hD _), RowsAt.nil⟩
/-- a step beside the list: what is new is laid, ex may change -/
theorem New.step {K : PySem.W.Frag} {H0 H H1 : Hp} {ex D : Addr} {rs : List Addr} {rss : List (List Rat)} {n : Nat} {ys : List V} (h : New K H0 H ex D rs rss n) (s : SameB ex H H1) (hx : H ex = some (.lst ys)) (hDx : D ≠ ex) : New K H0 H1 ex D rs rss n :=
  ⟨s D _ hDx h.at_, h.nd, h.ne, h.fresh, h.fD, h.nx, h.keep.trans s, h.rows.keep s hx h.nx⟩
theorem New.stepS {K : PySem.W.Frag} {H0 H H1 : Hp} {ex D : Addr} {rs : List Addr} {rss : List (List Rat)} {n : Nat} (h : New K H0 H ex D rs rss n) (s : Same H H1) : New K H0 H1 ex D rs rss n :=
  ⟨s D _ h.at_, h.nd, h.ne, h.fresh, h.fD, h.nx, h.keep.trans (SameB.of s), h.rows.same s⟩
/-- one row more -/
theorem New.push {K : PySem.W.Frag} {H0 H H1 : Hp} {ex D l : Addr} {rs : List Addr} {rss : List (List Rat)} {n : Nat} {cs : List V} {qs : List Rat} (h0 : New K H0 H ex D rs rss n) (h : New K H0 H1 ex D rs rss n) (hl0 : H l = none) (hl : H1 l = some (.lst cs)) (hf : FrN K H1 n cs qs) (hle : l ≠ ex) :
    New K H0 (upd H1 D (.lst (rs.map V.ref ++ [V.ref l]))) ex D (rs ++ [l]) (rss ++ [qs]) n := by
  have hlD : l ≠ D := fun e => by
    rw [e, h0.at_] at hl0
    cases hl0
  have hlr : l ∉ rs := fun hm => by
    obtain ⟨j, hj, e⟩ := List.getElem_of_mem hm
    obtain ⟨cs', qs', _, e2, _⟩ := h0.rows.2 j l (by rw [List.getElem?_eq_getElem hj, e])
    rw [hl0] at e2
    cases e2
  have hl00 : H0 l = none := by
    cases e : H0 l with
    | none => rfl
    | some o =>
      rw [h0.keep l o hle e] at hl0
      cases hl0
  have sD : SameB D H1 (upd H1 D (.lst (rs.map V.ref ++ [V.ref l]))) := SameB.upd
  refine ⟨by rw [upd_same, List.map_append]; rfl, ?_, ?_, ?_, h.fD, ?_, ?_, ?_⟩
  · rw [List.nodup_append]
    refine ⟨h.nd, by simp, fun a ha b hb => ?_⟩
    have : b = l := by simpa using hb
    rw [this]
    exact fun e => hlr (by rw [← e]; exact ha)
  · intro hm
    rcases List.mem_append.mp hm with hm | hm
    · exact h.ne hm
    · have : D = l := by simpa using hm
      exact hlD this.symm
  · intro x hx
    rcases List.mem_append.mp hx with hx | hx
    · exact h.fresh x hx
    · have : x = l := by simpa using hx
      rw [this]
      exact hl00
  · intro hm
    rcases List.mem_append.mp hm with hm | hm
    · exact h.nx hm
    · have : ex = l := by simpa using hm
      exact hle this.symm
  · intro b o hb e
    rw [upd_ne (ne_of_none e h.fD)]
    exact h.keep b o hb e
  · exact (h.rows.keep sD h.at_ h.ne).snoc (by rw [upd_ne hlD]; exact hl) (hf.keep (sD.tup h.at_))
/-- list(x), by values -/
def rListOf (K : PySem.W.Frag) : List V → Hp → VK → Prop := fun xs H Q => ∃ p ys, xs = [V.ref p] ∧ (SqL K H p ys ∨ SqT K H p ys) ∧ ∀ l : Addr, H l = none → Q (V.ref l) (upd H l (.lst ys))
/-! ### rules -/
def RowOk (m : Nat) (qs : List Rat) : Prop := qs.length = m ∧ (∀ q ∈ qs, 0 ≤ q) ∧ qs.sum = 1
structure Good (rss : List (List Rat)) (m : Nat) : Prop where
  w1 : 1 ≤ rss.length
  w5 : rss.length ≤ 5
  m1 : 1 ≤ m
  m30 : m ≤ 30
  row : ∀ qs ∈ rss, RowOk m qs
/-- a list of rows that stands -/
def RwL (K : PySem.W.Frag) (H : Hp) (a : Addr) (rs : List Addr) (rss : List (List Rat)) (n : Nat) : Prop := H a = some (.lst (rs.map V.ref)) ∧ RowsAt K H n rs rss
theorem RwL.same {K : PySem.W.Frag} {H H' : Hp} {a : Addr} {rs : List Addr} {rss : List (List Rat)} {n : Nat} (h : RwL K H a rs rss n) (s : Same H H') : RwL K H' a rs rss n := ⟨s _ _ h.1, h.2.same s⟩
theorem RwL.dp {K : PySem.W.Frag} {H : Hp} {a : Addr} {rs : List Addr} {rss : List (List Rat)} {n : Nat} (h : RwL K H a rs rss n) : Dp K H (.ref a) (dRows rss) := .lst (SqL.of h.1) h.2.dp
theorem New.rwl {K : PySem.W.Frag} {H0 H : Hp} {ex D : Addr} {rs : List Addr} {rss : List (List Rat)} {n : Nat} (h : New K H0 H ex D rs rss n) : RwL K H D rs rss n := ⟨h.at_, h.rows⟩
/-- a new list of new rows -/
def Fresh (K : PySem.W.Frag) (H H' : Hp) (D : Addr) (rs : List Addr) (rss : List (List Rat)) (n : Nat) : Prop := RwL K H' D rs rss n ∧ rs.Nodup ∧ D ∉ rs ∧ H D = none ∧ (∀ x ∈ rs, H x = none) ∧ Same H H'
/-- an instance of the class at C, of these rows -/
def IsRule (K : PySem.W.Frag) (H : Hp) (C x : Addr) (rss : List (List Rat)) (n : Nat) : Prop := ∃ dx ra rs, H x = some (.ins C dx [("own_rows", .ref ra)]) ∧ RwL K H ra rs rss n
theorem IsRule.same {K : PySem.W.Frag} {H H' : Hp} {C x : Addr} {rss : List (List Rat)} {n : Nat} (h : IsRule K H C x rss n) (s : Same H H') : IsRule K H' C x rss n :=
  let ⟨dx, ra, rs, e1, e2⟩ := h; ⟨dx, ra, rs, s _ _ e1, e2.same s⟩
theorem New.toFresh {K : PySem.W.Frag} {H0 H : Hp} {D : Addr} {rs : List Addr} {rss : List (List Rat)} {n : Nat} (h : New K H0 H D D rs rss n) : Fresh K H0 H D rs rss n :=
  ⟨h.rwl, h.nd, h.ne, h.fD, h.fresh, fun b o e => h.keep b o (ne_of_none e h.fD) e⟩
/-! ### the mathematics of rules -/
theorem sum_nonneg' : ∀ {qs : List Rat}, (∀ q ∈ qs, 0 ≤ q) → 0 ≤ qs.sum
  | [], _ => by rw [List.sum_nil]; exact Rat.le_refl
  | q :: qs, h => by
    rw [List.sum_cons]
    exact Rat.add_nonneg (h q (List.mem_cons_self ..)) (sum_nonneg' fun x hx => h x (List.mem_cons_of_mem _ hx))
/-- shares of two rows side by side -/
def rowB (row second : List Rat) : List Rat := row.flatMap fun s => second.map fun o => s * o
theorem sum_map_mul (s : Rat) : ∀ l : List Rat, (l.map fun o => s * o).sum = s * l.sum
  | [] => by rw [List.map_nil, List.sum_nil, Rat.mul_zero]
  | x :: l => by rw [List.map_cons, List.sum_cons, List.sum_cons, sum_map_mul s l, Rat.mul_add]
theorem rowB_sum : ∀ (row second : List Rat), (rowB row second).sum = row.sum * second.sum
  | [], second => by show ([] : List Rat).sum = _; rw [List.sum_nil, Rat.zero_mul]
  | s :: row, second => by
    show ((second.map fun o => s * o) ++ rowB row second).sum = _
    rw [List.sum_append, sum_map_mul, rowB_sum row second, List.sum_cons, Rat.add_mul]
theorem rowB_len : ∀ (row second : List Rat), (rowB row second).length = row.length * second.length
  | [], second => by show 0 = _; rw [List.length_nil, Nat.zero_mul]
  | s :: row, second => by
    show ((second.map fun o => s * o) ++ rowB row second).length = _
    rw [List.length_append, List.length_map, rowB_len row second, List.length_cons, Nat.succ_mul, Nat.add_comm]
theorem rowB_ok {m k : Nat} {row second : List Rat} (h1 : RowOk m row) (h2 : RowOk k second) : RowOk (m * k) (rowB row second) := by
  refine ⟨by rw [rowB_len, h1.1, h2.1], fun q hq => ?_, by rw [rowB_sum, h1.2.2, h2.2.2, Rat.mul_one]⟩
  obtain ⟨s, hs, hq⟩ := List.mem_flatMap.mp hq
  obtain ⟨o, ho, rfl⟩ := List.mem_map.mp hq
  exact Rat.mul_nonneg (h1.2.1 s hs) (h2.2.1 o ho)
/-- words of one group are one -/
def grp : List Rat → List Nat → List Rat → List Rat
  | s :: row, g :: gs, told => grp row gs (told.set g (told.getD g 0 + s))
  | _, _, told => told
theorem grp_len : ∀ (row : List Rat) (gs : List Nat) (told : List Rat), (grp row gs told).length = told.length
  | [], _, _ => by rw [grp] <;> simp
  | _ :: _, [], _ => by rw [grp] <;> simp
  | s :: row, g :: gs, told => by rw [grp, grp_len row gs, List.length_set]
theorem set_sum : ∀ (l : List Rat) (g : Nat) (s : Rat), g < l.length → (l.set g (l.getD g 0 + s)).sum = l.sum + s
  | [], g, s, h => by simp at h
  | x :: l, 0, s, h => by
    show ((x + s) :: l).sum = _
    rw [List.sum_cons, List.sum_cons, Rat.add_assoc, Rat.add_assoc, Rat.add_comm s]
  | x :: l, g + 1, s, h => by
    show (x :: l.set g (l.getD g 0 + s)).sum = _
    rw [List.sum_cons, List.sum_cons, set_sum l g s (by simpa using h), Rat.add_assoc]
theorem grp_sum : ∀ (row : List Rat) (gs : List Nat) (told : List Rat), row.length = gs.length → (∀ g ∈ gs, g < told.length) → (grp row gs told).sum = told.sum + row.sum
  | [], [], told, _, _ => by show told.sum = _; rw [List.sum_nil, Rat.add_zero]
  | [], _ :: _, _, h, _ => by simp at h
  | _ :: _, [], _, h, _ => by simp at h
  | s :: row, g :: gs, told, h, hg => by
    rw [grp, grp_sum row gs _ (by simpa using h) (fun x hx => by rw [List.length_set]; exact hg x (List.mem_cons_of_mem _ hx)), set_sum told g s (hg g (List.mem_cons_self ..)), List.sum_cons, Rat.add_assoc]
theorem grp_nonneg : ∀ (row : List Rat) (gs : List Nat) (told : List Rat), (∀ q ∈ row, 0 ≤ q) → (∀ q ∈ told, 0 ≤ q) → ∀ q ∈ grp row gs told, 0 ≤ q
  | [], _, _, _, ht => by rw [grp]; exact ht; simp
  | _ :: _, [], _, _, ht => by rw [grp]; exact ht; simp
  | s :: row, g :: gs, told, hr, ht => by
    rw [grp]
    refine grp_nonneg row gs _ (fun q hq => hr q (List.mem_cons_of_mem _ hq)) fun q hq => ?_
    have hx : 0 ≤ told.getD g 0 := by
      by_cases h : g < told.length
      · rw [List.getD_eq_getElem?_getD, List.getElem?_eq_getElem h]
        exact ht _ (List.getElem_mem h)
      · rw [List.getD_eq_getElem?_getD, List.getElem?_eq_none (by omega)]
        exact Rat.le_refl
    rcases List.mem_or_eq_of_mem_set hq with hq | rfl
    · exact ht q hq
    · exact Rat.add_nonneg hx (hr s (List.mem_cons_self ..))
theorem grp_ok {m many : Nat} {row : List Rat} {gs : List Nat} (h : RowOk m row) (hl : gs.length = m) (hg : ∀ g ∈ gs, g < many) : RowOk many (grp row gs (List.replicate many 0)) := by
  have z : ∀ k : Nat, (List.replicate k (0 : Rat)).sum = 0 := fun k => by
    induction k with
    | zero => rfl
    | succ k ih => rw [List.replicate_succ, List.sum_cons, ih, Rat.add_zero]
  refine ⟨by rw [grp_len, List.length_replicate], grp_nonneg row gs _ h.2.1 fun q hq => ?_, ?_⟩
  · rw [List.eq_of_mem_replicate hq]
    exact Rat.le_refl
  · rw [grp_sum row gs _ (by rw [h.1, hl]) (fun g hgm => by rw [List.length_replicate]; exact hg g hgm), z, Rat.zero_add]
    exact h.2.2
/-- the row of the world i among w -/
def unit (w i : Nat) : List Rat := (List.range w).map fun j => if j = i then 1 else 0
theorem unit_sum : ∀ (w i : Nat), (unit w i).sum = if i < w then 1 else 0
  | 0, i => rfl
  | w + 1, i => by
    unfold unit
    rw [List.range_succ, List.map_append, List.sum_append]
    have ih := unit_sum w i
    unfold unit at ih
    rw [ih]
    show _ + ([if w = i then (1 : Rat) else 0]).sum = _
    rw [List.sum_cons, List.sum_nil, Rat.add_zero]
    by_cases h1 : i < w
    · rw [if_pos h1, if_neg (by omega), if_pos (by omega), Rat.add_zero]
    · by_cases h2 : w = i
      · rw [if_neg h1, if_pos h2, if_pos (by omega), Rat.zero_add]
      · rw [if_neg h1, if_neg h2, if_neg (by omega), Rat.zero_add]
theorem unit_ok {w i : Nat} (h : i < w) : RowOk w (unit w i) := by
  refine ⟨by unfold unit; rw [List.length_map, List.length_range], fun q hq => ?_, by rw [unit_sum, if_pos h]⟩
  obtain ⟨j, _, rfl⟩ := List.mem_map.mp hq
  split
  · decide
  · exact Rat.le_refl
end Ru

set_option Elab.async false
set_option linter.all false
set_option maxRecDepth 100000
set_option maxHeartbeats 4000000
namespace Rs
open PySem PySem.Spec PyProof.Rows L2 BX EXB Co Ru
open Fr (Bd)
theorem upd_swap {H : Hp} {a dx : Addr} {A B A' : HO} (h : dx ≠ a) : upd (upd (upd H dx A) a B) dx A' = upd (upd H dx A') a B := by
  funext b
  by_cases h1 : b = dx
  · rw [h1, upd_same, upd_ne h, upd_same]
  · rw [upd_ne h1]
    by_cases h2 : b = a
    · rw [h2, upd_same, upd_same]
    · rw [upd_ne h2, upd_ne h2, upd_ne h1, upd_ne h1]
abbrev Rsp := Option (List V)
def Rv (H : Hp) (v : V) : Rsp → Prop
  | none => v = .non
  | some ws => ∃ p, v = .ref p ∧ H p = some (.lst ws)
def Ret (Q : VK) (H : Hp) (r : Rsp) : Prop := ∀ v H', Same H H' → Rv H' v r → Q v H'
theorem Rv.same {H H' : Hp} {v : V} {r : Rsp} (h : Rv H v r) (s : Same H H') : Rv H' v r := by
  cases r with
  | none => exact h
  | some ws => obtain ⟨p, e1, e2⟩ := h; exact ⟨p, e1, s _ _ e2⟩
theorem tYes_of {σ : L2.St} {H : Hp} {A B : Hp → Prop} (h : A H) : tYes σ H (fun b H3 => if b = true then A H3 else B H3) := by
  show (if true = true then A H else B H)
  rw [if_pos rfl]
  exact h
def dV : V → PyData
  | .str s => .str s
  | .int i => .int i
  | .bl b => .bool b
  | _ => .none
def datR : Rsp → PyData
  | none => .none
  | some ws => .list (ws.map dV)
def Flat (v : V) : Prop := ((∃ s, v = .str s) ∨ (∃ i, v = .int i) ∨ (∃ b, v = .bl b) ∨ v = .non) ∧ (dV v).canLay0 = true
def Okr : Rsp → Prop
  | none => True
  | some ws => ∀ v ∈ ws, Flat v
theorem flat_dp {K : PySem.W.Frag} {H : Hp} {v : V} (h : Flat v) : Dp K H v (dV v) := by
  rcases h.1 with ⟨s, rfl⟩ | ⟨i, rfl⟩ | ⟨b, rfl⟩ | rfl
  · exact .str _
  · exact .int _
  · exact .bl _
  · exact .non
theorem flats_dp {K : PySem.W.Frag} {H : Hp} : ∀ ws : List V, (∀ v ∈ ws, Flat v) → DpAll K H ws (ws.map dV)
  | [], _ => .nil
  | v :: ws, h => .cons (flat_dp (h v (List.mem_cons_self ..))) (flats_dp ws fun x hx => h x (List.mem_cons_of_mem _ hx))
theorem flats_lay : ∀ ws : List V, (∀ v ∈ ws, Flat v) → PyData.canLayAll0 (ws.map dV) = true
  | [], _ => rfl
  | v :: ws, h => by
    show (PyData.canLay0 (dV v) && PyData.canLayAll0 (ws.map dV)) = true
    rw [(h v (List.mem_cons_self ..)).2, flats_lay ws fun x hx => h x (List.mem_cons_of_mem _ hx)]
    rfl
theorem flats_dep : ∀ ws : List V, PyData.depthAll (ws.map dV) ≤ 1
  | [] => by decide
  | v :: ws => by
    have h := flats_dep ws
    show max (PyData.depth (dV v)) (PyData.depthAll (ws.map dV)) ≤ 1
    have : PyData.depth (dV v) = 0 := by cases v <;> rfl
    omega
theorem Rv.dp {K : PySem.W.Frag} {H : Hp} {v : V} {r : Rsp} (ok : Okr r) (h : Rv H v r) : Dp K H v (datR r) := by
  cases r with
  | none => cases (show v = .non from h); exact .non
  | some ws =>
    obtain ⟨p, rfl, hp⟩ := h
    exact .lst (SqL.of hp) (flats_dp ws ok)
theorem datR_lay {r : Rsp} (ok : Okr r) : (datR r).canLay0 = true := by
  cases r with
  | none => rfl
  | some ws => exact flats_lay ws ok
theorem datR_sh {r : Rsp} (ok : Okr r) : SeqAt.shaped (datR r) = true := by
  unfold SeqAt.shaped
  rw [datR_lay ok, Bool.true_and]
  refine decide_eq_true ?_
  cases r with
  | none => decide
  | some ws =>
    have := flats_dep ws
    show PyData.depthAll (ws.map dV) + 1 ≤ 64
    omega
theorem fl_str {s : Str} (h : (PyData.str s).canLay0 = true) : Flat (.str s) := ⟨.inl ⟨s, rfl⟩, h⟩
theorem fl_int (i : Int) : Flat (.int i) := ⟨.inr (.inl ⟨i, rfl⟩), rfl⟩
theorem fl_bl (b : Bool) : Flat (.bl b) := ⟨.inr (.inr (.inl ⟨b, rfl⟩)), rfl⟩
theorem fl_non : Flat .non := ⟨.inr (.inr (.inr rfl)), rfl⟩
theorem okr3 {a b c : V} (ha : Flat a) (hb : Flat b) (hc : Flat c) : Okr (some [a, b, c]) := by
  intro v hv
  rcases List.mem_cons.mp hv with rfl | hv
  · exact ha
  rcases List.mem_cons.mp hv with rfl | hv
  · exact hb
  rw [List.mem_singleton.mp hv]
  exact hc
theorem cut_len {xs : List V} {n : Nat} {lo hi : Option Int} (h : xs.length ≤ n) : (cutV xs lo hi).length ≤ n := Nat.le_trans (cutV_length xs lo hi) h
/-- the law's shares: of m words, small -/
def spShares (K : PySem.W.Frag) : Sp := fun vs H Q _ => ∃ (l : Addr) (z : Int) (m : Nat), vs = [.ref l, .int (m : Int)] ∧ H l = some (.lst [.int z]) ∧ 1 ≤ m ∧ m ≤ 30 ∧
  ∀ D cs qs z' H', SameB l H H' → H' l = some (.lst [.int z']) → H D = none → D ≠ l → H' D = some (.lst cs) → FrN K H' 8 cs qs → RowOk m qs → Q (.ref D) H'
def spRowsL (K : PySem.W.Frag) : Sp := fun vs H Q _ => ∃ (l : Addr) (z : Int) (ww up : Nat), vs = [.ref l, .int (ww : Int), .int (up : Int)] ∧ H l = some (.lst [.int z]) ∧ 1 ≤ ww ∧ ww ≤ 5 ∧ 1 ≤ up ∧ up ≤ 30 ∧
  ∀ D rs rss m z' H', New K H H' l D rs rss 8 → D ≠ l → H' l = some (.lst [.int z']) → Good rss m → rss.length = ww → m ≤ up → Q (.ref D) H'
/-- xs[i] by values, i from 0 on -/
def rGet0 (K : PySem.W.Frag) : V → V → Hp → VK → Prop := fun o i H Q => ∃ (p : Addr) (xs : List V) (j : Nat) (v : V), o = .ref p ∧ i = .int (j : Int) ∧ SqL K H p xs ∧ xs[j]? = some v ∧ Q v H
theorem pget_list {X : Cx} : PGet X (rGet0 X.K) := by
  intro pins s σ H o i ov iv Q I ro ri h
  obtain ⟨p, xs, j, z, rfl, rfl, hq, he, q⟩ := h
  cases ro
  obtain ⟨t, rfl⟩ := ri
  obtain ⟨its, r, pl, hz⟩ := I.list hq
  obtain ⟨w, ew, rw'⟩ := r.get he
  have hj : j < xs.length := (List.getElem?_eq_some_iff.mp he).1
  have hn := line63
  exact wpAny_getItem_list pl.isList (by omega) (by omega) (by rw [Int.toNat_natCast]; simpa using ew) ⟨z, H, I, rw', q⟩
def shq (ns : List Int) : List Rat := ns.map fun x => Rat.divInt x ns.sum
theorem sum_divInt (S : Int) : ∀ ns : List Int, (ns.map fun x => Rat.divInt x S).sum = Rat.divInt ns.sum S
  | [] => by rw [List.map_nil, List.sum_nil, List.sum_nil, Rat.zero_divInt]
  | x :: ns => by
    rw [List.map_cons, List.sum_cons, List.sum_cons, sum_divInt S ns]
    by_cases h : S = 0
    · subst h
      rw [Rat.divInt_zero, Rat.divInt_zero, Rat.divInt_zero, Rat.add_zero]
    · rw [Rat.divInt_add_divInt _ _ h h, ← Int.add_mul, Rat.divInt_mul_right h]
theorem divInt_nn {x S : Int} (hx : 0 ≤ x) (hS : 0 < S) : 0 ≤ Rat.divInt x S := by
  rw [← Rat.num_nonneg, ← Fr.low_num hS]
  exact Int.fdiv_nonneg hx (by omega)
theorem divInt_one {S : Int} (hS : 0 < S) : Rat.divInt S S = 1 := by
  have h := Rat.divInt_mul_right (n := 1) (d := 1) (a := S) (by omega)
  rw [Int.one_mul] at h
  rw [h]
  rfl
theorem shq_ok {ns : List Int} {m : Nat} (hl : ns.length = m) (h0 : ∀ x ∈ ns, 0 ≤ x) (hS : 0 < ns.sum) : RowOk m (shq ns) := by
  refine ⟨by unfold shq; rw [List.length_map, hl], fun q hq => ?_, ?_⟩
  · obtain ⟨x, hx, rfl⟩ := List.mem_map.mp hq
    exact divInt_nn (h0 x hx) hS
  · unfold shq
    rw [sum_divInt, divInt_one hS]
theorem sum_le : ∀ (ns : List Int) (b : Int), (∀ x ∈ ns, x ≤ b) → ns.sum ≤ b * ns.length
  | [], b, _ => by simp
  | x :: ns, b, h => by
    have h1 := sum_le ns b fun y hy => h y (List.mem_cons_of_mem _ hy)
    have h2 := h x (List.mem_cons_self ..)
    rw [List.sum_cons, List.length_cons, Int.natCast_succ, Int.mul_add]
    omega
theorem sum_nn : ∀ (ns : List Int), (∀ x ∈ ns, 0 ≤ x) → 0 ≤ ns.sum
  | [], _ => by simp
  | x :: ns, h => by
    have h1 := sum_nn ns fun y hy => h y (List.mem_cons_of_mem _ hy)
    have h2 := h x (List.mem_cons_self ..)
    rw [List.sum_cons]
    omega
theorem set_sumI : ∀ (l : List Int) (g : Nat) (x : Int), l[g]? = some x → (l.set g (x + 1)).sum = l.sum + 1
  | [], g, x, h => by simp at h
  | y :: l, 0, x, h => by
    have e : y = x := Option.some.inj h
    subst e
    show ((y + 1) :: l).sum = _
    rw [List.sum_cons, List.sum_cons]
    omega
  | y :: l, g + 1, x, h => by
    show (y :: l.set g (x + 1)).sum = _
    rw [List.sum_cons, List.sum_cons, set_sumI l g x h]
    omega
theorem tab_at {d : Int} (h0 : 0 ≤ d) (h6 : d < 6) : ∃ v : Int, atI [V.int 0, V.int 1, V.int 1, V.int 2, V.int 3, V.int 5] d = some (V.int v) ∧ 0 ≤ v ∧ v ≤ 5 := by
  have : d = 0 ∨ d = 1 ∨ d = 2 ∨ d = 3 ∨ d = 4 ∨ d = 5 := by omega
  rcases this with rfl | rfl | rfl | rfl | rfl | rfl
  · exact ⟨_, atI_nat (j := 0) rfl, by decide, by decide⟩
  · exact ⟨_, atI_nat (j := 1) rfl, by decide, by decide⟩
  · exact ⟨_, atI_nat (j := 2) rfl, by decide, by decide⟩
  · exact ⟨_, atI_nat (j := 3) rfl, by decide, by decide⟩
  · exact ⟨_, atI_nat (j := 4) rfl, by decide, by decide⟩
  · exact ⟨_, atI_nat (j := 5) rfl, by decide, by decide⟩
theorem ne_num {K : PySem.W.Frag} {H : Hp} {l : Addr} {z : Int} {a : Addr} {rs : List Addr} {rss : List (List Rat)} {n : Nat} (hl : H l = some (.lst [.int z])) (h : RwL K H a rs rss n) : a ≠ l := fun e => by
  have := h.1
  rw [e, hl] at this
  cases rs with
  | nil => cases this
  | cons r rs => cases this
theorem nr_num {K : PySem.W.Frag} {H : Hp} {l : Addr} {z : Int} {rs : List Addr} {rss : List (List Rat)} {n : Nat} (hl : H l = some (.lst [.int z])) (h : RowsAt K H n rs rss) : l ∉ rs := fun hm => by
  obtain ⟨j, hj, e⟩ := List.getElem_of_mem hm
  obtain ⟨cs, qs, e1, e2, e3⟩ := h.2 j l (by rw [List.getElem?_eq_getElem hj, e])
  rw [hl] at e2
  cases e2
  obtain ⟨a, q, _, e, _⟩ := e3.at_ 0 _ rfl
  cases e
theorem RwL.keepB {K : PySem.W.Frag} {H H' : Hp} {l : Addr} {z : Int} {a : Addr} {rs : List Addr} {rss : List (List Rat)} {n : Nat} (h : RwL K H a rs rss n) (hl : H l = some (.lst [.int z])) (s : SameB l H H') : RwL K H' a rs rss n :=
  ⟨s _ _ (ne_num hl h) h.1, h.2.keep s hl (nr_num hl h.2)⟩
theorem IsRule.keepB {K : PySem.W.Frag} {H H' : Hp} {C x l : Addr} {z : Int} {rss : List (List Rat)} {n : Nat} (h : IsRule K H C x rss n) (hl : H l = some (.lst [.int z])) (s : SameB l H H') : IsRule K H' C x rss n := by
  obtain ⟨dx, ra, rs, e1, e2⟩ := h
  exact ⟨dx, ra, rs, s _ _ (ne_of e1 hl (by intro w; cases w)) e1, RwL.keepB e2 hl s⟩
theorem New.pre {K : PySem.W.Frag} {H00 H0 H : Hp} {ex D : Addr} {rs : List Addr} {rss : List (List Rat)} {n : Nat} (h : New K H0 H ex D rs rss n) (s : SameB ex H00 H0) (hD : D ≠ ex) : New K H00 H ex D rs rss n := by
  refine ⟨h.at_, h.nd, h.ne, fun x hx => ?_, ?_, h.nx, s.trans h.keep, h.rows⟩
  · cases e : H00 x with
    | none => rfl
    | some o =>
      have := s x o (fun z => h.nx (by rw [← z]; exact hx)) e
      rw [h.fresh x hx] at this
      cases this
  · cases e : H00 D with
    | none => rfl
    | some o =>
      have := s D o hD e
      rw [h.fD] at this
      cases this
theorem RwL.ins {K : PySem.W.Frag} {H : Hp} {a x C dx : Addr} {fs gs : List (Str × V)} {rs : List Addr} {rss : List (List Rat)} {n : Nat} (h : RwL K H a rs rss n) (hx : H x = some (.ins C dx fs)) : RwL K (upd H x (.ins C dx gs)) a rs rss n := by
  have st : ∀ b xs, SqT K H b xs → SqT K (upd H x (.ins C dx gs)) b xs := fun b xs z => by
    rcases z with (z | ⟨o, z⟩) | z
    · exact .inl (.inl (by rw [upd_ne (ne_of z hx (by intro w; cases w))]; exact z))
    · exact .inl (.inr ⟨o, by rw [upd_ne (ne_of z hx (by intro w; cases w))]; exact z⟩)
    · exact .inr z
  refine ⟨by rw [upd_ne (ne_of h.1 hx (by intro w; cases w))]; exact h.1, h.2.1, fun j r e => ?_⟩
  obtain ⟨cs, qs, e1, e2, e3⟩ := h.2.2 j r e
  exact ⟨cs, qs, e1, by rw [upd_ne (ne_of e2 hx (by intro w; cases w))]; exact e2, e3.keep st⟩
/-- len(o), o an instance with its own __len__ -/
def rLenO (C : Addr) (sp : Sp) : List V → Hp → VK → Prop := fun xs H Q => ∃ (x dx : Addr) (fs : List (Str × V)), xs = [.ref x] ∧ H x = some (.ins C dx fs) ∧ sp [.ref x] H (fun v H' => ∃ n : Nat, v = .int (n : Int) ∧ n < 1000 ∧ Q (.int (n : Int)) H') (fun _ _ _ => False)
theorem call_lenO {X : Cx} {C f : Addr} {fd : FuncData} {k : Nat} {sp : Sp} (hs : PySem.W.findIn X.K (.ref C) "__len__" = some (some (.ref f))) (hf : PySem.W.isFn X.K (.ref f) = true) (F : FnOk X.prog X.w X.K X.mg X.base CX0 k f fd ["self"] sp) (hr : Room (k + 1) X.A) (hb : Binds X.K fd ["self"] []) : CallR X (.builtin "len") (rLenO C sp) := by
  intro pins s σ H xs us Q I r h
  obtain ⟨x, dx, fs, rfl, hx, hq⟩ := h
  cases r with
  | @cons _ u _ _ ru rn =>
    cases rn
    cases (show u = Value.ref x from ru)
    obtain ⟨mA, J, _⟩ := ins_get I.hok hx
    obtain ⟨od, J, _⟩ := J.look
    obtain ⟨m, hF⟩ := I.fr
    refine PySem.W.len_K hF I.ok.mod.kin J hs hf ?_
    have e0 : Env0 X.prog X.w X.K X.mg X.base X.A.in1 X.stack s H := by
      have e := I.env0
      exact ⟨e.frames, e.mod, e.bs, e.bsz, e.funs, e.frf, e.hok, e.bare⟩
    have r2 : Vals [V.ref x] [Value.ref x] := .cons rfl .nil
    refine wpAny_call (codeAny_mono (F.run X.A.in1 X.stack s H ⟨[.ref x], []⟩ [.ref x] [.ref x] _ (fun _ _ _ => False) hr.in1 e0 (by
      have := hb s [.ref x] I.kIn rfl
      simpa using this) r2 hq) fun r s' hq' => ?_)
    cases r with
    | error e => exact False.elim hq'
    | ok fl =>
      cases fl with
      | ret u =>
        obtain ⟨z, H', I', rz, n, ez, hn, q⟩ := I.after hq'
        subst ez
        obtain ⟨t, rfl⟩ := (show ∃ t, u = Value.int (n : Int) t from rz)
        exact ⟨⟨by omega, by omega⟩, .int (n : Int), H', I'.tok _, ⟨_, rfl⟩, q⟩
      | next => exact False.elim hq'
      | brk => exact False.elim hq'
      | cont => exact False.elim hq'
theorem sum_snoc' {qs : List Rat} {i : Nat} {q : Rat} (h : qs[i]? = some q) : (qs.take (i + 1)).sum = (qs.take i).sum + q := Co.sum_snoc h
def spTotal (K : PySem.W.Frag) : Sp := fun vs H Q _ => ∃ (l : Addr) (cs : List V) (qs : List Rat) (n : Nat), vs = [.ref l, .non] ∧ SqL K H l cs ∧ FrN K H n cs qs ∧ (n + 1) * qs.length + 1 ≤ 8700 ∧ ∀ r H', Same H H' → SqT K H' r (rp qs.sum) → Q (.ref r) H'
def spCopied (K : PySem.W.Frag) : Sp := fun vs H Q _ => ∃ (a : Addr) (rs : List Addr) (rss : List (List Rat)) (n : Nat), vs = [.ref a] ∧ RwL K H a rs rss n ∧ rss.length ≤ 100 ∧ ∀ D rs' H', Fresh K H H' D rs' rss n → Q (.ref D) H'
theorem eqv_dR (a b : Rat) : PyData.eqv (dR a) (dR b) = decide (a = b) := by
  show PyData.eqv (.tuple [.int a.num, .int (a.den : Int)]) (.tuple [.int b.num, .int (b.den : Int)]) = _
  simp only [PyData.eqv, PyData.eqvAll, Bool.and_true]
  by_cases h : a = b
  · subst h
    simp
  · rw [decide_eq_false h, Bool.and_eq_false_iff]
    by_cases h1 : a.num = b.num
    · refine .inr ?_
      have h2 : a.den ≠ b.den := fun e => h (Rat.ext h1 e)
      simp only [beq_eq_false_iff_ne, ne_eq]
      omega
    · refine .inl ?_
      simp only [beq_eq_false_iff_ne, ne_eq]
      exact h1
/-- a def that may raise, where it does not -/
theorem quiet {P : Program} {w : World} {K : PySem.W.Frag} {mg : Str → Option Value} {base : Heap} {k : Nat} {f : Addr} {fd : FuncData} {ps : List Str} {sp : Sp} (F : FnOk P w K mg base (L2.CX P w) k f fd ps sp) : FnOk P w K mg base CX0 k f fd ps (fun vs H Q _ => sp vs H Q E0) := by
  refine ⟨fun vs H Q E h => F.len vs H Q E0 h, fun A outer s H args us vs Q E hr e b r h => codeAny_mono (F.run A outer s H args us vs Q E0 hr e b r h) fun r s' hq => ?_⟩
  cases r with
  | error e =>
    obtain ⟨_, _, _, _, _, _, _, _, _, _, _, _, z⟩ := hq
    exact z.elim
  | ok fl =>
    cases fl <;> exact hq
end Rs

set_option Elab.async false
set_option linter.all false
set_option maxRecDepth 100000
set_option maxHeartbeats 4000000
namespace K9
open PySem PySem.Spec PyProof.Rows L2 BX EXB Co Ru
open Fr (Bd)
def topS (i : Nat) : Stmt := PySem.Challenge.pw_besttelling_k09_what_makes_a_rule.main.body.getD i (.Pass ⟨0, 0, 0, 0⟩)
abbrev sWhole : Stmt := topS 4
abbrev sIsR : Stmt := topS 5
abbrev sPlus : Stmt := topS 6
abbrev sTotal : Stmt := topS 7
abbrev sLowest : Stmt := topS 8
abbrev sDiv : Stmt := topS 9
abbrev sListOf : Stmt := topS 16
abbrev sShare : Stmt := topS 17
abbrev sShRow : Stmt := topS 18
abbrev sWrong : Stmt := topS 19
abbrev sCopied : Stmt := topS 20
abbrev sLeft : Stmt := topS 24
abbrev sDigit : Stmt := topS 25
abbrev sLow : Stmt := topS 26
abbrev sLPlus : Stmt := topS 27
abbrev sShares : Stmt := topS 31
abbrev sRows : Stmt := topS 35
abbrev sLWhole : Stmt := topS 36
abbrev sLIsSh : Stmt := topS 37
abbrev sDue : Stmt := topS 38
abbrev sBent : Stmt := topS 39
abbrev sTold : Stmt := topS 40
abbrev sLaw : Stmt := topS 41
abbrev sNrInit : Stmt := inClass (topS 2) 0
abbrev sRInit : Stmt := inClass (topS 22) 0
abbrev sRRows : Stmt := inClass (topS 22) 1
/-! ### how long a text is -/
theorem textFrom_le : ∀ (ts : List Str) (k : Nat) (acc : Str), (textFrom k acc ts).length ≤ acc.length + piled ts
  | [], k, acc => Nat.le_add_right _ _
  | t :: ts, k, acc => by
    have h := textFrom_le ts (k + 1) (acc ++ (if k > 0 then ", " else "" : String) ++ t)
    rw [strLen_append, strLen_append] at h
    rw [piled_cons]
    have e : textFrom k acc (t :: ts) = textFrom (k + 1) (acc ++ (if k > 0 then ", " else "" : String) ++ t) ts := rfl
    rw [e]
    have hc : (((if k > 0 then ", " else "" : String) : Str)).length ≤ 2 := by split <;> decide
    omega
theorem listText_le (ts : List Str) : (listText ts).length ≤ 2 + piled ts := by
  have h := textFrom_le ts 0 "["
  unfold listText
  rw [strLen_append]
  have h1 : (("[" : String) : Str).length = 1 := by decide
  have h2 : (("]" : String) : Str).length = 1 := by decide
  omega
theorem tupleText_le (ts : List Str) : (tupleText ts).length ≤ 3 + piled ts := by
  unfold tupleText
  rw [strLen_append, strLen_append]
  have h1 : (("(" : String) : Str).length = 1 := by decide
  have h2 : (((if ts.length == 1 then ",)" else ")" : String) : Str)).length ≤ 2 := by split <;> decide
  cases ts with
  | nil =>
    have h3 : (Str.join ", " []).length = 0 := by decide
    omega
  | cons t ts =>
    have h3 := join_length_add (t :: ts) (by simp)
    omega
theorem piled_le {ts : List Str} {b : Nat} (h : ∀ t ∈ ts, t.length ≤ b) : piled ts ≤ ts.length * (b + 2) := by
  induction ts with
  | nil => exact Nat.zero_le _
  | cons t ts ih =>
    rw [piled_cons, List.length_cons, Nat.succ_mul]
    have h1 := h t (List.mem_cons_self ..)
    have h2 := ih fun x hx => h x (List.mem_cons_of_mem _ hx)
    omega
/-- data that can be shown, of so many levels, no longer than b -/
structure Sm (d : PyData) (k b : Nat) : Prop where
  sh : d.showable = true
  dp : d.depth ≤ k
  sz : d.shown.length ≤ b
  ly : d.canLay0 = true
theorem Sm.mono {d : PyData} {k b k' b' : Nat} (h : Sm d k b) (hk : k ≤ k') (hb : b ≤ b') : Sm d k' b' := ⟨h.sh, Nat.le_trans h.dp hk, Nat.le_trans h.sz hb, h.ly⟩
theorem shownAll_len : ∀ ds : List PyData, (PyData.shownAll ds).length = ds.length
  | [] => by simp only [PyData.shownAll, List.length_nil]
  | d :: ds => by simp only [PyData.shownAll, List.length_cons, shownAll_len ds]
theorem shownAll_mem : ∀ {ds : List PyData} {t : Str}, t ∈ PyData.shownAll ds → ∃ d ∈ ds, t = d.shown
  | [], t, h => by simp only [PyData.shownAll] at h; exact nomatch h
  | d :: ds, t, h => by
    simp only [PyData.shownAll, List.mem_cons] at h
    rcases h with rfl | h
    · exact ⟨d, List.mem_cons_self .., rfl⟩
    · obtain ⟨x, hx, e⟩ := shownAll_mem h
      exact ⟨x, List.mem_cons_of_mem _ hx, e⟩
theorem sm_piled {ds : List PyData} {k b n : Nat} (h : ∀ d ∈ ds, Sm d k b) (hn : ds.length ≤ n) : piled (PyData.shownAll ds) ≤ n * (b + 2) := by
  have h1 := piled_le (ts := PyData.shownAll ds) (b := b) fun t ht => by
    obtain ⟨d, hd, rfl⟩ := shownAll_mem ht
    exact (h d hd).sz
  rw [shownAll_len] at h1
  exact Nat.le_trans h1 (Nat.mul_le_mul_right _ hn)
theorem sm_shs : ∀ {ds : List PyData} {k b : Nat}, (∀ d ∈ ds, Sm d k b) → PyData.showableAll ds = true
  | [], _, _, _ => by simp only [PyData.showableAll]
  | d :: ds, k, b, h => by simp only [PyData.showableAll, (h d (List.mem_cons_self ..)).sh, sm_shs fun x hx => h x (List.mem_cons_of_mem _ hx), Bool.and_self]
theorem sm_lys : ∀ {ds : List PyData} {k b : Nat}, (∀ d ∈ ds, Sm d k b) → PyData.canLayAll0 ds = true
  | [], _, _, _ => rfl
  | d :: ds, k, b, h => by
    show (PyData.canLay0 d && PyData.canLayAll0 ds) = true
    rw [(h d (List.mem_cons_self ..)).ly, sm_lys fun x hx => h x (List.mem_cons_of_mem _ hx)]
    rfl
theorem sm_dps : ∀ {ds : List PyData} {k b : Nat}, (∀ d ∈ ds, Sm d k b) → PyData.depthAll ds ≤ k
  | [], _, _, _ => Nat.zero_le _
  | d :: ds, k, b, h => by
    show max (PyData.depth d) (PyData.depthAll ds) ≤ k
    have h1 := (h d (List.mem_cons_self ..)).dp
    have h2 := sm_dps fun x hx => h x (List.mem_cons_of_mem _ hx)
    omega
theorem sm_list {ds : List PyData} {k b n c : Nat} (h : ∀ d ∈ ds, Sm d k b) (hn : ds.length ≤ n) (hc : 3 + n * (b + 2) ≤ c) : Sm (.list ds) (k + 1) c := by
  refine ⟨by simp only [PyData.showable]; exact sm_shs h, ?_, ?_, sm_lys h⟩
  · have := sm_dps h
    show PyData.depthAll ds + 1 ≤ k + 1
    omega
  · have h1 := listText_le (PyData.shownAll ds)
    have h2 := sm_piled h hn
    simp only [PyData.shown]
    omega
theorem sm_tup {ds : List PyData} {k b n c : Nat} (h : ∀ d ∈ ds, Sm d k b) (hn : ds.length ≤ n) (hc : 3 + n * (b + 2) ≤ c) : Sm (.tuple ds) (k + 1) c := by
  refine ⟨by simp only [PyData.showable]; exact sm_shs h, ?_, ?_, sm_lys h⟩
  · have := sm_dps h
    show PyData.depthAll ds + 1 ≤ k + 1
    omega
  · have h1 := tupleText_le (PyData.shownAll ds)
    have h2 := sm_piled h hn
    simp only [PyData.shown]
    omega
theorem small_ints : ∀ n : Fin 511, ((toString ((n.val : Int) - 255) : String) : Str).length ≤ 4 ∧ ((n.val : Int) - 255).natAbs.log2 < 1920 := by decide +kernel
theorem sm_int {i : Int} (h : i.natAbs < 256) : Sm (.int i) 0 4 := by
  have z := small_ints ⟨(i + 255).toNat, by omega⟩
  have e : (((i + 255).toNat : Nat) : Int) - 255 = i := by omega
  simp only [e] at z
  refine ⟨by simp only [PyData.showable]; exact decide_eq_true z.2, Nat.le_refl _, ?_, rfl⟩
  simp only [PyData.shown]
  exact z.1
theorem sm_dR {q : Rat} (h : Bd 8 q) : Sm (dR q) 1 15 := by
  refine sm_tup (k := 0) (b := 4) (n := 2) (fun d hd => ?_) (Nat.le_refl 2) (by decide)
  rcases List.mem_cons.mp hd with rfl | hd
  · exact sm_int h.1
  · rw [List.mem_singleton.mp hd]
    have := h.2
    exact sm_int (by omega)
/-! ### cells -/
inductive Cl (K : PySem.W.Frag) (H : Hp) : V → Option Rat → PyData → Prop
  | fr {a : Addr} {q : Rat} (h : SqT K H a (rp q)) (hb : Bd 8 q) : Cl K H (.ref a) (some q) (dR q)
  | non : Cl K H .non none .none
  | one : Cl K H (.int 1) none (.int 1)
  | bl : Cl K H (.bl true) none (.bool true)
  | str : Cl K H (.str "1/2") none (.str "1/2")
  | tz {a : Addr} {x y : Int} (h : SqT K H a [.int x, .int y]) (hb : (x = 0 ∧ y = 2) ∨ (x = 2 ∧ y = 4) ∨ (x = 1 ∧ y = 0)) : Cl K H (.ref a) none (.tuple [.int x, .int y])
  | tb {a : Addr} (h : SqT K H a [.bl true, .int 1]) : Cl K H (.ref a) none (.tuple [.bool true, .int 1])
  | ls {a : Addr} (h : H a = some (.lst [.int 1, .int 2])) : Cl K H (.ref a) none (.list [.int 1, .int 2])
section
variable {K : PySem.W.Frag} {H H' : Hp} {l : Addr} {v : V} {o : Option Rat} {d : PyData}
/-- what carries over -/
structure Car (K : PySem.W.Frag) (l : Addr) (H H' : Hp) : Prop where
  tp : ∀ a xs, SqT K H a xs → SqT K H' a xs
  ob : ∀ b o, b ≠ l → H b = some o → H' b = some o
  nl : ∀ xs, H l = some (.lst xs) → ∃ z, xs = [V.int z]
  nd : H l ≠ some (.dK [])
theorem Cl.car (h : Cl K H v o d) (c : Car K l H H') : Cl K H' v o d := by
  cases h with
  | fr h hb => exact .fr (c.tp _ _ h) hb
  | non => exact .non
  | one => exact .one
  | bl => exact .bl
  | str => exact .str
  | tz h hb => exact .tz (c.tp _ _ h) hb
  | tb h => exact .tb (c.tp _ _ h)
  | @ls a h =>
    refine .ls (c.ob _ _ (fun e => ?_) h)
    rw [e] at h
    obtain ⟨z, hz⟩ := c.nl _ h
    cases hz
theorem Cl.same (h : Cl K H v o d) (s : Same H H') : Cl K H' v o d := by
  cases h with
  | fr h hb => exact .fr (seqT s h) hb
  | non => exact .non
  | one => exact .one
  | bl => exact .bl
  | str => exact .str
  | tz h hb => exact .tz (seqT s h) hb
  | tb h => exact .tb (seqT s h)
  | ls h => exact .ls (s _ _ h)
theorem Cl.dp (h : Cl K H v o d) : Dp K H v d := by
  cases h with
  | fr h hb => exact dp_r h
  | non => exact .non
  | one => exact .int _
  | bl => exact .bl _
  | str => exact .str _
  | tz h hb => exact .tup h (.cons (.int _) (.cons (.int _) .nil))
  | tb h => exact .tup h (.cons (.bl _) (.cons (.int _) .nil))
  | ls h => exact .lst (SqL.of h) (.cons (.int _) (.cons (.int _) .nil))
theorem Cl.sm (h : Cl K H v o d) : Sm d 1 15 := by
  cases h with
  | fr h hb => exact sm_dR hb
  | non => exact ⟨rfl, by decide, by decide +kernel, rfl⟩
  | one => exact ⟨by decide +kernel, by decide, by decide +kernel, rfl⟩
  | bl => exact ⟨rfl, by decide, by decide +kernel, rfl⟩
  | str => exact ⟨rfl, by decide, by decide +kernel, by decide +kernel⟩
  | tz h hb => rcases hb with ⟨rfl, rfl⟩ | ⟨rfl, rfl⟩ | ⟨rfl, rfl⟩ <;> exact ⟨by decide +kernel, by decide +kernel, by decide +kernel, by decide +kernel⟩
  | tb h => exact ⟨by decide +kernel, by decide +kernel, by decide +kernel, by decide +kernel⟩
  | ls h => exact ⟨by decide +kernel, by decide +kernel, by decide +kernel, by decide +kernel⟩
/-- a tuple of two, or none at all -/
theorem Cl.ty (h : Cl K H v o d) : (∃ (a : Addr) (x y : V), v = .ref a ∧ SqT K H a [x, y]) ∨ (o = none ∧ ∃ n : String, TyX K H v (.type n) ∧ kitB n "tuple" = some false) := by
  cases h with
  | @fr a q h hb => exact .inl ⟨a, _, _, rfl, h⟩
  | @tz a x y h hb => exact .inl ⟨a, _, _, rfl, h⟩
  | @tb a h => exact .inl ⟨a, _, _, rfl, h⟩
  | non => exact .inr ⟨rfl, "NoneType", .base .non, by decide +kernel⟩
  | one => exact .inr ⟨rfl, "int", .base (.int _), by decide +kernel⟩
  | bl => exact .inr ⟨rfl, "bool", .base (.bl _), by decide +kernel⟩
  | str => exact .inr ⟨rfl, "str", .base (.str _), by decide +kernel⟩
  | ls h => exact .inr ⟨rfl, "list", .base (.lst h), by decide +kernel⟩
end
def shB : Option Rat → Bool
  | some q => decide (0 ≤ q.num)
  | none => false
/-- cells in a row -/
inductive ClL (K : PySem.W.Frag) (H : Hp) : List V → List (Option Rat) → List PyData → Prop
  | nil : ClL K H [] [] []
  | cons {v : V} {o : Option Rat} {d : PyData} {vs : List V} {os : List (Option Rat)} {ds : List PyData} (h : Cl K H v o d) (t : ClL K H vs os ds) : ClL K H (v :: vs) (o :: os) (d :: ds)
section
variable {K : PySem.W.Frag} {H H' : Hp} {l : Addr} {vs us : List V} {os ps : List (Option Rat)} {ds es : List PyData}
theorem ClL.imp (h : ClL K H vs os ds) (f : ∀ v o d, Cl K H v o d → Cl K H' v o d) : ClL K H' vs os ds := by
  induction h with
  | nil => exact .nil
  | cons h t ih => exact .cons (f _ _ _ h) ih
theorem ClL.len (h : ClL K H vs os ds) : vs.length = os.length ∧ ds.length = os.length := by
  induction h with
  | nil => exact ⟨rfl, rfl⟩
  | cons h t ih => exact ⟨by rw [List.length_cons, List.length_cons, ih.1], by rw [List.length_cons, List.length_cons, ih.2]⟩
theorem ClL.at_ (h : ClL K H vs os ds) : ∀ {i : Nat} {v : V}, vs[i]? = some v → ∃ o d, os[i]? = some o ∧ Cl K H v o d := by
  induction h with
  | nil => intro i v e; simp at e
  | cons h t ih =>
    intro i v e
    cases i with
    | zero => cases (Option.some.inj e); exact ⟨_, _, rfl, h⟩
    | succ i => exact ih e
theorem ClL.dp (h : ClL K H vs os ds) : DpAll K H vs ds := by
  induction h with
  | nil => exact .nil
  | cons h t ih => exact .cons h.dp ih
theorem ClL.sm (h : ClL K H vs os ds) : ∀ d ∈ ds, Sm d 1 15 := by
  induction h with
  | nil => intro d hd; simp at hd
  | cons h t ih =>
    intro d hd
    rcases List.mem_cons.mp hd with rfl | hd
    · exact h.sm
    · exact ih d hd
theorem ClL.app (h : ClL K H vs os ds) (g : ClL K H us ps es) : ClL K H (vs ++ us) (os ++ ps) (ds ++ es) := by
  induction h with
  | nil => exact g
  | cons h t ih => exact .cons h ih
theorem ClL.good (h : ClL K H vs os ds) (g : os.all shB = true) : ∃ qs, os = qs.map some ∧ FrN K H 8 vs qs ∧ ∀ q ∈ qs, 0 ≤ q := by
  induction h with
  | nil => exact ⟨[], rfl, FrN.nil, fun q hq => by simp at hq⟩
  | @cons v o d vs os ds h t ih =>
    rw [List.all_cons, Bool.and_eq_true] at g
    obtain ⟨qs, e1, e2, e3⟩ := ih g.2
    cases h with
    | @fr a q h hb =>
      refine ⟨q :: qs, by rw [List.map_cons, e1], ⟨by rw [List.length_cons, List.length_cons, e2.len], fun i x e => ?_⟩, fun x hx => ?_⟩
      · cases i with
        | zero => cases (Option.some.inj e); exact ⟨a, q, rfl, rfl, h, hb⟩
        | succ i => exact e2.at_ i x e
      · rcases List.mem_cons.mp hx with rfl | hx
        · exact Rat.num_nonneg.mp (of_decide_eq_true g.1)
        · exact e3 x hx
    | _ => cases g.1
theorem frn_cl : ∀ {vs : List V} {qs : List Rat}, FrN K H 8 vs qs → ClL K H vs (qs.map some) (qs.map dR)
  | [], [], _ => .nil
  | [], _ :: _, h => by have := h.len; simp at this
  | _ :: _, [], h => by have := h.len; simp at this
  | v :: vs, q :: qs, h => by
    obtain ⟨a, q', e1, rfl, e3, e4⟩ := h.at_ 0 v rfl
    cases (Option.some.inj e1)
    exact .cons (.fr e3 e4) (frn_cl ⟨by have := h.len; simpa using this, fun i v e => h.at_ (i + 1) v e⟩)
end
abbrev Ro := Option (List (Option Rat))
/-- a row, or what is handed in for one -/
inductive Rw (K : PySem.W.Frag) (H : Hp) (l : Addr) : V → Ro → PyData → Prop
  | lst {a : Addr} {cs : List V} {os : List (Option Rat)} {ds : List PyData} (h : H a = some (.lst cs)) (hn : a ≠ l) (hc : ClL K H cs os ds) (hl : os.length ≤ 61) : Rw K H l (.ref a) (some os) (.list ds)
  | tup {a : Addr} {cs : List V} {os : List (Option Rat)} {ds : List PyData} (h : SqT K H a cs) (hc : ClL K H cs os ds) (hl : os.length ≤ 61) : Rw K H l (.ref a) none (.tuple ds)
  | non : Rw K H l .non none .none
inductive RwL' (K : PySem.W.Frag) (H : Hp) (l : Addr) : List V → List Ro → List PyData → Prop
  | nil : RwL' K H l [] [] []
  | cons {v : V} {o : Ro} {d : PyData} {vs : List V} {os : List Ro} {ds : List PyData} (h : Rw K H l v o d) (t : RwL' K H l vs os ds) : RwL' K H l (v :: vs) (o :: os) (d :: ds)
/-- what is handed in for rows -/
inductive Tg (K : PySem.W.Frag) (H : Hp) (l : Addr) : V → Option (List Ro) → PyData → Prop
  | lst {a : Addr} {rs : List V} {os : List Ro} {ds : List PyData} (h : H a = some (.lst rs)) (hn : a ≠ l) (hr : RwL' K H l rs os ds) (hl : os.length ≤ 30) : Tg K H l (.ref a) (some os) (.list ds)
  | tup {a : Addr} {rs : List V} {os : List Ro} {ds : List PyData} (h : SqT K H a rs) (hr : RwL' K H l rs os ds) (hl : os.length ≤ 30) : Tg K H l (.ref a) none (.tuple ds)
  | non : Tg K H l .non none .none
  | zero : Tg K H l (.int 0) none (.int 0)
  | str : Tg K H l (.str "") none (.str "")
  | dct {a : Addr} (h : H a = some (.dK [])) : Tg K H l (.ref a) none (.dict [])
section
variable {K : PySem.W.Frag} {H H' : Hp} {l : Addr}
theorem Rw.same {v : V} {o : Ro} {d : PyData} (h : Rw K H l v o d) (s : Same H H') : Rw K H' l v o d := by
  cases h with
  | lst h hn hc hl => exact .lst (s _ _ h) hn (hc.imp fun _ _ _ c => c.same s) hl
  | tup h hc hl => exact .tup (seqT s h) (hc.imp fun _ _ _ c => c.same s) hl
  | non => exact .non
theorem Rw.car {v : V} {o : Ro} {d : PyData} (h : Rw K H l v o d) (s : Car K l H H') : Rw K H' l v o d := by
  cases h with
  | lst h hn hc hl => exact .lst (s.ob _ _ hn h) hn (hc.imp fun _ _ _ c => c.car s) hl
  | tup h hc hl => exact .tup (s.tp _ _ h) (hc.imp fun _ _ _ c => c.car s) hl
  | non => exact .non
theorem Rw.dp {v : V} {o : Ro} {d : PyData} (h : Rw K H l v o d) : Dp K H v d := by
  cases h with
  | lst h hn hc hl => exact .lst (SqL.of h) hc.dp
  | tup h hc hl => exact .tup h hc.dp
  | non => exact .non
theorem Rw.sm {v : V} {o : Ro} {d : PyData} (h : Rw K H l v o d) : Sm d 2 1100 := by
  cases h with
  | lst h hn hc hl => exact sm_list (n := 61) hc.sm (by rw [hc.len.2]; exact hl) (by decide)
  | tup h hc hl => exact sm_tup (n := 61) hc.sm (by rw [hc.len.2]; exact hl) (by decide)
  | non => exact ⟨rfl, by decide, by decide +kernel, rfl⟩
variable {vs us : List V} {os ps : List Ro} {ds es : List PyData}
theorem RwL'.imp (h : RwL' K H l vs os ds) (f : ∀ v o d, Rw K H l v o d → Rw K H' l v o d) : RwL' K H' l vs os ds := by
  induction h with
  | nil => exact .nil
  | cons h t ih => exact .cons (f _ _ _ h) ih
theorem RwL'.len (h : RwL' K H l vs os ds) : vs.length = os.length ∧ ds.length = os.length := by
  induction h with
  | nil => exact ⟨rfl, rfl⟩
  | cons h t ih => exact ⟨by rw [List.length_cons, List.length_cons, ih.1], by rw [List.length_cons, List.length_cons, ih.2]⟩
theorem RwL'.at_ (h : RwL' K H l vs os ds) : ∀ {i : Nat} {v : V}, vs[i]? = some v → ∃ o d, os[i]? = some o ∧ Rw K H l v o d := by
  induction h with
  | nil => intro i v e; simp at e
  | cons h t ih =>
    intro i v e
    cases i with
    | zero => cases (Option.some.inj e); exact ⟨_, _, rfl, h⟩
    | succ i => exact ih e
theorem RwL'.dp (h : RwL' K H l vs os ds) : DpAll K H vs ds := by
  induction h with
  | nil => exact .nil
  | cons h t ih => exact .cons h.dp ih
theorem RwL'.sm (h : RwL' K H l vs os ds) : ∀ d ∈ ds, Sm d 2 1100 := by
  induction h with
  | nil => intro d hd; simp at hd
  | cons h t ih =>
    intro d hd
    rcases List.mem_cons.mp hd with rfl | hd
    · exact h.sm
    · exact ih d hd
theorem RwL'.app (h : RwL' K H l vs os ds) (g : RwL' K H l us ps es) : RwL' K H l (vs ++ us) (os ++ ps) (ds ++ es) := by
  induction h with
  | nil => exact g
  | cons h t ih => exact .cons h ih
variable {v : V} {o : Option (List Ro)} {d : PyData}
theorem Tg.same (h : Tg K H l v o d) (s : Same H H') : Tg K H' l v o d := by
  cases h with
  | lst h hn hr hl => exact .lst (s _ _ h) hn (hr.imp fun _ _ _ c => c.same s) hl
  | tup h hr hl => exact .tup (seqT s h) (hr.imp fun _ _ _ c => c.same s) hl
  | non => exact .non
  | zero => exact .zero
  | str => exact .str
  | dct h => exact .dct (s _ _ h)
theorem Tg.car (h : Tg K H l v o d) (s : Car K l H H') : Tg K H' l v o d := by
  cases h with
  | lst h hn hr hl => exact .lst (s.ob _ _ hn h) hn (hr.imp fun _ _ _ c => c.car s) hl
  | tup h hr hl => exact .tup (s.tp _ _ h) (hr.imp fun _ _ _ c => c.car s) hl
  | non => exact .non
  | zero => exact .zero
  | str => exact .str
  | @dct a h => exact .dct (s.ob _ _ (fun e => s.nd (by rw [← e]; exact h)) h)
theorem Tg.dq (h : Tg K H l v o d) : Dq K H v d := by
  cases h with
  | lst h hn hr hl => exact .inl (.lst (SqL.of h) hr.dp)
  | tup h hr hl => exact .inl (.tup h hr.dp)
  | non => exact .inl .non
  | zero => exact .inl (.int _)
  | str => exact .inl (.str _)
  | dct h => exact .inr ⟨_, rfl, h, rfl⟩
theorem Tg.sh (h : Tg K H l v o d) : d.showable = true ∧ d.depth ≤ 64 ∧ d.shown.length ≤ sizeLine := by
  cases h with
  | lst h hn hr hl =>
    have z := sm_list (n := 30) (c := 34000) hr.sm (by rw [hr.len.2]; exact hl) (by decide)
    exact ⟨z.sh, Nat.le_trans z.dp (by decide), Nat.le_trans z.sz (by decide)⟩
  | tup h hr hl =>
    have z := sm_tup (n := 30) (c := 34000) hr.sm (by rw [hr.len.2]; exact hl) (by decide)
    exact ⟨z.sh, Nat.le_trans z.dp (by decide), Nat.le_trans z.sz (by decide)⟩
  | non => exact ⟨rfl, by decide, by decide +kernel⟩
  | zero => exact ⟨by decide +kernel, by decide, by decide +kernel⟩
  | str => exact ⟨rfl, by decide, by decide +kernel⟩
  | dct h => exact ⟨by decide +kernel, by decide +kernel, by decide +kernel⟩
end
theorem eqv_dR (a b : Rat) : PyData.eqv (dR a) (dR b) = decide (a = b) := by
  show PyData.eqv (.tuple [.int a.num, .int (a.den : Int)]) (.tuple [.int b.num, .int (b.den : Int)]) = _
  simp only [PyData.eqv, PyData.eqvAll, Bool.and_true]
  by_cases h : a = b
  · subst h
    simp
  · rw [decide_eq_false h, Bool.and_eq_false_iff]
    by_cases h1 : a.num = b.num
    · refine .inr ?_
      have h2 : a.den ≠ b.den := fun e => h (Rat.ext h1 e)
      simp only [beq_eq_false_iff_ne, ne_eq]
      omega
    · refine .inl ?_
      simp only [beq_eq_false_iff_ne, ne_eq]
      exact h1
end K9

set_option Elab.async false
set_option linter.all false
set_option maxRecDepth 100000
set_option maxHeartbeats 4000000
namespace K9
open PySem PySem.Spec PyProof.Rows L2 BX EXB Co Ru
open Fr (Bd)
theorem sum_snoc' {qs : List Rat} {i : Nat} {q : Rat} (h : qs[i]? = some q) : (qs.take (i + 1)).sum = (qs.take i).sum + q := Co.sum_snoc h
def spTotal (K : PySem.W.Frag) : Sp := fun vs H Q _ => ∃ (l : Addr) (cs : List V) (qs : List Rat) (n : Nat), vs = [.ref l, .non] ∧ SqL K H l cs ∧ FrN K H n cs qs ∧ (n + 1) * qs.length + 1 ≤ 8700 ∧ ∀ r H', Same H H' → SqT K H' r (rp qs.sum) → Q (.ref r) H'
/-- what may stand in a tuple of two -/
def CV (v : V) : Prop := (∃ i : Int, v = .int i) ∨ v = .bl true
def cvI : V → Bool
  | .int _ => true
  | _ => false
def spWholeV : Sp := fun vs H Q _ => ∃ v : V, vs = [v] ∧ CV v ∧ Q (.bl (cvI v)) H
def spIsRC (K : PySem.W.Frag) : Sp := fun vs H Q _ => ∃ (v : V) (o : Option Rat) (d : PyData), vs = [v] ∧ Cl K H v o d ∧ Q (.bl o.isSome) H
def spShareC (K : PySem.W.Frag) : Sp := fun vs H Q _ => ∃ (v : V) (o : Option Rat) (d : PyData), vs = [v] ∧ Cl K H v o d ∧ Q (.bl (shB o)) H
/-- a list of so many things, or none -/
inductive LsO (K : PySem.W.Frag) (H : Hp) : V → Option Nat → Prop
  | lst {a : Addr} {xs : List V} (h : H a = some (.lst xs)) : LsO K H (.ref a) (some xs.length)
  | non {v : V} {n : String} (h : TyX K H v (.type n)) (hk : kitB n "list" = some false) : LsO K H v none
def lenOk : Option Nat → Int → Int → Bool
  | some n, lo, hi => decide (lo ≤ (n : Int)) && decide ((n : Int) ≤ hi)
  | none, _, _ => false
def spListOfC (K : PySem.W.Frag) : Sp := fun vs H Q _ => ∃ (v : V) (o : Option Nat) (lo hi : Int), vs = [v, .int lo, .int hi] ∧ LsO K H v o ∧ Q (.bl (lenOk o lo hi)) H
def sumO (os : List (Option Rat)) : Rat := (os.map fun o => o.getD 0).sum
def rowOk (o : Ro) (lo hi : Int) : Bool :=
  match o with
  | none => false
  | some os => lenOk (some os.length) lo hi && (os.all shB && decide (sumO os = 1))
theorem Rw.lso {K : PySem.W.Frag} {H : Hp} {l : Addr} {v : V} {o : Ro} {d : PyData} (h : Rw K H l v o d) : LsO K H v (o.map List.length) := by
  cases h with
  | lst h hn hc hl => rw [Option.map_some, ← hc.len.1]; exact .lst h
  | tup h hc hl => exact .non (tyT h) (by decide +kernel)
  | non => exact .non (.base .non) (by decide +kernel)
theorem Tg.lso {K : PySem.W.Frag} {H : Hp} {l : Addr} {v : V} {o : Option (List Ro)} {d : PyData} (h : Tg K H l v o d) : LsO K H v (o.map List.length) := by
  cases h with
  | lst h hn hc hl => rw [Option.map_some, ← hc.len.1]; exact .lst h
  | tup h hc hl => exact .non (tyT h) (by decide +kernel)
  | non => exact .non (.base .non) (by decide +kernel)
  | zero => exact .non (.base (.int _)) (by decide +kernel)
  | str => exact .non (.base (.str _)) (by decide +kernel)
  | dct h => exact .non (.base (.dK h)) (by decide +kernel)
def firstWrong : List Ro → Nat → Int → Int → Option Nat
  | [], _, _, _ => none
  | o :: os, j, lo, hi => if rowOk o lo hi = true then firstWrong os (j + 1) ((o.map List.length).getD 0 : Nat) ((o.map List.length).getD 0 : Nat) else some j
theorem firstWrong_drop {os : List Ro} {i : Nat} {o : Ro} {lo hi : Int} (h : os[i]? = some o) : firstWrong (os.drop i) i lo hi = if rowOk o lo hi = true then firstWrong (os.drop (i + 1)) (i + 1) ((o.map List.length).getD 0 : Nat) ((o.map List.length).getD 0 : Nat) else some i := by
  have hi' : i < os.length := (List.getElem?_eq_some_iff.mp h).1
  have e : os[i] = o := (List.getElem?_eq_some_iff.mp h).2
  rw [List.drop_eq_getElem_cons hi', e, firstWrong]
def spShRowC (K : PySem.W.Frag) : Sp := fun vs H Q _ => ∃ (l : Addr) (v : V) (o : Ro) (d : PyData) (lo hi : Int), vs = [v, .int lo, .int hi] ∧ Rw K H l v o d ∧ hi ≤ 30 ∧ ∀ H', Same H H' → Q (.bl (rowOk o lo hi)) H'
def spWrongC (K : PySem.W.Frag) (fR : Addr) : Sp := fun vs H Q _ => ∃ (l a : Addr) (rs : List V) (os : List Ro) (ds : List PyData), vs = [.ref a, .ref fR, .int 1, .int 30] ∧ H a = some (.lst rs) ∧ RwL' K H l rs os ds ∧
  ∀ H', Same H H' → Q (match firstWrong os 0 1 30 with | none => .non | some j => .int (j : Nat)) H'
def spCopied (K : PySem.W.Frag) : Sp := fun vs H Q _ => ∃ (a : Addr) (rs : List Addr) (rss : List (List Rat)) (n : Nat), vs = [.ref a] ∧ RwL K H a rs rss n ∧ rss.length ≤ 100 ∧ ∀ D rs' H', Fresh K H H' D rs' rss n → Q (.ref D) H'
section
variable {P : Program} {w : World} {K : PySem.W.Frag} {mg : Str → Option Value} {base : Heap}
theorem scDiv : FnScope ["one", "other"] ["one", "other"] (defScope sDiv) := ⟨rfl, rfl, rfl, by decide +kernel, rfl, by decide +kernel, by decide +kernel⟩
theorem ok_div {f : Addr} {fd : FuncData} {k : Nat} (F : Fun K "divisor" "divisor" sDiv f fd) (B : Blt mg) : FnOk P w K mg base CX0 (k + 1) f fd ["one", "other"] spDiv := by
  refine F.ok scDiv (fun vs H Q E h => ?_) (fun cdv A outer s H vs Q E hr h => ?_)
  · obtain ⟨a, b, rfl, _⟩ := h
    rfl
  · obtain ⟨a, b, rfl, q⟩ := h
    refine ⟨_, pss_cons (ps_while PassesOwn.never (pt_cmpR op_ne (pv 1) pe_int (nomark _))
        (pss_one (ps_par (i := 0) (j := 1) (by rfl) scDiv.nd rfl rfl (by decide) rfl rfl (pa_cons (pv 1) (pa_cons (pe_op op_modN (pv 0) (pv 1)) pa_nil)) (by rfl))))
      (pss_one (ps_ret (pe_callB call_abs (by rfl) B.abs_ (by decide +kernel) (pa_cons (pv 0) pa_nil)))), ?_⟩
    refine ⟨fun m σ H' => ∃ x y : Int, σ = [some (.int x), some (.int y)] ∧ m = y.natAbs ∧ Int.gcd x y = Int.gcd a b ∧ H' = H, ⟨_, a, b, rfl, rfl, rfl, rfl⟩, ?_⟩
    rintro m σ H' ⟨x, y, rfl, rfl, hg, rfl⟩
    refine ⟨.int y, rfl, rfl, _, rfl, ite2 (fun c => ?_) (fun c => ?_)⟩
    · have hy : y ≠ 0 := fun e => by
        subst e
        exact absurd c (by decide)
      refine ⟨fun σ' H'' => ∃ x' y' : Int, σ' = [some (.int x'), some (.int y')] ∧ y'.natAbs < y.natAbs ∧ Int.gcd x' y' = Int.gcd a b ∧ H'' = H', ?_, ?_⟩
      · rintro σ' H'' ⟨x', y', e1, e2, e3, e4⟩
        exact ⟨y'.natAbs, e2, x', y', e1, rfl, e3, e4⟩
      · refine ⟨.int y, rfl, .int x, rfl, .int y, rfl, x, y, rfl, rfl, hy, _, _, rfl, y, _, rfl, Fr.fmod_abs x hy, ?_, rfl⟩
        rw [Fr.gcd_step]
        exact hg
    · have hy : y = 0 := by
        by_cases e : y = 0
        · exact e
        · exact absurd (by simp [e]) c
      subst hy
      rw [Int.gcd_zero_right] at hg
      refine ⟨.int x, rfl, x, rfl, ?_⟩
      have e : (if x < 0 then -x else x) = (Int.gcd a b : Int) := by
        rw [← hg]
        split <;> omega
      rw [e]
      exact q
theorem scLowest : FnScope ["top", "bottom", "by"] ["top", "bottom"] (defScope sLowest) := ⟨rfl, rfl, rfl, by decide +kernel, rfl, by decide +kernel, by decide +kernel⟩
theorem ok_lowest {f fD : Addr} {fd fdD : FuncData} {k : Nat} (F : Fun K "lowest" "lowest" sLowest f fd) (GD : FnOk P w K mg base CX0 k fD fdD ["one", "other"] spDiv) (kD : PySem.W.keepIn K (.ref fD) = true) (bD : Binds K fdD ["one", "other"] []) (gD : mg "divisor" = some (.ref fD)) : FnOk P w K mg base CX0 (k + 1) f fd ["top", "bottom"] spLow := by
  refine F.ok scLowest (fun vs H Q E h => ?_) (fun cdv A outer s H vs Q E hr h => ?_)
  · obtain ⟨a, b, n, rfl, _⟩ := h
    rfl
  · obtain ⟨t, b, n, rfl, ht, hb, h0, hn, q⟩ := h
    refine ⟨_, pss_cons (ps_set (i := 2) scLowest.nd rfl (.inl rfl) (pe_call GD hr (by rfl) gD kD bD .nil pass0 (pa_cons (pv 0) (pa_cons (pv 1) pa_nil))))
      (pss_cons (ps_if (pt_cmpR op_lt (pv 1) pe_int (nomark _)) (pss_one (ps_set (i := 2) scLowest.nd rfl (.inl rfl) (pe_un un_neg (pv 2)))) pss_nil)
      (pss_one (ps_ret (pe_tup (pa_cons (pe_op op_fdivZ (pv 0) (pv 2)) (pa_cons (pe_op op_fdivZ (pv 1) (pv 2)) pa_nil)))))), ?_⟩
    have hg := Fr.gcd_pos (t := t) h0
    have hgb := gcd_bd (t := t) h0 hb
    have hn0 : 0 < n := by
      cases n with
      | zero => simp at hb; omega
      | succ n => omega
    refine ⟨_, rfl, _, rfl, t, b, rfl, ?_⟩
    refine ⟨_, rfl, b, 0, rfl, rfl, _, rfl, ite2 (fun c => ?_) (fun c => ?_)⟩
    · have hb0 : b < 0 := of_decide_eq_true c
      refine ⟨_, rfl, _, rfl, ?_⟩
      have d : ∀ i : Int, CDivZ i (-(Int.gcd t b : Int)) := fun i => divZ (n := n) (by omega) (by rw [Int.natAbs_neg]; exact hgb) hn0 (by omega)
      refine ⟨_, rfl, _, rfl, t, _, rfl, rfl, d _, _, rfl, _, rfl, b, _, rfl, rfl, d _, (by show 2 ≤ sizeLine; decide), fun p hp => ?_⟩
      have z := q p hp
      rw [rp, ← Fr.lowN_num hb0, ← Fr.lowN_den hb0] at z
      exact z
    · have hb0 : 0 < b := by
        have : ¬ b < 0 := of_decide_eq_false (Bool.eq_false_iff.mpr c)
        omega
      have d : ∀ i : Int, CDivZ i (Int.gcd t b : Int) := fun i => divZ (n := n) (by omega) hgb hn0 (by omega)
      refine ⟨_, rfl, _, rfl, t, _, rfl, rfl, d _, _, rfl, _, rfl, b, _, rfl, rfl, d _, (by show 2 ≤ sizeLine; decide), fun p hp => ?_⟩
      have z := q p hp
      rw [rp, ← Fr.low_num hb0, ← Fr.low_den hb0] at z
      exact z

theorem scPlus : FnScope ["one", "other"] ["one", "other"] (defScope sPlus) := ⟨rfl, rfl, rfl, by decide +kernel, rfl, by decide +kernel, by decide +kernel⟩
theorem ok_Plus {f fC : Addr} {fd fdC : FuncData} {k : Nat} (F : Fun K "plus" "plus" sPlus f fd) (GC : FnOk P w K mg base CX0 k fC fdC ["top", "bottom"] spLow) (kC : PySem.W.keepIn K (.ref fC) = true) (bC : Binds K fdC ["top", "bottom"] []) (gC : mg "lowest" = some (.ref fC)) :
    FnOk P w K mg base CX0 (k + 1) f fd ["one", "other"] (spBin K (· + ·)) := by
  refine F.ok scPlus (fun vs H Q E h => ?_) (fun cdv A outer s H vs Q E hr h => ?_)
  · obtain ⟨a, b, x, y, n, m, rfl, _⟩ := h
    rfl
  · obtain ⟨a, b, x, y, n, m, rfl, hx, hy, bx, by_, hn, q⟩ := h
    refine ⟨_, pss_one (ps_ret (pe_call GC hr (by rfl) gC kC bC .nil pass0 (pa_cons (pe_op op_add (pe_op op_mulW (pe_ix ix_tup (pv 0) pe_int (fun _ _ => rfl)) (pe_ix ix_tup (pv 1) pe_int (fun _ _ => rfl))) (pe_op op_mulW (pe_ix ix_tup (pv 1) pe_int (fun _ _ => rfl)) (pe_ix ix_tup (pv 0) pe_int (fun _ _ => rfl)))) (pa_cons (pe_op op_mulW (pe_ix ix_tup (pv 0) pe_int (fun _ _ => rfl)) (pe_ix ix_tup (pv 1) pe_int (fun _ _ => rfl))) pa_nil)))), ?_⟩
    refine ⟨.ref a, rfl, a, rp x, 0, .int x.num, rfl, rfl, hx, at0 x, .ref b, rfl, b, rp y, 1, .int (y.den : Int), rfl, rfl, hy, at1 y, _, _, rfl, rfl, wmul bx.1 by_.dn (by omega), .ref b, rfl, b, rp y, 0, .int y.num, rfl, rfl, hy, at0 y, .ref a, rfl, a, rp x, 1, .int (x.den : Int), rfl, rfl, hx, at1 x, _, _, rfl, rfl, wmul by_.1 bx.dn (by omega), _, _, rfl, rfl, .ref a, rfl, a, rp x, 1, .int (x.den : Int), rfl, rfl, hx, at1 x, .ref b, rfl, b, rp y, 1, .int (y.den : Int), rfl, rfl, hy, at1 y, _, _, rfl, rfl, wmul bx.dn by_.dn (by omega), _, _, n + m + 1, rfl, Fr.add_bd (Fr.mul_bd bx.1 by_.dn) (by rw [Nat.add_comm n m]; exact Fr.mul_bd by_.1 bx.dn), Fr.up (Fr.mul_bd bx.dn by_.dn) (Nat.le_succ _), Fr.dd_ne x y, by omega, fun p hp => ?_⟩
    have z := q p hp
    rw [Fr.add_eq]
    exact z

theorem scTotal : FnScope ["some", "start", "whole", "one"] ["some", "start"] (defScope sTotal) := ⟨rfl, rfl, rfl, by decide +kernel, rfl, by decide +kernel, by decide +kernel⟩
theorem ok_Total {f fP : Addr} {fd fdP : FuncData} {k : Nat} (F : FunD K "total" "total" (defArgs sTotal) (defBody sTotal) (defScope sTotal) [.non] [] f fd) (GP : FnOk P w K mg base CX0 k fP fdP ["one", "other"] (spBin K (· + ·))) (kP : PySem.W.keepIn K (.ref fP) = true) (bP : Binds K fdP ["one", "other"] []) (gP : mg "plus" = some (.ref fP)) :
    FnOk P w K mg base CX0 (k + 1) f fd ["some", "start"] (spTotal K) := by
  refine F.ok scTotal (fun vs H Q E h => ?_) (fun cdv A outer s H vs Q E hr h => ?_)
  · obtain ⟨l, cs, qs, n, rfl, _⟩ := h
    rfl
  · obtain ⟨l, cs, qs, n, rfl, hl, hf, hn, q⟩ := h
    refine ⟨_, PSs.nox (pss_cons (ps_set (i := 2) scTotal.nd rfl (.inl rfl) (pe_ifExp (pt_cmpR op_isN (pv 1) pe_non (nomark _)) (pe_tup (pa_cons pe_int (pa_cons pe_int pa_nil))) (pv 1)))
      (pss_cons (ps_for PassesOwn.never rfl (pi_list (pv 0)) (pg_name (i := 3) scTotal.nd rfl (.inl rfl)) (pss_one (ps_set (i := 2) scTotal.nd rfl (.inl rfl) (pe_call GP hr (by rfl) gP kP bP .nil pass0 (pa_cons (pv 2) (pa_cons (pv 3) pa_nil))))))
      (pss_one (ps_ret (pv 2))))), ?_⟩
    refine ⟨_, rfl, rfl, _, rfl, iteT ⟨(by show 2 ≤ sizeLine; decide), fun p hp => ?_⟩⟩
    have s1 := same_new hp (.tup (rp 0))
    refine ⟨_, rfl, l, rfl, ⟨_, s1.seq hl⟩, for_list (K := K) (a := l) (xs := cs) (fun i σ H' => ∃ (c : Addr) (y : Option V), σ = [some (.ref l), some .non, some (.ref c), y] ∧ Same H H' ∧ SqT K H' c (rp (qs.take i).sum) ∧ Bd ((n + 1) * i + 1) (qs.take i).sum)
      ⟨p, none, rfl, s1, SqT.of upd_same, ⟨by show (0 : Int).natAbs < 2 ^ 1; decide, by show 1 < 2 ^ 1; decide⟩⟩ (fun i σ H' _ ⟨_, _, _, s5, _⟩ => s5.seq hl) ?_ ?_⟩
    · rintro i v σ H' hi ⟨c, y, rfl, s5, hc5, hb5⟩
      obtain ⟨a, z, e1, rfl, e3, e4⟩ := hf.at_ i v hi
      have hil : i < qs.length := by
        rw [← hf.len]
        exact (List.getElem?_eq_some_iff.mp hi).1
      have hm : (n + 1) * i + (n + 1) ≤ (n + 1) * qs.length := by
        have := Nat.mul_le_mul_left (n + 1) (Nat.succ_le_of_lt hil)
        rw [Nat.mul_succ] at this
        exact this
      refine ⟨_, rfl, _, rfl, c, a, _, z, _, n, rfl, hc5, seqT s5 e3, hb5, e4, by omega, fun p hp => ?_⟩
      refine ⟨p, _, rfl, s5.trans (same_new hp _), ?_, ?_⟩
      · rw [sum_snoc' e1]
        exact SqT.of upd_same
      · rw [sum_snoc' e1]
        exact (Fr.bd_add hb5 e4).mono (by rw [Nat.mul_succ]; omega)
    · rintro σ H' ⟨c, y, rfl, s5, hc5, _⟩
      rw [hf.len, List.take_length] at hc5
      exact ⟨_, rfl, q c H' s5 hc5⟩
theorem scWhole : FnScope ["thing"] ["thing"] (defScope sWhole) := ⟨rfl, rfl, rfl, by decide +kernel, rfl, by decide +kernel, by decide +kernel⟩
theorem ok_WholeV {f : Addr} {fd : FuncData} {k : Nat} (F : Fun K "is_whole" "is_whole" sWhole f fd) (B : Blt mg) : FnOk P w K mg base CX0 (k + 1) f fd ["thing"] spWholeV := by
  refine F.ok scWhole (fun vs H Q E h => ?_) (fun cdv A outer s H vs Q E hr h => ?_)
  · obtain ⟨v, rfl, _⟩ := h
    rfl
  · obtain ⟨v, rfl, hv, q⟩ := h
    refine ⟨_, (pss_one (ps_ret (pe_and (pe_callB call_isi (by rfl) B.isinstance_ (by decide +kernel) (pa_cons (pv 0) (pa_cons (pe_bltn (v := .ty "int") (by rfl) B.int_ (by decide +kernel) rfl) pa_nil))) (pe_one (pe_not (pe_callB call_isi (by rfl) B.isinstance_ (by decide +kernel) (pa_cons (pv 0) (pa_cons (pe_bltn (v := .ty "bool") (by rfl) B.bool_ (by decide +kernel) rfl) pa_nil)))))))), ?_⟩
    rcases hv with ⟨i, rfl⟩ | rfl
    · refine ⟨_, rfl, _, _, _, _, true, rfl, .ty "int", .base (.int i), kit_ty (by decide +kernel), _, rfl, iteT ?_⟩
      exact ⟨_, rfl, _, _, _, _, false, rfl, .ty "bool", .base (.int i), kit_ty (by decide +kernel), _, rfl, q⟩
    · refine ⟨_, rfl, _, _, _, _, true, rfl, .ty "int", .base (.bl true), kit_ty (by decide +kernel), _, rfl, iteT ?_⟩
      exact ⟨_, rfl, _, _, _, _, true, rfl, .ty "bool", .base (.bl true), kit_ty (by decide +kernel), _, rfl, q⟩
theorem scIsR : FnScope ["thing", "top", "bottom"] ["thing"] (defScope sIsR) := ⟨rfl, rfl, rfl, by decide +kernel, rfl, by decide +kernel, by decide +kernel⟩
theorem ok_IsRC {f fW fD : Addr} {fd fdW fdD : FuncData} {k : Nat} (F : Fun K "is_ratio" "is_ratio" sIsR f fd) (GW : FnOk P w K mg base CX0 k fW fdW ["thing"] spWholeV) (kW : PySem.W.keepIn K (.ref fW) = true) (bW : Binds K fdW ["thing"] []) (gW : mg "is_whole" = some (.ref fW))
    (GD : FnOk P w K mg base CX0 k fD fdD ["one", "other"] spDiv) (kD : PySem.W.keepIn K (.ref fD) = true) (bD : Binds K fdD ["one", "other"] []) (gD : mg "divisor" = some (.ref fD)) (B : Blt mg) : FnOk P w K mg base CX0 (k + 1) f fd ["thing"] (spIsRC K) := by
  refine F.ok scIsR (fun vs H Q E h => ?_) (fun cdv A outer s H vs Q E hr h => ?_)
  · obtain ⟨v, o, d, rfl, _⟩ := h
    rfl
  · obtain ⟨v, o, d, rfl, hv, q⟩ := h
    refine ⟨_, (pss_cons (ps_if (PW.pt (pw_or (pt_not (pt_val (pe_callB call_isi (by rfl) B.isinstance_ (by decide +kernel) (pa_cons (pv 0) (pa_cons (pe_bltn (v := .ty "tuple") (by rfl) B.tuple_ (by decide +kernel) rfl) pa_nil))))) (pw_or1 (pt_cmpR op_ne (pe_callB call_len_seq (by rfl) B.len_ PySem.boot_len (pa_cons (pv 0) pa_nil)) pe_int (nomark _))))) (pss_one (ps_ret pe_bl)) pss_nil)
      (pss_cons (ps_asg (pv 0) (pg_tup (by rfl) (pgs_cons (pg_name (i := 1) scIsR.nd rfl (.inl rfl)) (pgs_cons (pg_name (i := 2) scIsR.nd rfl (.inl rfl)) pgs_nil))))
      (pss_cons (ps_if (PW.pt (pw_or (pt_not (pt_val (pe_call GW hr (by rfl) gW kW bW .nil pass0 (pa_cons (pv 1) pa_nil)))) (pw_or1 (pt_not (pt_val (pe_call GW hr (by rfl) gW kW bW .nil pass0 (pa_cons (pv 2) pa_nil))))))) (pss_one (ps_ret pe_bl)) pss_nil)
      (pss_one (ps_ret (pe_and (pe_cmpR op_ge (pv 2) pe_int (nomark _)) (pe_one (pe_cmpR op_eq (pe_call GD hr (by rfl) gD kD bD .nil pass0 (pa_cons (pv 1) (pa_cons (pv 2) pa_nil))) pe_int (nomark _))))))))), ?_⟩
    cases hv with
    | @fr a r ha hb =>
      refine ⟨_, rfl, _, _, _, _, true, rfl, .ty "tuple", tyT ha, kit_ty (by decide +kernel), _, rfl, iteF ?_⟩
      refine ⟨_, rfl, a, rp r, rfl, .inr ha, rfl, _, rfl, ?_⟩
      refine iteF ?_
      refine ⟨_, rfl, a, rp r, rfl, ha, rfl, _, _, rfl, _, _, rfl, rfl, ?_⟩
      refine ⟨_, rfl, _, rfl, .inl ⟨_, rfl⟩, true, rfl, iteF ?_⟩
      refine ⟨_, rfl, _, rfl, .inl ⟨_, rfl⟩, true, rfl, iteF ?_⟩
      have hd := Fr.den_pos r
      refine ⟨_, rfl, _, _, rfl, rfl, _, rfl, ?_⟩
      rw [if_pos (decide_eq_true (by omega))]
      refine ⟨_, rfl, _, rfl, _, _, rfl, rfl, ?_⟩
      rw [Fr.ratio_gcd]
      exact q
    | @tz a x y ha hb =>
      refine ⟨_, rfl, _, _, _, _, true, rfl, .ty "tuple", tyT ha, kit_ty (by decide +kernel), _, rfl, iteF ?_⟩
      refine ⟨_, rfl, a, [.int x, .int y], rfl, .inr ha, rfl, _, rfl, ?_⟩
      refine iteF ?_
      refine ⟨_, rfl, a, [.int x, .int y], rfl, ha, rfl, _, _, rfl, _, _, rfl, rfl, ?_⟩
      refine ⟨_, rfl, _, rfl, .inl ⟨_, rfl⟩, true, rfl, iteF ?_⟩
      refine ⟨_, rfl, _, rfl, .inl ⟨_, rfl⟩, true, rfl, iteF ?_⟩
      rcases hb with ⟨rfl, rfl⟩ | ⟨rfl, rfl⟩ | ⟨rfl, rfl⟩
      · refine ⟨_, rfl, _, _, rfl, rfl, _, rfl, ?_⟩
        rw [if_pos (by decide)]
        exact ⟨_, rfl, _, rfl, _, _, rfl, rfl, q⟩
      · refine ⟨_, rfl, _, _, rfl, rfl, _, rfl, ?_⟩
        rw [if_pos (by decide)]
        exact ⟨_, rfl, _, rfl, _, _, rfl, rfl, q⟩
      · refine ⟨_, rfl, _, _, rfl, rfl, _, rfl, ?_⟩
        rw [if_neg (by decide)]
        exact q
    | @tb a ha =>
      refine ⟨_, rfl, _, _, _, _, true, rfl, .ty "tuple", tyT ha, kit_ty (by decide +kernel), _, rfl, iteF ?_⟩
      refine ⟨_, rfl, a, [.bl true, .int 1], rfl, .inr ha, rfl, _, rfl, ?_⟩
      refine iteF ?_
      refine ⟨_, rfl, a, [.bl true, .int 1], rfl, ha, rfl, _, _, rfl, _, _, rfl, rfl, ?_⟩
      exact ⟨_, rfl, _, rfl, .inr rfl, false, rfl, iteT (iteT q)⟩
    | non => exact ⟨_, rfl, _, _, _, _, false, rfl, .ty "tuple", .base .non, kit_ty (by decide +kernel), _, rfl, iteT (iteT q)⟩
    | one => exact ⟨_, rfl, _, _, _, _, false, rfl, .ty "tuple", .base (.int _), kit_ty (by decide +kernel), _, rfl, iteT (iteT q)⟩
    | bl => exact ⟨_, rfl, _, _, _, _, false, rfl, .ty "tuple", .base (.bl _), kit_ty (by decide +kernel), _, rfl, iteT (iteT q)⟩
    | str => exact ⟨_, rfl, _, _, _, _, false, rfl, .ty "tuple", .base (.str _), kit_ty (by decide +kernel), _, rfl, iteT (iteT q)⟩
    | ls h => exact ⟨_, rfl, _, _, _, _, false, rfl, .ty "tuple", .base (.lst h), kit_ty (by decide +kernel), _, rfl, iteT (iteT q)⟩
theorem scShare : FnScope ["thing"] ["thing"] (defScope sShare) := ⟨rfl, rfl, rfl, by decide +kernel, rfl, by decide +kernel, by decide +kernel⟩
theorem ok_ShareC {f fR : Addr} {fd fdR : FuncData} {k : Nat} (F : Fun K "is_share" "is_share" sShare f fd) (GR : FnOk P w K mg base CX0 k fR fdR ["thing"] (spIsRC K)) (kR : PySem.W.keepIn K (.ref fR) = true) (bR : Binds K fdR ["thing"] []) (gR : mg "is_ratio" = some (.ref fR)) : FnOk P w K mg base CX0 (k + 1) f fd ["thing"] (spShareC K) := by
  refine F.ok scShare (fun vs H Q E h => ?_) (fun cdv A outer s H vs Q E hr h => ?_)
  · obtain ⟨v, o, d, rfl, _⟩ := h
    rfl
  · obtain ⟨v, o, d, rfl, hv, q⟩ := h
    refine ⟨_, (pss_one (ps_ret (pe_and (pe_call GR hr (by rfl) gR kR bR .nil pass0 (pa_cons (pv 0) pa_nil)) (pe_one (pe_cmpR op_ge (pe_ix ix_tup (pv 0) pe_int (fun _ _ => rfl)) pe_int (nomark _)))))), ?_⟩
    refine ⟨_, rfl, v, o, d, rfl, hv, _, rfl, ?_⟩
    cases o with
    | none => exact iteF q
    | some r =>
      cases hv with
      | @fr a _ ha hb => exact iteT ⟨_, rfl, a, rp r, 0, .int r.num, rfl, rfl, ha, at0 r, _, _, rfl, rfl, q⟩
theorem scListOf : FnScope ["thing", "least", "most"] ["thing", "least", "most"] (defScope sListOf) := ⟨rfl, rfl, rfl, by decide +kernel, rfl, by decide +kernel, by decide +kernel⟩
theorem ok_ListOfC {f : Addr} {fd : FuncData} {k : Nat} (F : Fun K "is_list_of" "is_list_of" sListOf f fd) (B : Blt mg) : FnOk P w K mg base CX0 (k + 1) f fd ["thing", "least", "most"] (spListOfC K) := by
  refine F.ok scListOf (fun vs H Q E h => ?_) (fun cdv A outer s H vs Q E hr h => ?_)
  · obtain ⟨v, o, lo, hi, rfl, _⟩ := h
    rfl
  · obtain ⟨v, o, lo, hi, rfl, hv, q⟩ := h
    refine ⟨_, (pss_one (ps_ret (pe_and (pe_callB call_isi (by rfl) B.isinstance_ (by decide +kernel) (pa_cons (pv 0) (pa_cons (pe_bltn (v := .ty "list") (by rfl) B.list_ (by decide +kernel) rfl) pa_nil))) (pe_one (pe_chain op_le op_le (pv 1) (pe_callB call_len_seq (by rfl) B.len_ PySem.boot_len (pa_cons (pv 0) pa_nil)) (pv 2)))))), ?_⟩
    cases hv with
    | @non v n ht hk => exact ⟨_, rfl, _, _, _, _, false, rfl, .ty "list", ht, kit_ty hk, _, rfl, iteF q⟩
    | @lst a xs ha =>
      have q' : Q (.bl (decide (lo ≤ (xs.length : Int)) && decide ((xs.length : Int) ≤ hi))) H := q
      refine ⟨_, rfl, _, _, _, _, true, rfl, .ty "list", .base (.lst ha), kit_ty (by decide +kernel), _, rfl, iteT ?_⟩
      refine ⟨_, rfl, _, rfl, a, xs, rfl, .inl (SqL.of ha), lo, _, rfl, rfl, _, rfl, ?_⟩
      by_cases h1 : lo ≤ (xs.length : Int)
      · rw [decide_eq_true h1] at q' ⊢
        refine iteT ⟨_, rfl, _, hi, rfl, rfl, ?_⟩
        rw [Bool.true_and] at q'
        exact q'
      · rw [decide_eq_false h1] at q' ⊢
        exact iteF q'
theorem scShRow : FnScope ["thing", "least", "most", "one"] ["thing", "least", "most"] (defScope sShRow) := ⟨rfl, rfl, rfl, by decide +kernel, rfl, by decide +kernel, by decide +kernel⟩
theorem all_map (os : List (Option Rat)) : (os.map shB).all id = os.all shB := by
  induction os with
  | nil => rfl
  | cons o os ih => rw [List.map_cons, List.all_cons, List.all_cons, ih]; rfl
theorem ok_ShRowC {f fL fS fT : Addr} {fd fdL fdS fdT : FuncData} {k : Nat} (F : Fun K "is_share_row" "is_share_row" sShRow f fd) (GL : FnOk P w K mg base CX0 k fL fdL ["thing", "least", "most"] (spListOfC K)) (kL : PySem.W.keepIn K (.ref fL) = true) (bL : Binds K fdL ["thing", "least", "most"] []) (gL : mg "is_list_of" = some (.ref fL))
    (GS : FnOk P w K mg base CX0 k fS fdS ["thing"] (spShareC K)) (kS : PySem.W.keepIn K (.ref fS) = true) (bS : Binds K fdS ["thing"] []) (gS : mg "is_share" = some (.ref fS))
    (GT : FnOk P w K mg base CX0 k fT fdT ["some", "start"] (spTotal K)) (kT : PySem.W.keepIn K (.ref fT) = true) (bT : ∃ ds, Vals [V.non] ds ∧ Binds K fdT ["some", "start"] ds) (gT : mg "total" = some (.ref fT)) (B : Blt mg) :
    FnOk P w K mg base CX0 (k + 1) f fd ["thing", "least", "most"] (spShRowC K) := by
  obtain ⟨ds, vd, bTd⟩ := bT
  refine F.ok scShRow (fun vs H Q E h => ?_) (fun cdv A outer s H vs Q E hr h => ?_)
  · obtain ⟨l, v, o, d, lo, hi, rfl, _⟩ := h
    rfl
  · obtain ⟨l, v, o, d, lo, hi, rfl, hv, hhi, q⟩ := h
    refine ⟨_, (pss_cons (ps_if (PW.pt (pw_or (pt_not (pt_val (pe_call GL hr (by rfl) gL kL bL .nil pass0 (pa_cons (pv 0) (pa_cons (pv 1) (pa_cons (pv 2) pa_nil)))))) (pw_or1 (pt_not (pt_val (pe_callB (cr_all rfl) (by rfl) B.all_ (by decide +kernel) (pa_cons (pe_lc (own := [("one", 3)]) (g := gName 3) (tt := tYes) (te := (tCall (spShareC K) [] E0 (tCons (tVar 3) tNil))) rfl scShRow.nd (pi_list (pv 0)) (blkOk_by (N := ["thing", "least", "most", "one"]) (sc := defScope sShRow) (by decide +kernel)) (fun _ _ _ _ _ => pg_name (i := 3) scShRow.nd rfl (Or.inl rfl)) (fun _ _ _ _ _ => pts_nil) (fun _ _ _ _ _ => (pe_call GS hr (by rfl) gS kS bS .nil pass0 (pa_cons (pv 3) pa_nil)))) pa_nil))))))) (pss_one (ps_ret pe_bl)) pss_nil)
      (pss_one (ps_ret (pe_cmpR (op_eqD hr.units) (pe_call GT hr (by rfl) gT kT bTd vd pass0 (pa_cons (pv 0) pa_nil)) (pe_tup (pa_cons pe_int (pa_cons pe_int pa_nil))) (nomark _))))), ?_⟩
    refine ⟨_, rfl, _, rfl, _, rfl, v, _, lo, hi, rfl, hv.lso, _, rfl, ?_⟩
    cases hv with
    | tup h hc hl => exact iteT (iteT (q _ (Same.refl _)))
    | non => exact iteT (iteT (q _ (Same.refl _)))
    | @lst r cs os dd hr0 hn hc hl =>
      have q' : ∀ H', Same H H' → Q (.bl (lenOk (some os.length) lo hi && (os.all shB && decide (sumO os = 1)))) H' := q
      show ite ((!lenOk (some os.length) lo hi) = true) _ _
      cases c0 : lenOk (some os.length) lo hi with
      | false =>
        rw [c0] at q'
        exact iteT (iteT (q' _ (Same.refl _)))
      | true =>
        rw [c0, Bool.true_and] at q'
        have hlen : os.length ≤ 30 := by
          have z : (decide (lo ≤ (os.length : Int)) && decide ((os.length : Int) ≤ hi)) = true := c0
          rw [Bool.and_eq_true, decide_eq_true_eq, decide_eq_true_eq] at z
          omega
        refine iteF ?_
        refine ⟨_, rfl, r, rfl, ⟨_, SqL.of hr0⟩, fun D hD => lc_list (K := K) (a := r) (xs := cs) (fun i H' => H' = upd H D (.lst (((os.take i).map shB).map V.bl))) rfl (fun i H' _ e => by rw [e]; exact SqL.of (same_new hD _ _ _ hr0)) ?_ ?_⟩
        · rintro i v H' hi rfl
          obtain ⟨o, d, e1, e2⟩ := hc.at_ hi
          refine ⟨rfl, ?_⟩
          unfold tYes
          dsimp only
          refine iteT ?_
          refine ⟨_, rfl, v, o, d, rfl, e2.same (same_new hD _), _, upd_same, ?_, ?_⟩
          · rw [List.length_map, List.length_map, List.length_take]
            exact small1000 (by omega)
          · rw [upd_upd, List.take_add_one, e1, List.map_append, List.map_append]
            rfl
        · rintro H' rfl
          rw [hc.len.1, List.take_length]
          refine ⟨D, os.map shB, rfl, SqL.of upd_same, ?_⟩
          rw [all_map]
          refine ⟨_, rfl, ?_⟩
          have s1 := same_new hD (.lst ((os.map shB).map V.bl))
          cases c1 : os.all shB with
          | false =>
            rw [c1] at q'
            exact iteT (q' _ s1)
          | true =>
            rw [c1, Bool.true_and] at q'
            refine iteF ?_
            obtain ⟨qs, e1, e2, e3⟩ := hc.good c1
            have el : qs.length = os.length := by rw [e1, List.length_map]
            have es : sumO os = qs.sum := by
              unfold sumO
              rw [e1, List.map_map]
              congr 1
              exact List.map_id _
            refine ⟨_, rfl, r, cs, qs, 8, rfl, SqL.of (s1 _ _ hr0), e2.same s1, by omega, fun rt H2 s2 e4 => ?_⟩
            refine ⟨(by show 2 ≤ sizeLine; decide), fun p hp => ?_⟩
            have s3 := same_new hp (.tup [V.int 1, V.int 1])
            refine ⟨dR qs.sum, dR 1, dp_r (seqT s3 e4), dp_r (q := 1) (SqT.of upd_same), dR_shaped _, dR_shaped _, ?_⟩
            rw [eqv_dR, ← es]
            exact q' _ ((s1.trans s2).trans s3)
theorem scWrong : FnScope ["rows", "is_row", "least", "most", "number", "row"] ["rows", "is_row", "least", "most"] (defScope sWrong) := ⟨rfl, rfl, rfl, by decide +kernel, rfl, by decide +kernel, by decide +kernel⟩
theorem ok_WrongC {f fR : Addr} {fd fdR : FuncData} {k : Nat} (F : Fun K "wrong_row" "wrong_row" sWrong f fd) (GR : FnOk P w K mg base CX0 k fR fdR ["thing", "least", "most"] (spShRowC K)) (kR : PySem.W.keepIn K (.ref fR) = true) (bR : Binds K fdR ["thing", "least", "most"] []) (B : Blt mg) : FnOk P w K mg base CX0 (k + 1) f fd ["rows", "is_row", "least", "most"] (spWrongC K fR) := by
  refine F.ok scWrong (fun vs H Q E h => ?_) (fun cdv A outer s H vs Q E hr h => ?_)
  · obtain ⟨l, a, rs, os, ds, rfl, _⟩ := h
    rfl
  · obtain ⟨l, a, rs, os, ds, rfl, ha, hw, q⟩ := h
    refine ⟨_, (pss_cons (ps_for PassesOwn.never rfl (pi_enum (by rfl) B.enumerate_ (pa_cons (pv 0) pa_nil)) (pg_tup rfl (pgs_cons (pg_name (i := 4) scWrong.nd rfl (.inl rfl)) (pgs_cons (pg_name (i := 5) scWrong.nd rfl (.inl rfl)) pgs_nil))) (pss_cons (ps_if (pt_not (pt_val (pe_callL (i := 1) GR hr rfl (.inl rfl) kR bR .nil pass0 (pa_cons (pv 5) (pa_cons (pv 2) (pa_cons (pv 3) pa_nil)))))) (pss_one (ps_ret (pv 4))) pss_nil)
      (pss_one (ps_asg2 (pe_callB call_len_seq (by rfl) B.len_ PySem.boot_len (pa_cons (pv 5) pa_nil)) (pg_name (i := 2) scWrong.nd rfl (.inl rfl)) (pg_name (i := 3) scWrong.nd rfl (.inl rfl))))))
      (pss_one (ps_ret pe_non))), ?_⟩
    refine ⟨_, rfl, a, _, rfl, SqL.of ha, for_it (walk_enum (K := K) (a := a) (xs := rs)) (fun i σ H' => ∃ (lo hi : Int) (y4 y5 : Option V), σ = [some (.ref a), some (.ref fR), some (.int lo), some (.int hi), y4, y5] ∧ Same H H' ∧ hi ≤ 30 ∧ firstWrong os 0 1 30 = firstWrong (os.drop i) i lo hi)
      ⟨1, 30, none, none, rfl, Same.refl _, Int.le_refl _, by rw [List.drop_zero]⟩ (fun i σ H' _ ⟨_, _, _, _, _, s5, _⟩ => SqL.of (s5 _ _ ha)) ?_ ?_⟩
    · rintro i x σ H1 H2 hi ⟨lo, hi', y4, y5, rfl, s5, h30, fw⟩ ⟨T, u, v, rfl, nT, rfl, e1, e2⟩
      have eu : u = .int (i : Nat) := (Option.some.inj e1).symm
      subst eu
      obtain ⟨o, d, f1, f2⟩ := hw.at_ e2
      have s6 := s5.trans (same_new nT (.tup [.int (i : Nat), v]))
      refine ⟨T, _, rfl, SqT.of upd_same, rfl, _, _, rfl, _, _, rfl, rfl, ?_⟩
      refine ⟨rfl, _, rfl, _, rfl, _, rfl, l, v, o, d, lo, hi', rfl, f2.same s6, h30, fun H3 s7 => ?_⟩
      rw [firstWrong_drop f1] at fw
      cases c : rowOk o lo hi' with
      | false =>
        rw [if_neg (by rw [c]; decide)] at fw
        rw [fw] at q
        exact ⟨_, rfl, iteT ⟨_, rfl, q _ (s6.trans s7)⟩⟩
      | true =>
        rw [if_pos c] at fw
        refine ⟨_, rfl, iteF ?_⟩
        cases f2 with
        | tup h hc hl => cases c
        | non => cases c
        | @lst r cs os' dd hr0 hn hc hl =>
          refine ⟨_, rfl, r, cs, rfl, .inl (SqL.of ((s6.trans s7) _ _ hr0)), ?_⟩
          have z : lenOk (some os'.length) lo hi' = true := by
            have z : (lenOk (some os'.length) lo hi' && (os'.all shB && decide (sumO os' = 1))) = true := c
            exact (Bool.and_eq_true _ _ ▸ z).1
          have z' : (decide (lo ≤ (os'.length : Int)) && decide ((os'.length : Int) ≤ hi')) = true := z
          rw [Bool.and_eq_true, decide_eq_true_eq, decide_eq_true_eq] at z'
          rw [hc.len.1]
          exact ⟨_, _, _, _, rfl, s6.trans s7, by omega, fw⟩
    · rintro σ H1 ⟨lo, hi', y4, y5, rfl, s5, _, fw⟩
      rw [hw.len.1, List.drop_length] at fw
      rw [fw] at q
      exact q H1 s5
theorem scCopied : FnScope ["rows", "row"] ["rows"] (defScope sCopied) := ⟨rfl, rfl, rfl, by decide +kernel, rfl, by decide +kernel, by decide +kernel⟩
theorem ok_Copied {f : Addr} {fd : FuncData} {k : Nat} (F : Fun K "copied_rows" "copied_rows" sCopied f fd) (B : Blt mg) : FnOk P w K mg base CX0 (k + 1) f fd ["rows"] (spCopied K) := by
  refine F.ok scCopied (fun vs H Q E h => ?_) (fun cdv A outer s H vs Q E hr h => ?_)
  · obtain ⟨a, rs, rss, n, rfl, _⟩ := h
    rfl
  · obtain ⟨a, rs, rss, n, rfl, hw, hlen, q⟩ := h
    refine ⟨_, pss_one (ps_ret (pe_lc (own := [("row", 1)]) (g := gName 1) (tt := tYes) (te := tCB (rListOf K) (tCons (tVar 1) tNil)) rfl scCopied.nd (pi_list (pv 0)) (blkOk_by (N := ["rows", "row"]) (sc := defScope sCopied) (by decide +kernel)) (fun _ _ _ _ _ => pg_name (i := 1) scCopied.nd rfl (Or.inl rfl)) (fun _ _ _ _ _ => pts_nil)
      (fun _ _ _ _ _ => pe_callTy (T := "list") call_list_of (by rfl) B.list_ (by decide +kernel) (pa_cons (pv 1) pa_nil)))), ?_⟩
    -- an address that stays out of the way: D itself
    refine ⟨_, rfl, a, rfl, ⟨_, SqL.of hw.1⟩, fun D hD => lc_list (K := K) (a := a) (xs := rs.map V.ref) (fun i H' => ∃ rs', rs'.length = i ∧ H' D = some (.lst (rs'.map V.ref)) ∧ rs'.Nodup ∧ D ∉ rs' ∧ (∀ x ∈ rs', H x = none) ∧ Same H H' ∧ RowsAt K H' n rs' (rss.take i))
      ⟨[], rfl, upd_same, List.nodup_nil, by simp, fun x hx => by simp at hx, same_new hD _, RowsAt.nil⟩ (fun i H' _ ⟨_, _, _, _, _, _, s5, _⟩ => SqL.of (s5 _ _ hw.1)) ?_ ?_⟩
    · rintro i v H' hi ⟨rs', hl', hD', nd', ne', fr', s5, ra⟩
      obtain ⟨r, er, rfl⟩ : ∃ r, rs[i]? = some r ∧ v = .ref r := by
        rw [List.getElem?_map] at hi
        cases e : rs[i]? with
        | none => rw [e] at hi; cases hi
        | some r => rw [e] at hi; exact ⟨r, rfl, (Option.some.inj hi).symm⟩
      obtain ⟨cs, qs, e3, e4, e5⟩ := hw.2.2 i r er
      refine ⟨rfl, ?_⟩
      unfold tYes
      dsimp only
      refine iteT ?_
      refine ⟨_, rfl, r, cs, rfl, .inl (SqL.of (s5 _ _ e4)), fun l hl => ?_⟩
      have s6 := same_new hl (.lst cs)
      have hlD : l ≠ D := fun e => by
        rw [e, hD'] at hl
        cases hl
      have hil : i < rss.length := (List.getElem?_eq_some_iff.mp e3).1
      refine ⟨_, s6 _ _ hD', ?_, rs' ++ [l], ?_, ?_, ?_, ?_, ?_, ?_, ?_⟩
      · rw [List.length_map]
        exact small1000 (by omega)
      · rw [List.length_append, hl']
        rfl
      · rw [upd_same, List.map_append]
        rfl
      · rw [List.nodup_append]
        refine ⟨nd', by simp, fun x hx y hy => ?_⟩
        have ey : y = l := by simpa using hy
        rw [ey]
        intro e
        obtain ⟨j, hj, ej⟩ := List.getElem_of_mem hx
        obtain ⟨c', q', _, z2, _⟩ := ra.2 j x (by rw [List.getElem?_eq_getElem hj, ej])
        rw [e, hl] at z2
        cases z2
      · intro hm
        rcases List.mem_append.mp hm with hm | hm
        · exact ne' hm
        · exact hlD (by simpa using hm : D = l).symm
      · intro x hx
        rcases List.mem_append.mp hx with hx | hx
        · exact fr' x hx
        · have ex : x = l := by simpa using hx
          rw [ex]
          exact s5.free hl
      · intro b u e
        rw [upd_ne (ne_of_none e hD)]
        exact s6 _ _ (s5 _ _ e)
      · have sD : SameB D (upd H' l (.lst cs)) (upd (upd H' l (.lst cs)) D (.lst (rs'.map V.ref ++ [V.ref l]))) := SameB.upd
        have t := ((ra.same s6).keep sD (s6 _ _ hD') ne').snoc (r := l) (cs := cs) (qs := qs) (by rw [upd_ne hlD, upd_same]) ((e5.same (s5.trans s6)).keep (sD.tup (s6 _ _ hD')))
        rw [List.take_add_one, e3]
        exact t
    · rintro H' ⟨rs', hl', hD', nd', ne', fr', s5, ra⟩
      rw [List.length_map, hw.2.1, List.take_length] at ra
      exact q D rs' H' ⟨⟨hD', ra⟩, nd', ne', hD, fr', s5⟩
end
end K9

set_option Elab.async false
set_option linter.all false
set_option maxRecDepth 100000
set_option maxHeartbeats 4000000
namespace K9
open PySem PySem.Spec PyProof.Rows L2 BX EXB Co Ru
open Rs (Rsp Rv Ret tYes_of dV datR Flat Okr spShares spRowsL)
open Fr (Bd)
structure RuT (K : PySem.W.Frag) (mg : Str → Option Value) (C fI fR : Addr) : Prop where
  cl : Cls K C
  gC : mg "Rule" = some (.ref C)
  nO : NoAttr K C "own_rows"
  mkC : Mk K C fI
  mR : Meth K C "rows" fR
  g5 : ∃ t, mg "MOST_WORLDS" = some (.int 5 t)
  g30 : ∃ t, mg "MOST_WORDS" = some (.int 30 t)
structure NrT (K : PySem.W.Frag) (mg : Str → Option Value) (C fI : Addr) : Prop where
  g : mg "NoRule" = some (.ref C)
  i : PySem.W.findIn K (.ref C) "__init__" = some (some (.ref fI))
  t : PySem.W.typeIn K (.ref fI) = some (.type "function")
  xf : XfC K C
  ex : ExcC K C
  o : OexC K C
  n : PySem.W.findIn K (.ref C) "world" = some none
  vV : PySem.W.findCls K (.type "ValueError") (.type "type") "__init__" = some (.val (.builtin "ValueError.__init__"))
  nn : PySem.W.exmOne K (.ref C) (.ref C) = some true
  kV : PySem.W.kitOne K (.ref C) (.type "ValueError") = some true
def badT (o : Option (List Ro)) : Option V :=
  match o with
  | none => some .non
  | some os => if lenOk (some os.length) 1 5 = true then (firstWrong os 0 1 30).map fun j => V.int (j : Nat) else some .non
abbrev sRs (rss : List (List Rat)) : List Ro := rss.map fun qs => some (qs.map some)
def spInitC (K : PySem.W.Frag) (C CN : Addr) : Sp := fun vs H Q E => ∃ (l x : Addr) (v : V) (o : Option (List Ro)) (d : PyData) (dx : Addr), vs = [.ref x, v] ∧ H x = some (.ins C dx []) ∧ Tg K H l v o d ∧
  (∀ r, badT o = some r → ∀ H' dd, Same H H' → H' dd = some (.xd [("world", r)]) → E (.ref CN) (some dd) H') ∧
  (badT o = none → ∀ ra rs' rss H', (∀ b ob, b ≠ x → H b = some ob → H' b = some ob) → H' x = some (.ins C dx [("own_rows", .ref ra)]) → RwL K H' ra rs' rss 8 → o = some (sRs rss) → Q .non H')
def spRRows (K : PySem.W.Frag) (C : Addr) : Sp := fun vs H Q _ => ∃ (x : Addr) (rss : List (List Rat)) (n : Nat), vs = [.ref x] ∧ IsRule K H C x rss n ∧ rss.length ≤ 100 ∧ ∀ D rs' H', Fresh K H H' D rs' rss n → Q (.ref D) H'
theorem rows_cons {K : PySem.W.Frag} {H : Hp} {n : Nat} {r : Addr} {rs : List Addr} {cs : List V} {qs : List Rat} {rss : List (List Rat)} (hr : H r = some (.lst cs)) (hf : FrN K H n cs qs) (h : RowsAt K H n rs rss) : RowsAt K H n (r :: rs) (qs :: rss) := by
  refine ⟨by rw [List.length_cons, List.length_cons, h.1], fun j x e => ?_⟩
  cases j with
  | zero => cases (Option.some.inj e); exact ⟨cs, qs, rfl, hr, hf⟩
  | succ j => exact h.2 j x e
theorem rowOk_all {os : List (Option Rat)} {lo hi : Int} (h : rowOk (some os) lo hi = true) : lenOk (some os.length) lo hi = true ∧ os.all shB = true ∧ sumO os = 1 := by
  have h' : (lenOk (some os.length) lo hi && (os.all shB && decide (sumO os = 1))) = true := h
  rw [Bool.and_eq_true, Bool.and_eq_true, decide_eq_true_eq] at h'
  exact h'
theorem rw_good {K : PySem.W.Frag} {H : Hp} {l : Addr} {vs : List V} {os : List Ro} {ds : List PyData} (h : RwL' K H l vs os ds) : ∀ {j : Nat} {lo hi : Int}, firstWrong os j lo hi = none → ∃ rs rss, vs = rs.map V.ref ∧ os = sRs rss ∧ RowsAt K H 8 rs rss := by
  induction h with
  | nil => intro j lo hi _; exact ⟨[], [], rfl, rfl, RowsAt.nil⟩
  | @cons v o d vs os ds h t ih =>
    intro j lo hi e
    rw [firstWrong] at e
    by_cases c : rowOk o lo hi = true
    · rw [if_pos c] at e
      obtain ⟨rs, rss, e1, e2, e3⟩ := ih e
      cases h with
      | tup h hc hl => cases c
      | non => cases c
      | @lst r cs os' dd hr0 hn hc hl =>
        obtain ⟨qs, f1, f2, _⟩ := hc.good (rowOk_all c).2.1
        exact ⟨r :: rs, qs :: rss, by rw [e1]; rfl, by rw [e2, f1]; rfl, rows_cons hr0 f2 e3⟩
    · rw [if_neg c] at e
      cases e
def resT (o : Option (List Ro)) : Rsp := (badT o).map fun r => [.str "none", .str (dV r).shown]
def spTold (K : PySem.W.Frag) : Sp := fun vs H Q _ => ∃ (l : Addr) (v : V) (o : Option (List Ro)) (d : PyData), vs = [v] ∧ Tg K H l v o d ∧ Ret Q H (resT o)
def spLIsSh (K : PySem.W.Frag) : Sp := fun vs H Q _ => ∃ (v : V) (o : Option Rat) (d : PyData), vs = [v] ∧ Cl K H v o d ∧ ∀ H', Same H H' → Q (.bl (shB o)) H'
section
variable {P : Program} {w : World} {K : PySem.W.Frag} {mg : Str → Option Value} {base : Heap} {C fI fRo CN fN : Addr}
theorem scNrInit : FnScope ["self", "world"] ["self", "world"] (defScope sNrInit) := ⟨rfl, rfl, rfl, by decide +kernel, rfl, by decide +kernel, by decide +kernel⟩
theorem ok_NrInit {fd : FuncData} {k : Nat} (F : Fun K "__init__" "NoRule.__init__" sNrInit fN fd) (T : NrT K mg CN fN) (B : Blt mg) : FnOk P w K mg base CX0 (k + 1) fN fd ["self", "world"] (spE1 CN "world") := by
  refine F.ok scNrInit (fun vs H Q E h => ?_) (fun cdv A outer s H vs Q E hr h => ?_)
  · obtain ⟨a, v, rfl, _⟩ := h
    rfl
  · obtain ⟨a, v, rfl, ha, q⟩ := h
    refine ⟨_, pss_cons (ps_expr (pe_veinit (by rfl) B.ValueError_ T.vV (pa_cons (pv 0) (pa_cons pe_str pa_nil)))) (pss_one (ps_ost (pv 0) (pv 1))), ?_⟩
    refine ⟨_, rfl, a, CN, _, rfl, (by show 1 ≤ 1000; decide), T.o, ha, ?_⟩
    exact ⟨_, rfl, _, rfl, a, CN, rfl, T.o, T.n, .inl ⟨ha, q⟩⟩
theorem scRInit : FnScope ["self", "rows", "wrong"] ["self", "rows"] (defScope sRInit) := ⟨rfl, rfl, rfl, by decide +kernel, rfl, by decide +kernel, by decide +kernel⟩
theorem ok_RInitC {fd fdL fdW fdC fdN : FuncData} {fL fW fC fR : Addr} {k : Nat} (F : Fun K "__init__" "Rule.__init__" sRInit fI fd) (T : RuT K mg C fI fRo) (N : NrT K mg CN fN) (GN : FnOk P w K mg base CX0 k fN fdN ["self", "world"] (spE1 CN "world")) (bN : Binds K fdN ["self", "world"] [])
    (GL : FnOk P w K mg base CX0 k fL fdL ["thing", "least", "most"] (spListOfC K)) (kL : PySem.W.keepIn K (.ref fL) = true) (bL : Binds K fdL ["thing", "least", "most"] []) (gL : mg "is_list_of" = some (.ref fL))
    (GW : FnOk P w K mg base CX0 k fW fdW ["rows", "is_row", "least", "most"] (spWrongC K fR)) (kW : PySem.W.keepIn K (.ref fW) = true) (bW : Binds K fdW ["rows", "is_row", "least", "most"] []) (gW : mg "wrong_row" = some (.ref fW)) (gR : mg "is_share_row" = some (.ref fR))
    (GC : FnOk P w K mg base CX0 k fC fdC ["rows"] (spCopied K)) (kC : PySem.W.keepIn K (.ref fC) = true) (bC : Binds K fdC ["rows"] []) (gC : mg "copied_rows" = some (.ref fC)) : FnOk P w K mg base (L2.CX P w) (k + 2) fI fd ["self", "rows"] (spInitC K C CN) := by
  obtain ⟨t5, g5⟩ := T.g5
  obtain ⟨t30, g30⟩ := T.g30
  refine F.okX scRInit (fun vs H Q E h => ?_) (fun cdv A outer s H vs Q E hr h => ?_)
  · obtain ⟨l, x, v, o, d, dx, rfl, _⟩ := h
    rfl
  · obtain ⟨l, x, v, o, d, dx, rfl, hx, hv, qE, q⟩ := h
    have hk : Room k _ := hr.mono (by omega)
    refine ⟨_, (pss_cons (ps_if (pt_not (pt_val (pe_call GL hk (by rfl) gL kL bL .nil pass0 (pa_cons (pv 1) (pa_cons pe_int (pa_cons (pe_glob (v := .int 5) (by rfl) g5 ⟨_, rfl⟩) pa_nil)))))) (pss_one (ps_raise (W := fun cls d _ H' => E cls d H') rfl (takes_of rfl rfl rfl rfl) (pmk_oex N.o N.i N.t GN hr bN .nil pass0 (by rfl) N.g (pa_cons pe_non pa_nil)))) pss_nil)
      (pss_cons (ps_set (i := 2) scRInit.nd rfl (.inl rfl) (pe_call GW hk (by rfl) gW kW bW .nil pass0 (pa_cons (pv 1) (pa_cons (pe_glob (v := .ref fR) (by rfl) gR rfl) (pa_cons pe_int (pa_cons (pe_glob (v := .int 30) (by rfl) g30 ⟨_, rfl⟩) pa_nil))))))
      (pss_cons (ps_if (pt_cmpR op_notN (pv 2) pe_non (nomark _)) (pss_one (ps_raise (W := fun cls d _ H' => E cls d H') rfl (takes_of rfl rfl rfl rfl) (pmk_oex N.o N.i N.t GN hr bN .nil pass0 (by rfl) N.g (pa_cons (pv 2) pa_nil)))) pss_nil)
      (PSs.nox (pss_one (ps_fld (pv 0) (pe_call GC hk (by rfl) gC kC bC .nil pass0 (pa_cons (pv 1) pa_nil)) rfl)))))), ?_⟩
    refine ⟨_, rfl, v, _, 1, 5, rfl, hv.lso, _, rfl, ?_⟩
    have bad : badT o = some .non → (ite ((!false) = true) ([V.non].length ≤ 1000 ∧ ∀ a, H a = none → spE1 CN "world" (.ref a :: ([V.non] ++ [])) (upd H a (exo a CN none)) (fun v H2 => v = .non ∧ ∃ (d : Addr) (fs : List (Str × V)), H2 a = some (exo a CN (some d)) ∧ H2 d = some (exd d fs) ∧ H d = none ∧ E (.ref CN) (some d) (upd (del H2 a) d (.xd fs))) (fun _ _ _ => False)) True) := fun e => iteT (mk1 fun dd hdd => qE _ e _ dd (same_new hdd _) upd_same)
    cases hv with
    | tup h hc hl => exact iteT (mk1 fun dd hdd => qE _ rfl _ dd (same_new hdd _) upd_same)
    | non => exact iteT (mk1 fun dd hdd => qE _ rfl _ dd (same_new hdd _) upd_same)
    | zero => exact iteT (mk1 fun dd hdd => qE _ rfl _ dd (same_new hdd _) upd_same)
    | str => exact iteT (mk1 fun dd hdd => qE _ rfl _ dd (same_new hdd _) upd_same)
    | dct h => exact iteT (mk1 fun dd hdd => qE _ rfl _ dd (same_new hdd _) upd_same)
    | @lst a rs os ds ha hn hw hl =>
      have eb : badT (some os) = if lenOk (some os.length) 1 5 = true then (firstWrong os 0 1 30).map fun j => V.int (j : Nat) else some .non := rfl
      show ite ((!lenOk (some os.length) 1 5) = true) _ _
      cases c0 : lenOk (some os.length) 1 5 with
      | false =>
        rw [c0, if_neg (by decide)] at eb
        exact iteT (mk1 fun dd hdd => qE _ eb _ dd (same_new hdd _) upd_same)
      | true =>
        rw [c0, if_pos rfl] at eb
        refine iteF ?_
        refine ⟨_, rfl, l, a, rs, os, ds, rfl, ha, hw, fun H1 s1 => ?_⟩
        cases fw : firstWrong os 0 1 30 with
        | some j =>
          rw [fw] at eb
          refine ⟨_, rfl, rfl, _, rfl, iteT ?_⟩
          exact ⟨_, rfl, mk1 fun dd hdd => qE _ eb _ dd (s1.trans (same_new hdd _)) upd_same⟩
        | none =>
          rw [fw] at eb
          refine ⟨_, rfl, rfl, _, rfl, iteF ?_⟩
          obtain ⟨rs', rss, e1, e2, e3⟩ := rw_good hw fw
          have hlr : rss.length ≤ 100 := by
            have z : (decide ((1 : Int) ≤ (os.length : Int)) && decide ((os.length : Int) ≤ 5)) = true := c0
            rw [Bool.and_eq_true, decide_eq_true_eq, decide_eq_true_eq, e2, List.length_map] at z
            omega
          have hwl : RwL K H a rs' rss 8 := ⟨by rw [← e1]; exact ha, e3⟩
          refine ⟨_, rfl, a, rs', rss, 8, rfl, hwl.same s1, hlr, fun D' rs'' H2 fr => ?_⟩
          have s2 := s1.trans fr.2.2.2.2.2
          refine ⟨_, rfl, x, C, dx, [], rfl, s2 _ _ hx, T.cl, T.nO, by decide, ?_⟩
          refine q eb D' rs'' rss _ (fun b ob hb e => ?_) upd_same (Rs.RwL.ins fr.1 (s2 _ _ hx)) (by rw [e2])
          rw [upd_ne hb]
          exact s2 _ _ e
theorem scRRows : FnScope ["self"] ["self"] (defScope sRRows) := ⟨rfl, rfl, rfl, by decide +kernel, rfl, by decide +kernel, by decide +kernel⟩
theorem ok_RRows {fd : FuncData} {f : Addr} {k : Nat} (F : Fun K "rows" "Rule.rows" sRRows f fd) (T : RuT K mg C fI fRo) {fdC : FuncData} {fC : Addr} (GC : FnOk P w K mg base CX0 k fC fdC ["rows"] (spCopied K)) (kC : PySem.W.keepIn K (.ref fC) = true) (bC : Binds K fdC ["rows"] []) (gC : mg "copied_rows" = some (.ref fC)) (B : Blt mg) : FnOk P w K mg base CX0 (k + 1) f fd ["self"] (spRRows K C) := by
  refine F.ok scRRows (fun vs H Q E h => ?_) (fun cdv A outer s H vs Q E hr h => ?_)
  · obtain ⟨x, rss, n, rfl, _⟩ := h
    rfl
  · obtain ⟨x, rss, n, rfl, ⟨dx, ra, rs, hx, hw⟩, hl, q⟩ := h
    refine ⟨_, (pss_one (ps_ret (pe_call GC hr (by rfl) gC kC bC .nil pass0 (pa_cons (pe_fld (pv 0) rfl) pa_nil)))), ?_⟩
    exact ⟨_, rfl, x, C, dx, _, .ref ra, rfl, hx, T.cl, T.nO, rfl, ra, rs, rss, n, rfl, hw, hl, q⟩
theorem scLeft : FnScope ["_law_cell", "_law_left_here", "_law_number", "_law_turn"] ["_law_cell"] (defScope sLeft) := ⟨rfl, rfl, rfl, by decide +kernel, rfl, by decide +kernel, by decide +kernel⟩
theorem ok_left {f : Addr} {fd : FuncData} {k : Nat} (F : Fun K "_law_left" "_law_left" sLeft f fd) (B : Blt mg) : FnOk P w K mg base CX0 (k + 1) f fd ["_law_cell"] spLeft := by
  refine F.ok scLeft (fun vs H Q E h => ?_) (fun cdv A outer s H vs Q E hr h => ?_)
  · obtain ⟨c, rfl, _⟩ := h
    rfl
  · obtain ⟨c, rfl, q⟩ := h
    refine ⟨_, pss_cons (ps_set (i := 1) scLeft.nd rfl (.inl rfl) (pe_callB call_abs (by rfl) B.abs_ (by decide +kernel) (pa_cons (pv 0) pa_nil)))
      (pss_cons (ps_if (pt_cmpR op_lt (pv 1) (pe_op op_pow pe_int pe_int) (nomark _))
        (pss_cons (ps_set (i := 2) scLeft.nd rfl (.inl rfl) (pv 0))
        (pss_one (ps_for PassesOwn.never rfl (pi_range1 (by rfl) B.range_ (pa_cons pe_int pa_nil)) (pg_name (i := 3) scLeft.nd rfl (.inl rfl))
          (pss_cons (ps_set (i := 2) scLeft.nd rfl (.inl rfl) (pe_op op_mod (pe_op op_mul (pe_op op_add (pe_op op_mod (pv 2) pe_int) pe_int) pe_int) pe_int))
          (pss_cons (ps_set (i := 2) scLeft.nd rfl (.inl rfl) (pe_op op_add (pe_op op_mod (pe_op op_mul (pv 2) pe_int) pe_int) (pv 3)))
          (pss_one (ps_set (i := 1) scLeft.nd rfl (.inl rfl) (pe_op op_add (pe_op op_mul (pv 1) pe_int) (pv 2)))))))))
        pss_nil)
      (pss_one (ps_ret (pe_lst (pa_cons (pv 1) pa_nil))))), ?_⟩
    refine ⟨_, rfl, c, rfl, ?_⟩
    refine ⟨_, rfl, 10, 18, rfl, rfl, ⟨by decide, by decide, by decide⟩, _, _, rfl, rfl, _, rfl, ite2 (fun z => ?_) (fun z => ?_)⟩
    · refine ⟨_, rfl, 40, rfl, by decide, by decide, for_range (lo := 0) (n := 40) (fun i σ H' => ∃ (n m : Int) (y : Option V), σ = [some (.int c), some (.int n), some (.int m), y] ∧ H' = H) ⟨_, _, none, rfl, rfl⟩ ?_ ?_⟩
      · rintro i σ H' hi ⟨n, m, y, rfl, rfl⟩
        refine ⟨_, rfl, _, _, rfl, rfl, (by show (0 : Int) < 2147483629; decide), _, _, rfl, rfl, _, _, rfl, rfl, .inr ⟨by decide, by decide⟩, _, _, rfl, rfl, (by show (0 : Int) < 2147483629; decide), ?_⟩
        refine ⟨_, rfl, _, _, rfl, rfl, .inr ⟨by decide, by decide⟩, _, _, rfl, rfl, (by show (0 : Int) < 2147483647; decide), _, rfl, _, _, rfl, rfl, ?_⟩
        refine ⟨_, rfl, _, _, rfl, rfl, .inr ⟨by decide, by decide⟩, _, rfl, _, _, rfl, rfl, ?_⟩
        exact ⟨_, _, _, rfl, rfl⟩
      · rintro σ H' ⟨n, m, y, rfl, rfl⟩
        exact ⟨_, rfl, (by show 1 ≤ sizeLine; decide), fun p hp => q p n hp⟩
    · exact ⟨_, rfl, (by show 1 ≤ sizeLine; decide), fun p hp => q p _ hp⟩
theorem scDigit : FnScope ["_law_left_here", "_law_many", "_law_found"] ["_law_left_here", "_law_many"] (defScope sDigit) := ⟨rfl, rfl, rfl, by decide +kernel, rfl, by decide +kernel, by decide +kernel⟩
theorem ok_digit {f : Addr} {fd : FuncData} {k : Nat} (F : Fun K "_law_digit" "_law_digit" sDigit f fd) : FnOk P w K mg base CX0 (k + 1) f fd ["_law_left_here", "_law_many"] spDigit := by
  refine F.ok scDigit (fun vs H Q E h => ?_) (fun cdv A outer s H vs Q E hr h => ?_)
  · obtain ⟨l, n, m, rfl, _⟩ := h
    rfl
  · obtain ⟨l, n, m, rfl, hl, hm, hmb, q⟩ := h
    refine ⟨_, pss_cons (ps_set (i := 2) scDigit.nd rfl (.inl rfl) (pe_op op_mod (pe_ix ix_list (pv 0) pe_int (fun _ _ => rfl)) (pv 1)))
      (pss_cons (ps_asg (pe_op op_fdivW (pe_ix ix_list (pv 0) pe_int (fun _ _ => rfl)) (pv 1)) (pg_sub (pv 0) pe_int set_list))
      (pss_one (ps_ret (pv 2)))), ?_⟩
    refine ⟨_, rfl, l, _, 0, .int n, rfl, rfl, SqL.of hl, atI_nat (j := 0) rfl, _, rfl, _, _, rfl, rfl, hm, ?_⟩
    refine ⟨_, rfl, l, _, 0, .int n, rfl, rfl, SqL.of hl, atI_nat (j := 0) rfl, _, rfl, _, _, rfl, rfl, wide_div hm hmb (by decide) (by decide), ?_⟩
    refine ⟨_, rfl, l, _, 0, 0, rfl, rfl, hl, rfl, ?_⟩
    exact ⟨_, rfl, q _ _ (Int.emod_nonneg _ (by omega)) (Int.emod_lt_of_pos _ hm)⟩
theorem scLow : FnScope ["_law_top", "_law_bottom", "_law_one", "_law_other"] ["_law_top", "_law_bottom"] (defScope sLow) := ⟨rfl, rfl, rfl, by decide +kernel, rfl, by decide +kernel, by decide +kernel⟩
theorem ok_low {f : Addr} {fd : FuncData} {k : Nat} (F : Fun K "_law_low" "_law_low" sLow f fd) (B : Blt mg) : FnOk P w K mg base CX0 (k + 1) f fd ["_law_top", "_law_bottom"] spLow := by
  refine F.ok scLow (fun vs H Q E h => ?_) (fun cdv A outer s H vs Q E hr h => ?_)
  · obtain ⟨a, b, n, rfl, _⟩ := h
    rfl
  · obtain ⟨t, b, n, rfl, ht, hb, h0, hn, q⟩ := h
    refine ⟨_, pss_cons (ps_set (i := 2) scLow.nd rfl (.inl rfl) (pe_callB call_abs (by rfl) B.abs_ (by decide +kernel) (pa_cons (pv 0) pa_nil)))
      (pss_cons (ps_set (i := 3) scLow.nd rfl (.inl rfl) (pe_callB call_abs (by rfl) B.abs_ (by decide +kernel) (pa_cons (pv 1) pa_nil)))
      (pss_cons (ps_while PassesOwn.never (pt_cmpR op_gt (pv 3) pe_int (nomark _))
        (pss_one (ps_par (i := 2) (j := 3) (by rfl) scLow.nd rfl rfl (by decide) rfl rfl (pa_cons (pv 3) (pa_cons (pe_op op_modN (pv 2) (pv 3)) pa_nil)) (by rfl))))
      (pss_cons (ps_if (pt_cmpR op_lt (pv 1) pe_int (nomark _)) (pss_one (ps_set (i := 2) scLow.nd rfl (.inl rfl) (pe_op op_sub pe_int (pv 2)))) pss_nil)
      (pss_one (ps_ret (pe_tup (pa_cons (pe_op op_fdivZ (pv 0) (pv 2)) (pa_cons (pe_op op_fdivZ (pv 1) (pv 2)) pa_nil)))))))), ?_⟩
    have hg := Fr.gcd_pos (t := t) h0
    have hgb := gcd_bd (t := t) h0 hb
    have hn0 : 0 < n := by
      cases n with
      | zero => simp at hb; omega
      | succ n => omega
    refine ⟨_, rfl, t, rfl, ?_⟩
    refine ⟨_, rfl, b, rfl, ?_⟩
    rw [abs_eq, abs_eq]
    refine ⟨fun m σ H' => ∃ x y : Int, σ = [some (.int t), some (.int b), some (.int x), some (.int y)] ∧ 0 ≤ x ∧ 0 ≤ y ∧ m = y.natAbs ∧ Int.gcd x y = Int.gcd t b ∧ H' = H,
      ⟨_, (t.natAbs : Int), (b.natAbs : Int), rfl, by omega, by omega, rfl, ?_, rfl⟩, ?_⟩
    · rw [Int.gcd, Int.gcd, Int.natAbs_natCast, Int.natAbs_natCast]
    rintro m σ H' ⟨x, y, rfl, hx, hy, rfl, hgg, rfl⟩
    refine ⟨_, rfl, y, 0, rfl, rfl, _, rfl, ite2 (fun c => ?_) (fun c => ?_)⟩
    · have hy0 : 0 < y := of_decide_eq_true c
      refine ⟨fun σ' H'' => ∃ x' y' : Int, σ' = [some (.int t), some (.int b), some (.int x'), some (.int y')] ∧ 0 ≤ x' ∧ 0 ≤ y' ∧ y'.natAbs < y.natAbs ∧ Int.gcd x' y' = Int.gcd t b ∧ H'' = H', ?_, ?_⟩
      · rintro σ' H'' ⟨x', y', e1, e2, e3, e4, e5, e6⟩
        exact ⟨y'.natAbs, e4, x', y', e1, e2, e3, rfl, e5, e6⟩
      · refine ⟨.int y, rfl, .int x, rfl, .int y, rfl, x, y, rfl, rfl, (by omega : y ≠ 0), _, _, rfl, y, _, rfl, hy, Int.fmod_nonneg_of_pos x hy0, Fr.fmod_abs x (by omega), ?_, rfl⟩
        rw [Fr.gcd_step]
        exact hgg
    · have hy0 : y = 0 := by
        have : ¬ 0 < y := of_decide_eq_false (Bool.eq_false_iff.mpr c)
        omega
      subst hy0
      rw [Int.gcd_zero_right] at hgg
      have ex : x = (Int.gcd t b : Int) := by omega
      subst ex
      refine ⟨_, rfl, b, 0, rfl, rfl, _, rfl, ite2 (fun c2 => ?_) (fun c2 => ?_)⟩
      · have hb0 : b < 0 := of_decide_eq_true c2
        refine ⟨_, rfl, 0, _, rfl, rfl, ?_⟩
        have d : ∀ i : Int, CDivZ i (0 - (Int.gcd t b : Int)) := fun i => divZ (n := n) (by omega) (by rw [Int.zero_sub, Int.natAbs_neg]; exact hgb) hn0 (by omega)
        refine ⟨_, rfl, _, rfl, t, _, rfl, rfl, d _, _, rfl, _, rfl, b, _, rfl, rfl, d _, (by show 2 ≤ sizeLine; decide), fun p hp => ?_⟩
        have z := q p hp
        rw [rp, ← Fr.lowN_num hb0, ← Fr.lowN_den hb0] at z
        rw [Int.zero_sub]
        exact z
      · have hb0 : 0 < b := by
          have : ¬ b < 0 := of_decide_eq_false (Bool.eq_false_iff.mpr c2)
          omega
        have d : ∀ i : Int, CDivZ i (Int.gcd t b : Int) := fun i => divZ (n := n) (by omega) hgb hn0 (by omega)
        refine ⟨_, rfl, _, rfl, t, _, rfl, rfl, d _, _, rfl, _, rfl, b, _, rfl, rfl, d _, (by show 2 ≤ sizeLine; decide), fun p hp => ?_⟩
        have z := q p hp
        rw [rp, ← Fr.low_num hb0, ← Fr.low_den hb0] at z
        exact z

theorem scLPlus : FnScope ["_law_one", "_law_other"] ["_law_one", "_law_other"] (defScope sLPlus) := ⟨rfl, rfl, rfl, by decide +kernel, rfl, by decide +kernel, by decide +kernel⟩
theorem ok_LPlus {f fC : Addr} {fd fdC : FuncData} {k : Nat} (F : Fun K "_law_plus" "_law_plus" sLPlus f fd) (GC : FnOk P w K mg base CX0 k fC fdC ["_law_top", "_law_bottom"] spLow) (kC : PySem.W.keepIn K (.ref fC) = true) (bC : Binds K fdC ["_law_top", "_law_bottom"] []) (gC : mg "_law_low" = some (.ref fC)) :
    FnOk P w K mg base CX0 (k + 1) f fd ["_law_one", "_law_other"] (spBin K (· + ·)) := by
  refine F.ok scLPlus (fun vs H Q E h => ?_) (fun cdv A outer s H vs Q E hr h => ?_)
  · obtain ⟨a, b, x, y, n, m, rfl, _⟩ := h
    rfl
  · obtain ⟨a, b, x, y, n, m, rfl, hx, hy, bx, by_, hn, q⟩ := h
    refine ⟨_, pss_one (ps_ret (pe_call GC hr (by rfl) gC kC bC .nil pass0 (pa_cons (pe_op op_add (pe_op op_mulW (pe_ix ix_tup (pv 0) pe_int (fun _ _ => rfl)) (pe_ix ix_tup (pv 1) pe_int (fun _ _ => rfl))) (pe_op op_mulW (pe_ix ix_tup (pv 1) pe_int (fun _ _ => rfl)) (pe_ix ix_tup (pv 0) pe_int (fun _ _ => rfl)))) (pa_cons (pe_op op_mulW (pe_ix ix_tup (pv 0) pe_int (fun _ _ => rfl)) (pe_ix ix_tup (pv 1) pe_int (fun _ _ => rfl))) pa_nil)))), ?_⟩
    refine ⟨.ref a, rfl, a, rp x, 0, .int x.num, rfl, rfl, hx, at0 x, .ref b, rfl, b, rp y, 1, .int (y.den : Int), rfl, rfl, hy, at1 y, _, _, rfl, rfl, wmul bx.1 by_.dn (by omega), .ref b, rfl, b, rp y, 0, .int y.num, rfl, rfl, hy, at0 y, .ref a, rfl, a, rp x, 1, .int (x.den : Int), rfl, rfl, hx, at1 x, _, _, rfl, rfl, wmul by_.1 bx.dn (by omega), _, _, rfl, rfl, .ref a, rfl, a, rp x, 1, .int (x.den : Int), rfl, rfl, hx, at1 x, .ref b, rfl, b, rp y, 1, .int (y.den : Int), rfl, rfl, hy, at1 y, _, _, rfl, rfl, wmul bx.dn by_.dn (by omega), _, _, n + m + 1, rfl, Fr.add_bd (Fr.mul_bd bx.1 by_.dn) (by rw [Nat.add_comm n m]; exact Fr.mul_bd by_.1 bx.dn), Fr.up (Fr.mul_bd bx.dn by_.dn) (Nat.le_succ _), Fr.dd_ne x y, by omega, fun p hp => ?_⟩
    have z := q p hp
    rw [Fr.add_eq]
    exact z
theorem scShares : FnScope ["_law_left_here", "_law_many", "_law_some", "_law_k", "_law_one"] ["_law_left_here", "_law_many"] (defScope sShares) := ⟨rfl, rfl, rfl, by decide +kernel, rfl, by decide +kernel, by decide +kernel⟩
theorem ok_Shares {f fD fL : Addr} {fd fdD fdL : FuncData} {k : Nat} (F : Fun K "_law_shares" "_law_shares" sShares f fd) (GD : FnOk P w K mg base CX0 k fD fdD ["_law_left_here", "_law_many"] spDigit) (kD : PySem.W.keepIn K (.ref fD) = true) (bD : Binds K fdD ["_law_left_here", "_law_many"] []) (gD : mg "_law_digit" = some (.ref fD))
    (GL : FnOk P w K mg base CX0 k fL fdL ["_law_top", "_law_bottom"] spLow) (kL : PySem.W.keepIn K (.ref fL) = true) (bL : Binds K fdL ["_law_top", "_law_bottom"] []) (gL : mg "_law_low" = some (.ref fL)) (B : Blt mg) : FnOk P w K mg base CX0 (k + 1) f fd ["_law_left_here", "_law_many"] (spShares K) := by
  refine F.ok scShares (fun vs H Q E h => ?_) (fun cdv A outer s H vs Q E hr h => ?_)
  · obtain ⟨l, z, m, rfl, _⟩ := h
    rfl
  · obtain ⟨l, z, m, rfl, hl, h1, h30, q⟩ := h
    refine ⟨_, pss_cons (ps_set (i := 2) scShares.nd rfl (.inr rfl) (pe_lc (own := [("_law_k", 3)]) (g := gName 3) (tt := tYes) (te := tOp (rIxL K) (tLst (tCons (tC (.int 0)) (tCons (tC (.int 1)) (tCons (tC (.int 1)) (tCons (tC (.int 2)) (tCons (tC (.int 3)) (tCons (tC (.int 5)) tNil))))))) (tCall spDigit [] E0 (tCons (tVar 0) (tCons (tC (.int 6)) tNil)))) rfl scShares.nd (pi_range1 (by rfl) B.range_ (pa_cons (pv 1) pa_nil))
        (blkOk_by (N := ["_law_left_here", "_law_many", "_law_some", "_law_k", "_law_one"]) (sc := defScope sShares) (by decide +kernel)) (fun _ _ _ _ _ => pg_name (i := 3) scShares.nd rfl (Or.inl rfl)) (fun _ _ _ _ _ => pts_nil)
        (fun _ _ _ _ _ => pe_ix ix_list (pe_lst (pa_cons pe_int (pa_cons pe_int (pa_cons pe_int (pa_cons pe_int (pa_cons pe_int (pa_cons pe_int pa_nil))))))) (pe_call GD hr (by rfl) gD kD bD .nil pass0 (pa_cons (pv 0) (pa_cons pe_int pa_nil))) (fun _ _ => rfl))))
      (pss_cons (ps_augS (pv 2) (pe_call GD hr (by rfl) gD kD bD .nil pass0 (pa_cons (pv 0) (pa_cons (pv 1) pa_nil))) Rs.pget_list pe_int ip_add set_list)
      (pss_one (ps_ret (pe_lc (own := [("_law_one", 4)]) (g := gName 4) (tt := tYes) (te := tCall spLow [] E0 (tCons (tVar 4) (tCons (tCB (rSum K) (tCons (tVar 2) tNil)) tNil))) rfl scShares.nd (pi_list (pv 2))
        (blkOk_by (N := ["_law_left_here", "_law_many", "_law_some", "_law_k", "_law_one"]) (sc := defScope sShares) (by decide +kernel)) (fun _ _ _ _ _ => pg_name (i := 4) scShares.nd rfl (Or.inl rfl)) (fun _ _ _ _ _ => pts_nil)
        (fun _ _ _ _ _ => pe_call GL hr (by rfl) gL kL bL .nil pass0 (pa_cons (pv 4) (pa_cons (pe_callB (id := "sum") (cr_sum rfl) (by rfl) B.sum_ (by decide +kernel) (pa_cons (pv 2) pa_nil)) pa_nil))))))), ?_⟩
    -- the numbers
    refine ⟨_, rfl, (m : Int), rfl, by omega, by omega, fun S hS => lc_range (lo := 0) (n := (m : Int).toNat) (fun j H' => ∃ (ns : List Int) (z' : Int), H' S = some (.lst (ns.map V.int)) ∧ ns.length = j ∧ (∀ x ∈ ns, 0 ≤ x ∧ x ≤ 5) ∧ SameB l H H' ∧ H' l = some (.lst [.int z']))
      ⟨[], z, upd_same, rfl, fun x hx => by simp at hx, SameB.of (same_new hS _), same_new hS _ _ _ hl⟩ ?_ ?_⟩
    · rintro j H1 hj ⟨ns, z1, hS1, hlen, hns, sb, hl1⟩
      refine ⟨rfl, ?_⟩
      unfold tYes
      dsimp only
      refine iteT ?_
      refine ⟨(by show 6 ≤ sizeLine; decide), fun p hp => ?_⟩
      have s1 := same_new hp (.lst [V.int 0, V.int 1, V.int 1, V.int 2, V.int 3, V.int 5])
      have hpl : p ≠ l := fun e => by
        rw [e, hl1] at hp
        cases hp
      have hSl : S ≠ l := fun e => by
        rw [e, hl] at hS
        cases hS
      refine ⟨_, rfl, l, z1, 6, rfl, s1 _ _ hl1, by decide, by decide, fun d z2 d0 d6 => ?_⟩
      obtain ⟨v, ev, v0, v5⟩ := Rs.tab_at d0 d6
      refine ⟨p, _, d, .int v, rfl, rfl, SqL.of (by rw [upd_ne hpl, upd_same]), ev, ?_⟩
      refine ⟨_, by rw [upd_ne hSl]; exact s1 _ _ hS1, ?_, ns ++ [v], z2, ?_, ?_, ?_, ?_, ?_⟩
      · rw [List.length_map, hlen]
        exact small1000 (by omega)
      · rw [upd_same, List.map_append]
        rfl
      · rw [List.length_append, hlen]
        rfl
      · intro x hx
        rcases List.mem_append.mp hx with hx | hx
        · exact hns x hx
        · rw [List.mem_singleton.mp hx]
          exact ⟨v0, v5⟩
      · intro b u hb e
        have hbS : b ≠ S := ne_of_none e hS
        rw [upd_ne hbS, upd_ne hb]
        exact s1 _ _ (sb b u hb e)
      · rw [upd_ne (Ne.symm hSl), upd_same]
    · rintro H1 ⟨ns, z1, hS1, hlen, hns, sb, hl1⟩
      rw [Int.toNat_natCast] at hlen
      have hSl : S ≠ l := fun e => by
        rw [e, hl] at hS
        cases hS
      -- += 1
      refine ⟨_, rfl, _, rfl, _, rfl, l, z1, (m : Int), rfl, hl1, by omega, Nat.lt_of_le_of_lt (by omega : ((m : Int)).natAbs ≤ 30) (by decide), fun d z2 d0 dm => ?_⟩
      have hd : d.toNat < ns.length := by omega
      obtain ⟨x, ex⟩ : ∃ x, ns[d.toNat]? = some x := ⟨_, List.getElem?_eq_getElem hd⟩
      have ed : d = ((d.toNat : Nat) : Int) := by omega
      have hS2 : (upd H1 l (.lst [.int z2])) S = some (.lst (ns.map V.int)) := by rw [upd_ne hSl]; exact hS1
      refine ⟨S, _, d.toNat, .int x, rfl, by rw [← ed], SqL.of hS2, by rw [List.getElem?_map, ex]; rfl, x, 1, rfl, rfl, S, _, d, d.toNat, rfl, rfl, hS2, ?_, ?_⟩
      · unfold ixN
        rw [if_pos d0, if_pos (by rw [List.length_map]; omega)]
      have es : (ns.map V.int).set d.toNat (.int (x + 1)) = (ns.set d.toNat (x + 1)).map V.int := (List.map_set ..).symm
      rw [es]
      have hx0 := hns x (List.mem_of_getElem? ex)
      have hn2 : ∀ y ∈ ns.set d.toNat (x + 1), 0 ≤ y ∧ y ≤ 6 := fun y hy => by
        rcases List.mem_or_eq_of_mem_set hy with hy | rfl
        · have := hns y hy
          omega
        · omega
      have hlen2 : (ns.set d.toNat (x + 1)).length = m := by rw [List.length_set, hlen]
      have hsum : (ns.set d.toNat (x + 1)).sum = ns.sum + 1 := Rs.set_sumI ns _ x ex
      have hpos : 0 < (ns.set d.toNat (x + 1)).sum := by
        have := Rs.sum_nn ns fun y hy => (hns y hy).1
        omega
      have hle : (ns.set d.toNat (x + 1)).sum ≤ 6 * 30 := by
        have := Rs.sum_le (ns.set d.toNat (x + 1)) 6 fun y hy => (hn2 y hy).2
        rw [hlen2] at this
        omega
      generalize ns.set d.toNat (x + 1) = ms at hn2 hlen2 hsum hpos hle
      have bS : ms.sum.natAbs < 2 ^ 8 := Nat.lt_of_le_of_lt (by omega : ms.sum.natAbs ≤ 180) (by decide)
      -- the fractions
      refine ⟨_, rfl, S, rfl, ⟨_, SqL.of upd_same⟩, fun L hL => lc_list (K := K) (a := S) (xs := ms.map V.int) (fun i H' => ∃ cs, H' L = some (.lst cs) ∧ Same (upd (upd H1 l (.lst [.int z2])) S (.lst (ms.map V.int))) H' ∧ FrN K H' 8 cs ((ms.take i).map fun x => Rat.divInt x ms.sum))
        ⟨[], upd_same, same_new hL _, FrN.nil⟩ (fun i H' _ ⟨_, _, s5, _⟩ => SqL.of (s5 _ _ upd_same)) ?_ ?_⟩
      · rintro i v H' hi ⟨cs, hcs, s5, hf⟩
        rw [List.getElem?_map] at hi
        obtain ⟨y, ey, rfl⟩ : ∃ y, ms[i]? = some y ∧ v = .int y := by
          cases e : ms[i]? with
          | none => rw [e] at hi; cases hi
          | some r => rw [e] at hi; exact ⟨r, rfl, (Option.some.inj hi).symm⟩
        have hy := hn2 y (List.mem_of_getElem? ey)
        have by8 : y.natAbs < 2 ^ 8 := Nat.lt_of_le_of_lt (by omega : y.natAbs ≤ 6) (by decide)
        refine ⟨rfl, ?_⟩
        unfold tYes; dsimp only
        refine iteT ?_
        refine ⟨_, rfl, _, rfl, S, ms, rfl, SqL.of (s5 _ _ upd_same), y, ms.sum, 8, rfl, by8, bS, by omega, by decide, fun t ht => ?_⟩
        have s6 := same_new ht (.tup (rp (Rat.divInt y ms.sum)))
        refine ⟨cs, s6 _ _ hcs, ?_, _, upd_same, fun b u e => ?_, ?_⟩
        · rw [hf.len, List.length_map, List.length_take]
          exact small1000 (by omega)
        · rw [upd_ne (ne_of_none e hL)]
          exact s6 _ _ (s5 _ _ e)
        · rw [List.take_add_one, ey, List.map_append]
          exact ((hf.same s6).snoc (q := Rat.divInt y ms.sum) (SqT.of upd_same) (Fr.bd_low by8 bS (by omega))).keep (keep_lst (s6 _ _ hcs))
      · rintro H' ⟨cs, hcs, s5, hf⟩
        rw [List.length_map, List.take_length] at hf
        have sb2 : SameB l H (upd (upd H1 l (.lst [.int z2])) S (.lst (ms.map V.int))) := fun b u hb e => by
          rw [upd_ne (ne_of_none e hS), upd_ne hb]
          exact sb b u hb e
        have hLl : L ≠ l := fun e => by
          rw [e, upd_ne (Ne.symm hSl), upd_same] at hL
          cases hL
        have hL0 : H L = none := by
          cases e : H L with
          | none => rfl
          | some u =>
            rw [sb2 L u hLl e] at hL
            cases hL
        exact q L cs (Rs.shq ms) z2 H' (sb2.trans (SameB.of s5)) (s5 _ _ (by rw [upd_ne (Ne.symm hSl), upd_same])) hL0 hLl hcs hf (Rs.shq_ok hlen2 (fun y hy => (hn2 y hy).1) hpos)
theorem scRows : FnScope ["_law_left_here", "_law_worlds", "_law_upto", "_law_words", "_law_world"] ["_law_left_here", "_law_worlds", "_law_upto"] (defScope sRows) := ⟨rfl, rfl, rfl, by decide +kernel, rfl, by decide +kernel, by decide +kernel⟩
theorem ok_Rows {f fD fS : Addr} {fd fdD fdS : FuncData} {k : Nat} (F : Fun K "_law_rows" "_law_rows" sRows f fd) (GD : FnOk P w K mg base CX0 k fD fdD ["_law_left_here", "_law_many"] spDigit) (kD : PySem.W.keepIn K (.ref fD) = true) (bD : Binds K fdD ["_law_left_here", "_law_many"] []) (gD : mg "_law_digit" = some (.ref fD))
    (GS : FnOk P w K mg base CX0 k fS fdS ["_law_left_here", "_law_many"] (spShares K)) (kS : PySem.W.keepIn K (.ref fS) = true) (bS : Binds K fdS ["_law_left_here", "_law_many"] []) (gS : mg "_law_shares" = some (.ref fS)) (B : Blt mg) : FnOk P w K mg base CX0 (k + 1) f fd ["_law_left_here", "_law_worlds", "_law_upto"] (spRowsL K) := by
  refine F.ok scRows (fun vs H Q E h => ?_) (fun cdv A outer s H vs Q E hr h => ?_)
  · obtain ⟨l, z, ww, up, rfl, _⟩ := h
    rfl
  · obtain ⟨l, z, ww, up, rfl, hl, hw1, hw5, hu1, hu30, q⟩ := h
    refine ⟨_, pss_cons (ps_set (i := 3) scRows.nd rfl (.inr rfl) (pe_op op_add pe_int (pe_call GD hr (by rfl) gD kD bD .nil pass0 (pa_cons (pv 0) (pa_cons (pv 2) pa_nil)))))
      (pss_one (ps_ret (pe_lc (own := [("_law_world", 4)]) (g := gName 4) (tt := tYes) (te := tCall (spShares K) [] E0 (tCons (tVar 0) (tCons (tVar 3) tNil))) rfl scRows.nd (pi_range1 (by rfl) B.range_ (pa_cons (pv 1) pa_nil))
        (blkOk_by (N := ["_law_left_here", "_law_worlds", "_law_upto", "_law_words", "_law_world"]) (sc := defScope sRows) (by decide +kernel)) (fun _ _ _ _ _ => pg_name (i := 4) scRows.nd rfl (Or.inl rfl)) (fun _ _ _ _ _ => pts_nil)
        (fun _ _ _ _ _ => pe_call GS hr (by rfl) gS kS bS .nil pass0 (pa_cons (pv 0) (pa_cons (pv 3) pa_nil)))))), ?_⟩
    refine ⟨_, rfl, _, rfl, l, z, (up : Int), rfl, hl, by omega, Nat.lt_of_le_of_lt (by omega : ((up : Int)).natAbs ≤ 30) (by decide), fun d z1 d0 dm => ?_⟩
    refine ⟨1, d, rfl, rfl, ?_⟩
    obtain ⟨m, em⟩ : ∃ m : Nat, (1 + d : Int) = (m : Int) := ⟨(1 + d).toNat, by omega⟩
    rw [show ((fun i j => V.int (i + j)) 1 d : V) = V.int (m : Int) from congrArg V.int em]
    refine ⟨_, rfl, (ww : Int), rfl, by omega, by omega, fun D hD => ?_⟩
    have hDl : D ≠ l := fun e => by
      rw [e, upd_same] at hD
      cases hD
    refine lc_range (lo := 0) (n := (ww : Int).toNat) (fun j H' => ∃ rs rss z', New K (upd H l (.lst [.int z1])) H' l D rs rss 8 ∧ H' l = some (.lst [.int z']) ∧ rss.length = j ∧ (∀ qs ∈ rss, RowOk m qs))
      ⟨[], [], z1, New.start hD, by rw [upd_ne (Ne.symm hDl), upd_same], rfl, fun qs hq => by simp at hq⟩ ?_ ?_
    · rintro j H' hj ⟨rs, rss, z', N, hl', hlen, hrow⟩
      refine ⟨rfl, ?_⟩
      unfold tYes
      dsimp only
      refine iteT ?_
      refine ⟨_, rfl, _, rfl, l, z', m, rfl, hl', by omega, by omega, fun L cs qs z2 H2 sb hl2 hL0 hLl hcs hf hro => ?_⟩
      have N2 := N.step sb hl' hDl
      refine ⟨_, N2.at_, ?_, rs ++ [L], rss ++ [qs], z2, New.push N N2 hL0 hcs hf hLl, by rw [upd_ne (Ne.symm hDl)]; exact hl2, ?_, ?_⟩
      · rw [List.length_map, N.rows.1, hlen]
        exact small1000 (by omega)
      · rw [List.length_append, hlen]
        rfl
      · intro x hx
        rcases List.mem_append.mp hx with hx | hx
        · exact hrow x hx
        · rw [List.mem_singleton.mp hx]
          exact hro
    · rintro H' ⟨rs, rss, z', N, hl', hlen, hrow⟩
      rw [Int.toNat_natCast] at hlen
      exact q D rs rss m z' H' (Rs.New.pre N SameB.upd hDl) hDl hl' ⟨by omega, by omega, by omega, by omega, hrow⟩ hlen (by omega)
theorem scLWhole : FnScope ["_law_thing"] ["_law_thing"] (defScope sLWhole) := ⟨rfl, rfl, rfl, by decide +kernel, rfl, by decide +kernel, by decide +kernel⟩
theorem ok_LWhole {f : Addr} {fd : FuncData} {k : Nat} (F : Fun K "_law_whole" "_law_whole" sLWhole f fd) (B : Blt mg) : FnOk P w K mg base CX0 (k + 1) f fd ["_law_thing"] spWholeV := by
  refine F.ok scLWhole (fun vs H Q E h => ?_) (fun cdv A outer s H vs Q E hr h => ?_)
  · obtain ⟨v, rfl, _⟩ := h
    rfl
  · obtain ⟨v, rfl, hv, q⟩ := h
    refine ⟨_, (pss_one (ps_ret (pe_and (pe_callB call_isi (by rfl) B.isinstance_ (by decide +kernel) (pa_cons (pv 0) (pa_cons (pe_bltn (v := .ty "int") (by rfl) B.int_ (by decide +kernel) rfl) pa_nil))) (pe_one (pe_not (pe_callB call_isi (by rfl) B.isinstance_ (by decide +kernel) (pa_cons (pv 0) (pa_cons (pe_bltn (v := .ty "bool") (by rfl) B.bool_ (by decide +kernel) rfl) pa_nil)))))))), ?_⟩
    rcases hv with ⟨i, rfl⟩ | rfl
    · refine ⟨_, rfl, _, _, _, _, true, rfl, .ty "int", .base (.int i), kit_ty (by decide +kernel), _, rfl, iteT ?_⟩
      exact ⟨_, rfl, _, _, _, _, false, rfl, .ty "bool", .base (.int i), kit_ty (by decide +kernel), _, rfl, q⟩
    · refine ⟨_, rfl, _, _, _, _, true, rfl, .ty "int", .base (.bl true), kit_ty (by decide +kernel), _, rfl, iteT ?_⟩
      exact ⟨_, rfl, _, _, _, _, true, rfl, .ty "bool", .base (.bl true), kit_ty (by decide +kernel), _, rfl, q⟩
theorem scLIsSh : FnScope ["_law_thing"] ["_law_thing"] (defScope sLIsSh) := ⟨rfl, rfl, rfl, by decide +kernel, rfl, by decide +kernel, by decide +kernel⟩
theorem ok_LIsSh {f fW fL : Addr} {fd fdW fdL : FuncData} {k : Nat} (F : Fun K "_law_is_share" "_law_is_share" sLIsSh f fd) (GW : FnOk P w K mg base CX0 k fW fdW ["_law_thing"] spWholeV) (kW : PySem.W.keepIn K (.ref fW) = true) (bW : Binds K fdW ["_law_thing"] []) (gW : mg "_law_whole" = some (.ref fW))
    (GL : FnOk P w K mg base CX0 k fL fdL ["_law_top", "_law_bottom"] spLow) (kL : PySem.W.keepIn K (.ref fL) = true) (bL : Binds K fdL ["_law_top", "_law_bottom"] []) (gL : mg "_law_low" = some (.ref fL)) (B : Blt mg) : FnOk P w K mg base CX0 (k + 1) f fd ["_law_thing"] (spLIsSh K) := by
  refine F.ok scLIsSh (fun vs H Q E h => ?_) (fun cdv A outer s H vs Q E hr h => ?_)
  · obtain ⟨v, o, d, rfl, _⟩ := h
    rfl
  · obtain ⟨v, o, d, rfl, hv, q⟩ := h
    refine ⟨_, (pss_cons (ps_if (PW.pt (pw_or (pt_not (pt_val (pe_callB call_isi (by rfl) B.isinstance_ (by decide +kernel) (pa_cons (pv 0) (pa_cons (pe_bltn (v := .ty "tuple") (by rfl) B.tuple_ (by decide +kernel) rfl) pa_nil))))) (pw_or (pt_cmpR op_ne (pe_callB call_len_seq (by rfl) B.len_ PySem.boot_len (pa_cons (pv 0) pa_nil)) pe_int (nomark _)) (pw_or (pt_not (pt_val (pe_call GW hr (by rfl) gW kW bW .nil pass0 (pa_cons (pe_ix ix_tup (pv 0) pe_int (fun _ _ => rfl)) pa_nil)))) (pw_or1 (pt_not (pt_val (pe_call GW hr (by rfl) gW kW bW .nil pass0 (pa_cons (pe_ix ix_tup (pv 0) pe_int (fun _ _ => rfl)) pa_nil))))))))) (pss_one (ps_ret pe_bl)) pss_nil)
      (pss_one (ps_ret (pe_and (pe_cmpR op_ge (pe_ix ix_tup (pv 0) pe_int (fun _ _ => rfl)) pe_int (nomark _)) (pe_and (pe_cmpR op_gt (pe_ix ix_tup (pv 0) pe_int (fun _ _ => rfl)) pe_int (nomark _)) (pe_one (pe_cmpR (op_eqD hr.units) (pe_call GL hr (by rfl) gL kL bL .nil pass0 (pa_cons (pe_ix ix_tup (pv 0) pe_int (fun _ _ => rfl)) (pa_cons (pe_ix ix_tup (pv 0) pe_int (fun _ _ => rfl)) pa_nil))) (pv 0) (nomark _)))))))), ?_⟩
    cases hv with
    | @fr a r ha hb =>
      refine ⟨_, rfl, _, _, _, _, true, rfl, .ty "tuple", tyT ha, kit_ty (by decide +kernel), _, rfl, iteF ?_⟩
      refine ⟨_, rfl, a, rp r, rfl, .inr ha, rfl, _, rfl, iteF ?_⟩
      refine ⟨_, rfl, a, rp r, 0, .int r.num, rfl, rfl, ha, at0 r, _, rfl, .inl ⟨_, rfl⟩, true, rfl, iteF ?_⟩
      refine ⟨_, rfl, a, rp r, 1, .int (r.den : Int), rfl, rfl, ha, at1 r, _, rfl, .inl ⟨_, rfl⟩, true, rfl, iteF ?_⟩
      refine ⟨_, rfl, a, rp r, 0, .int r.num, rfl, rfl, ha, at0 r, _, _, rfl, rfl, _, rfl, ?_⟩
      have q' : ∀ H', Same H H' → Q (.bl (decide (0 ≤ r.num))) H' := q
      cases c : decide (0 ≤ r.num) with
      | false =>
        rw [c] at q'
        exact iteF (q' _ (Same.refl _))
      | true =>
        rw [c] at q'
        refine iteT ?_
        have hd := Fr.den_pos r
        refine ⟨_, rfl, a, rp r, 1, .int (r.den : Int), rfl, rfl, ha, at1 r, _, _, rfl, rfl, _, rfl, ?_⟩
        rw [if_pos (decide_eq_true hd)]
        refine ⟨_, rfl, a, rp r, 0, .int r.num, rfl, rfl, ha, at0 r, _, rfl, a, rp r, 1, .int (r.den : Int), rfl, rfl, ha, at1 r, r.num, (r.den : Int), 8, rfl, hb.1, hb.dn, by omega, by decide, fun p hp => ?_⟩
        rw [Rat.num_divInt_den]
        have s1 := same_new hp (.tup (rp r))
        refine ⟨_, rfl, dR r, dR r, dp_r (SqT.of upd_same), dp_r (seqT s1 ha), dR_shaped _, dR_shaped _, ?_⟩
        rw [SeqAt.eqv_refl _ (dR_lay r)]
        exact q' _ s1
    | @tz a x y ha hb =>
      have z0 : atI [V.int x, V.int y] 0 = some (.int x) := atI_nat (j := 0) rfl
      have z1 : atI [V.int x, V.int y] 1 = some (.int y) := atI_nat (j := 1) rfl
      refine ⟨_, rfl, _, _, _, _, true, rfl, .ty "tuple", tyT ha, kit_ty (by decide +kernel), _, rfl, iteF ?_⟩
      refine ⟨_, rfl, a, _, rfl, .inr ha, rfl, _, rfl, iteF ?_⟩
      refine ⟨_, rfl, a, _, 0, .int x, rfl, rfl, ha, z0, _, rfl, .inl ⟨_, rfl⟩, true, rfl, iteF ?_⟩
      refine ⟨_, rfl, a, _, 1, .int y, rfl, rfl, ha, z1, _, rfl, .inl ⟨_, rfl⟩, true, rfl, iteF ?_⟩
      refine ⟨_, rfl, a, _, 0, .int x, rfl, rfl, ha, z0, _, _, rfl, rfl, _, rfl, ?_⟩
      rw [if_pos (by rcases hb with ⟨rfl, rfl⟩ | ⟨rfl, rfl⟩ | ⟨rfl, rfl⟩ <;> decide)]
      refine ⟨_, rfl, a, _, 1, .int y, rfl, rfl, ha, z1, _, _, rfl, rfl, _, rfl, ?_⟩
      by_cases hy : y = 0
      · subst hy
        exact iteF (q _ (Same.refl _))
      · rw [if_pos (by rcases hb with ⟨rfl, rfl⟩ | ⟨rfl, rfl⟩ | ⟨rfl, rfl⟩ <;> first | decide | exact absurd rfl hy)]
        refine ⟨_, rfl, a, _, 0, .int x, rfl, rfl, ha, z0, _, rfl, a, _, 1, .int y, rfl, rfl, ha, z1, x, y, 8, rfl, by rcases hb with ⟨rfl, rfl⟩ | ⟨rfl, rfl⟩ | ⟨rfl, rfl⟩ <;> decide, by rcases hb with ⟨rfl, rfl⟩ | ⟨rfl, rfl⟩ | ⟨rfl, rfl⟩ <;> decide, hy, by decide, fun p hp => ?_⟩
        have s1 := same_new hp (.tup (rp (Rat.divInt x y)))
        refine ⟨_, rfl, dR _, .tuple [.int x, .int y], dp_r (SqT.of upd_same), .tup (seqT s1 ha) (.cons (.int _) (.cons (.int _) .nil)), dR_shaped _, by rcases hb with ⟨rfl, rfl⟩ | ⟨rfl, rfl⟩ | ⟨rfl, rfl⟩ <;> decide +kernel, ?_⟩
        have e : PyData.eqv (dR (Rat.divInt x y)) (.tuple [.int x, .int y]) = false := by rcases hb with ⟨rfl, rfl⟩ | ⟨rfl, rfl⟩ | ⟨rfl, rfl⟩ <;> first | decide +kernel | exact absurd rfl hy
        rw [e]
        exact q _ s1
    | @tb a ha =>
      refine ⟨_, rfl, _, _, _, _, true, rfl, .ty "tuple", tyT ha, kit_ty (by decide +kernel), _, rfl, iteF ?_⟩
      refine ⟨_, rfl, a, _, rfl, .inr ha, rfl, _, rfl, iteF ?_⟩
      exact ⟨_, rfl, a, _, 0, .bl true, rfl, rfl, ha, atI_nat (j := 0) rfl, _, rfl, .inr rfl, false, rfl, iteT (iteT (q _ (Same.refl _)))⟩
    | non => exact ⟨_, rfl, _, _, _, _, false, rfl, .ty "tuple", .base .non, kit_ty (by decide +kernel), _, rfl, iteT (iteT (q _ (Same.refl _)))⟩
    | one => exact ⟨_, rfl, _, _, _, _, false, rfl, .ty "tuple", .base (.int _), kit_ty (by decide +kernel), _, rfl, iteT (iteT (q _ (Same.refl _)))⟩
    | bl => exact ⟨_, rfl, _, _, _, _, false, rfl, .ty "tuple", .base (.bl _), kit_ty (by decide +kernel), _, rfl, iteT (iteT (q _ (Same.refl _)))⟩
    | str => exact ⟨_, rfl, _, _, _, _, false, rfl, .ty "tuple", .base (.str _), kit_ty (by decide +kernel), _, rfl, iteT (iteT (q _ (Same.refl _)))⟩
    | ls h => exact ⟨_, rfl, _, _, _, _, false, rfl, .ty "tuple", .base (.lst h), kit_ty (by decide +kernel), _, rfl, iteT (iteT (q _ (Same.refl _)))⟩
end
end K9

set_option Elab.async false
set_option linter.all false
set_option maxRecDepth 100000
set_option maxHeartbeats 8000000
namespace K9
open PySem PySem.Spec PyProof.Rows L2 BX EXB Co Ru
open Rs (Rsp Rv Ret tYes_of dV datR Flat Okr spShares spRowsL)
open Fr (Bd)
theorem small_nats : ∀ n : Fin 64, ((toString ((n.val : Nat) : Int) : String) : Str).length ≤ 4 ∧ ((n.val : Nat) : Int).natAbs.log2 < 1920 := by decide +kernel
theorem badT_sh {o : Option (List Ro)} {r : V} (hl : ∀ os, o = some os → os.length ≤ 30) (h : badT o = some r) : r = .non ∨ ∃ j : Nat, j < 64 ∧ r = .int (j : Int) := by
  have fwl : ∀ (os : List Ro) (j : Nat) (lo hi : Int) (n : Nat), firstWrong os j lo hi = some n → n < j + os.length := by
    intro os
    induction os with
    | nil => intro j lo hi n e; cases e
    | cons o os ih =>
      intro j lo hi n e
      rw [firstWrong] at e
      rw [List.length_cons]
      split at e
      · have := ih _ _ _ _ e
        omega
      · cases e
        omega
  cases o with
  | none => exact .inl (Option.some.inj h).symm
  | some os =>
    have h' : (if lenOk (some os.length) 1 5 = true then (firstWrong os 0 1 30).map fun j => V.int (j : Nat) else some .non) = some r := h
    split at h'
    · cases e : firstWrong os 0 1 30 with
      | none => rw [e] at h'; cases h'
      | some j =>
        rw [e] at h'
        have := fwl _ _ _ _ _ e
        have := hl os rfl
        exact .inr ⟨j, by omega, (Option.some.inj h').symm⟩
    · exact .inl (Option.some.inj h').symm
theorem Tg.len30 {K : PySem.W.Frag} {H : Hp} {l : Addr} {v : V} {o : Option (List Ro)} {d : PyData} (h : Tg K H l v o d) : ∀ os, o = some os → os.length ≤ 30 := by
  cases h with
  | lst h hn hr hl => intro os e; cases e; exact hl
  | _ => intro os e; cases e
section
variable {P : Program} {w : World} {K : PySem.W.Frag} {mg : Str → Option Value} {base : Heap} {C fI fRo CN fN : Addr}
theorem scTold : FnScope ["_law_rows_here", "e"] ["_law_rows_here"] (defScope sTold) := ⟨rfl, rfl, rfl, by decide +kernel, rfl, by decide +kernel, by decide +kernel⟩
theorem ok_Told {f : Addr} {fd fdI : FuncData} {k : Nat} (F : Fun K "_law_told" "_law_told" sTold f fd) (T : RuT K mg C fI fRo) (N : NrT K mg CN fN) (GI : FnOk P w K mg base (L2.CX P w) k fI fdI ["self", "rows"] (spInitC K C CN)) (bI : Binds K fdI ["self", "rows"] []) (B : Blt mg) :
    FnOkG P w K mg base CX0 (k + 2) f fd ["_law_rows_here"] (spTold K) := by
  refine okG F scTold (fun vs H Q E h => ?_) (fun cdv A outer s H vs Q E hr hgd h => ?_)
  · obtain ⟨l, v, o, d, rfl, _⟩ := h
    rfl
  · obtain ⟨l, v, o, d, rfl, hv, q⟩ := h
    have hu : (A.deeper (envOfC "_law_told" (defScope sTold) s.heap.objs.size f cdv)).units + 80 < cLine := by have := hr.un; omega
    refine ⟨_, pss_cons (ps_try_clauses (tb := fun W => tDrop (tMakeD C (spInitC K C CN) [] (WE W) (tCons (tVar 0) tNil)))
        (Wout := fun _ _ _ _ => False) rfl rfl scTold.nd takes0
        (fun W pn xe tk _ => pss_one (ps_expr (by exact (pe_makeD T.mkC GI hr (by rfl) T.gC bI .nil (fun σ => passAt tk σ) (by exact (pa_cons (pv 0) pa_nil))))))
        (ClausesOk.cons (ts := fun a cls d => tRet (tOp (rIxL K) (tLst (tCons (tLst (tCons (tC (.str "other")) tNil)) (tCons (tLst (tCons (tC (.str "none")) (tCons (tCB (rRepr K) (tCons (tXf a cls d CN "world" (tVar 1)) tNil)) tNil))) tNil))) (tCB (fun xs H Q => (∃ i, xs = [.int i] ∧ Q (.int i) H) ∨ ∃ k, xs = [.bl k] ∧ Q (.int (if k then 1 else 0)) H) (tCons (tCB (rIsX K CN a cls d) (tCons (tVar 1) (tCons (tC (.ty "ValueError")) tNil))) tNil)))) (i := 1) rfl rfl ⟨rfl, by decide, .inl N.g⟩ (fun a oe cls d pn hz hf => by exact (pss_one (ps_ret (pe_ix ix_list (pe_lst (pa_cons (pe_lst (pa_cons pe_str pa_nil)) (pa_cons (pe_lst (pa_cons pe_str (pa_cons (pe_callB (call_reprD hgd hu) (by rfl) B.repr_ (by decide +kernel) (pa_cons (pe_xf N.xf N.n hz hf (pv 1)) pa_nil)) pa_nil))) pa_nil))) (pe_callTy (T := "int") call_int1 (by rfl) B.int_ (by decide +kernel) (pa_cons (pe_callB (call_isX N.ex hz hf) (by rfl) B.isinstance_ (by decide +kernel) (pa_cons (pv 1) (pa_cons (pe_bltn (v := .ty "ValueError") (by rfl) B.ValueError_ (by decide +kernel) rfl) pa_nil))) pa_nil)) (fun _ _ => rfl))))) ClausesOk.nil))
      (pss_one (ps_ret pe_non)), ?_⟩
    refine ⟨_, rfl, fun x dx hx hdx hne => ?_⟩
    have s1 := same_new hdx (.own x)
    have hx1 : (upd H dx (.own x)) x = none := by rw [upd_ne (Ne.symm hne)]; exact hx
    have s2 := s1.trans (same_new hx1 (.ins C dx []))
    refine ⟨l, x, v, o, d, dx, rfl, upd_same, hv.same s2, fun r er H' dd s3 hdd => ?_, fun eb ra rs' rss H' kp _ _ _ => ⟨rfl, ?_⟩⟩
    · refine ⟨true, N.nn, fun _ a0 _ => ?_, fun z => Bool.noConfusion z⟩
      have eT : resT o = some [.str "none", .str (dV r).shown] := by unfold resT; rw [er]; rfl
      rw [eT] at q
      refine ⟨(by show 1 ≤ sizeLine; decide), fun p1 n1 => ?_⟩
      have t1 := same_new n1 (.lst [V.str "other"])
      have hd1 : Dq K (upd H' p1 (.lst [V.str "other"])) r (dV r) ∧ (dV r).showable = true ∧ (dV r).depth ≤ 64 ∧ (dV r).shown.length ≤ sizeLine := by
        rcases badT_sh hv.len30 er with rfl | ⟨j, hj, rfl⟩
        · exact ⟨.inl .non, rfl, by decide, by decide +kernel⟩
        · have z := small_nats ⟨j, hj⟩
          refine ⟨.inl (.int _), decide_eq_true z.2, (by show 0 ≤ 64; decide), ?_⟩
          have e : (PyData.int (j : Int)).shown.length ≤ 4 := z.1
          exact Nat.le_trans e (by decide)
      refine ⟨_, rfl, rfl, rfl, dd, _, r, rfl, t1 _ _ hdd, rfl, r, dV r, rfl, hd1.1, hd1.2.1, hd1.2.2.1, hd1.2.2.2, (by show 2 ≤ sizeLine; decide), fun p2 n2 => ?_⟩
      have t2 := same_new n2 (.lst [V.str "none", V.str (dV r).shown])
      refine ⟨(by show 2 ≤ sizeLine; decide), fun p3 n3 => ?_⟩
      have t3 := same_new n3 (.lst [V.ref p1, V.ref p2])
      refine ⟨_, rfl, .ty "ValueError", _, true, rfl, rfl, fun _ z => z, .inr ⟨dd, _, rfl, t3 _ _ (t2 _ _ (t1 _ _ hdd))⟩, N.kV, ?_⟩
      refine .inr ⟨true, rfl, ?_⟩
      refine ⟨p3, _, 1, .ref p2, rfl, rfl, SqL.of upd_same, atI_nat (j := 1) rfl, ?_⟩
      exact q (.ref p2) _ ((s2.trans s3).trans ((t1.trans t2).trans t3)) ⟨p2, rfl, t3 _ _ upd_same⟩
    · have eT : resT o = none := by unfold resT; rw [eb]; rfl
      rw [eT] at q
      refine q .non H' (fun b ob e => kp b ob (ne_of_none e hx) (s2 _ _ e)) rfl
theorem scDue : FnScope ["_law_rows_here", "_law_world", "_law_row", "_law_found", "_law_share"] ["_law_rows_here"] (defScope sDue) := ⟨rfl, rfl, rfl, by decide +kernel, rfl, by decide +kernel, by decide +kernel⟩
theorem small_log {i : Nat} (h : i < 64) : ((i : Nat) : Int).natAbs.log2 < 1920 := (small_nats ⟨i, h⟩).2
theorem resT_bad {os : List Ro} {i : Nat} (h5 : lenOk (some os.length) 1 5 = true) (fw : firstWrong os 0 1 30 = some i) : resT (some os) = some [.str "none", .str (toString ((i : Nat) : Int))] := by
  have e : badT (some os) = if lenOk (some os.length) 1 5 = true then (firstWrong os 0 1 30).map fun j => V.int (j : Nat) else some .non := rfl
  rw [if_pos h5, fw] at e
  unfold resT
  rw [e]
  rfl
theorem ok_Due {f fS fP : Addr} {fd fdS fdP : FuncData} {k : Nat} (F : Fun K "_law_due" "_law_due" sDue f fd) (GS : FnOk P w K mg base CX0 k fS fdS ["_law_thing"] (spLIsSh K)) (kS : PySem.W.keepIn K (.ref fS) = true) (bS : Binds K fdS ["_law_thing"] []) (gS : mg "_law_is_share" = some (.ref fS))
    (GP : FnOk P w K mg base CX0 k fP fdP ["_law_one", "_law_other"] (spBin K (· + ·))) (kP : PySem.W.keepIn K (.ref fP) = true) (bP : Binds K fdP ["_law_one", "_law_other"] []) (gP : mg "_law_plus" = some (.ref fP)) (B : Blt mg) : FnOk P w K mg base CX0 (k + 1) f fd ["_law_rows_here"] (spTold K) := by
  refine F.ok scDue (fun vs H Q E h => ?_) (fun cdv A outer s H vs Q E hr h => ?_)
  · obtain ⟨l, v, o, d, rfl, _⟩ := h
    rfl
  · obtain ⟨l, v, o, d, rfl, hv, q⟩ := h
    refine ⟨_, (pss_cons (ps_if (PW.pt (pw_or (pt_not (pt_val (pe_callB call_isi (by rfl) B.isinstance_ (by decide +kernel) (pa_cons (pv 0) (pa_cons (pe_bltn (v := .ty "list") (by rfl) B.list_ (by decide +kernel) rfl) pa_nil))))) (pw_or1 (pt_not (pt_chain op_le op_le pe_int (pe_callB call_len_seq (by rfl) B.len_ PySem.boot_len (pa_cons (pv 0) pa_nil)) pe_int))))) (pss_one (ps_ret (pe_lst (pa_cons pe_str (pa_cons pe_str pa_nil))))) pss_nil)
      (pss_cons (ps_for PassesOwn.never rfl (pi_enum (by rfl) B.enumerate_ (pa_cons (pv 0) pa_nil)) (pg_tup rfl (pgs_cons (pg_name (i := 1) scDue.nd rfl (.inl rfl)) (pgs_cons (pg_name (i := 2) scDue.nd rfl (.inl rfl)) pgs_nil))) (pss_cons (ps_if (PW.pt (pw_or (pt_not (pt_val (pe_callB call_isi (by rfl) B.isinstance_ (by decide +kernel) (pa_cons (pv 2) (pa_cons (pe_bltn (v := .ty "list") (by rfl) B.list_ (by decide +kernel) rfl) pa_nil))))) (pw_or (pt_not (pt_chain op_le op_le pe_int (pe_callB call_len_seq (by rfl) B.len_ PySem.boot_len (pa_cons (pv 2) pa_nil)) pe_int)) (pw_or1 (pt_cmpR op_ne (pe_callB call_len_seq (by rfl) B.len_ PySem.boot_len (pa_cons (pv 2) pa_nil)) (pe_callB call_len_seq (by rfl) B.len_ PySem.boot_len (pa_cons (pe_ix ix_list (pv 0) pe_int (fun _ _ => rfl)) pa_nil)) (nomark _)))))) (pss_one (ps_ret (pe_lst (pa_cons pe_str (pa_cons (pe_callTy (T := "str") call_str_int (by rfl) B.str_ (by decide +kernel) (pa_cons (pv 1) pa_nil)) pa_nil))))) pss_nil)
      (pss_cons (ps_set (i := 3) scDue.nd rfl (.inl rfl) (pe_tup (pa_cons pe_int (pa_cons pe_int pa_nil))))
      (pss_cons (ps_for PassesOwn.never rfl (pi_list (pv 2)) (pg_name (i := 4) scDue.nd rfl (.inl rfl)) (pss_cons (ps_if (pt_not (pt_val (pe_call GS hr (by rfl) gS kS bS .nil pass0 (pa_cons (pv 4) pa_nil)))) (pss_one (ps_ret (pe_lst (pa_cons pe_str (pa_cons (pe_callTy (T := "str") call_str_int (by rfl) B.str_ (by decide +kernel) (pa_cons (pv 1) pa_nil)) pa_nil))))) pss_nil)
      (pss_one (ps_set (i := 3) scDue.nd rfl (.inl rfl) (pe_call GP hr (by rfl) gP kP bP .nil pass0 (pa_cons (pv 3) (pa_cons (pv 4) pa_nil)))))))
      (pss_one (ps_if (pt_cmpR (op_neD hr.units) (pv 3) (pe_tup (pa_cons pe_int (pa_cons pe_int pa_nil))) (nomark _)) (pss_one (ps_ret (pe_lst (pa_cons pe_str (pa_cons (pe_callTy (T := "str") call_str_int (by rfl) B.str_ (by decide +kernel) (pa_cons (pv 1) pa_nil)) pa_nil))))) pss_nil))))))
      (pss_one (ps_ret pe_non)))), ?_⟩
    have no : ∀ (n : String) (z : Option (List Ro)), TyX K H v (.type n) → kitB n "list" = some false → z = none → Ret Q H (resT z) → ∀ {A B : Prop}, (Ret Q H (resT none) → A) → Ret Q H (resT none) → A := fun _ _ _ _ _ _ _ _ f r => f r
    have hlso := hv.lso
    cases hv with
    | @lst a rs os ds ha hn hw hl =>
      have hrl : rs.length = os.length := hw.len.1
      refine ⟨_, rfl, _, _, _, _, true, rfl, .ty "list", .base (.lst ha), kit_ty (by decide +kernel), _, rfl, iteF ?_⟩
      refine ⟨_, rfl, a, rs, rfl, .inl (SqL.of ha), 1, _, rfl, rfl, _, rfl, ?_⟩
      rw [hrl]
      have out5 : lenOk (some os.length) 1 5 = false → (2 ≤ sizeLine ∧ ∀ p : Addr, H p = none → Q (.ref p) (upd H p (.lst [.str "none", .str "None"]))) := fun c => by
        have e : resT (some os) = some [.str "none", .str "None"] := by
          have e : badT (some os) = if lenOk (some os.length) 1 5 = true then (firstWrong os 0 1 30).map fun j => V.int (j : Nat) else some .non := rfl
          rw [if_neg (by rw [c]; decide)] at e
          unfold resT
          rw [e]
          rfl
        rw [e] at q
        exact ⟨by decide, fun p hp => q _ _ (same_new hp _) ⟨p, rfl, upd_same⟩⟩
      by_cases c1 : (1 : Int) ≤ (os.length : Int)
      rotate_left
      · rw [decide_eq_false c1]
        refine iteF ⟨_, rfl, ?_⟩
        exact iteT (out5 (by show (decide _ && _) = false; rw [decide_eq_false c1, Bool.false_and]))
      rw [decide_eq_true c1]
      refine iteT ⟨_, _, rfl, rfl, _, rfl, ?_⟩
      by_cases c2 : (os.length : Int) ≤ 5
      rotate_left
      · rw [decide_eq_false c2]
        exact iteT (out5 (by show (_ && decide _) = false; rw [decide_eq_false c2, Bool.and_false]))
      rw [decide_eq_true c2]
      refine iteF ?_
      have h5 : lenOk (some os.length) 1 5 = true := by
        show (decide _ && decide _) = true
        rw [decide_eq_true c1, decide_eq_true c2]
        rfl
      clear out5
      -- the worlds
      refine ⟨_, rfl, a, _, rfl, SqL.of ha, for_it (walk_enum (K := K) (a := a) (xs := rs)) (fun i σ H' => ∃ (y1 y2 y3 y4 : Option V) (lo hi : Int), σ = [some (.ref a), y1, y2, y3, y4] ∧ Same H H' ∧ firstWrong os 0 1 30 = firstWrong (os.drop i) i lo hi ∧ ((i = 0 ∧ lo = 1 ∧ hi = 30) ∨ ∃ os0, os[0]? = some (some os0) ∧ 1 ≤ os0.length ∧ os0.length ≤ 30 ∧ lo = (os0.length : Int) ∧ hi = (os0.length : Int)))
        ⟨_, _, _, _, 1, 30, rfl, Same.refl _, by rw [List.drop_zero], .inl ⟨rfl, rfl, rfl⟩⟩ (fun i σ H' _ ⟨_, _, _, _, _, _, _, s5, _⟩ => SqL.of (s5 _ _ ha)) ?_ ?_⟩
      · rintro i x σ H1 H2 hi ⟨y1, y2, y3, y4, lo, hi', rfl, s5, fw, hlh⟩ ⟨T, u, v, rfl, nT, rfl, e1, e2⟩
        have eu : u = .int (i : Nat) := (Option.some.inj e1).symm
        subst eu
        have hlt : i < 64 := by omega
        obtain ⟨o, d, f1, f2⟩ := hw.at_ e2
        have s6 := s5.trans (same_new nT (.tup [.int (i : Nat), v]))
        have hT : (upd H1 T (.tup [.int (i : Nat), v])) T = some (.tup [.int (i : Nat), v]) := upd_same
        generalize upd H1 T (.tup [.int (i : Nat), v]) = H2 at *
        rw [firstWrong_drop f1] at fw
        have ret : rowOk o lo hi' = false → ∀ H3, Same H H3 → ∃ z : V, some (some (V.int (i : Nat))) = some (some z) ∧ ∃ j : Int, [z] = [V.int j] ∧ j.natAbs.log2 < 1920 ∧ (2 ≤ sizeLine ∧ ∀ p : Addr, H3 p = none → Q (.ref p) (upd H3 p (.lst [.str "none", .str (toString j)]))) := fun c H3 s7 => by
          rw [if_neg (by rw [c]; decide)] at fw
          rw [resT_bad h5 fw] at q
          exact ⟨_, rfl, _, rfl, small_log hlt, by decide, fun p hp => q _ _ (s7.trans (same_new hp _)) ⟨p, rfl, upd_same⟩⟩
        refine ⟨T, _, rfl, SqT.of hT, rfl, _, _, rfl, _, _, rfl, rfl, ?_⟩
        have hlr := (f2.same s6).lso
        cases f2 with
        | tup h hc hl =>
          cases hlr with
          | non ht hk => exact ⟨_, rfl, _, _, _, _, false, rfl, .ty "list", ht, kit_ty hk, _, rfl, iteT (iteT (ret rfl _ s6))⟩
        | non =>
          cases hlr with
          | non ht hk => exact ⟨_, rfl, _, _, _, _, false, rfl, .ty "list", ht, kit_ty hk, _, rfl, iteT (iteT (ret rfl _ s6))⟩
        | @lst r cs os' dd hr0 hn' hc hl' =>
          have rf : lenOk (some os'.length) lo hi' = false → rowOk (some os') lo hi' = false := fun e => by
            show (_ && _) = false
            rw [e, Bool.false_and]
          have lf : ¬ (lo ≤ (os'.length : Int) ∧ (os'.length : Int) ≤ hi') → lenOk (some os'.length) lo hi' = false := fun h => by
            show (decide _ && decide _) = false
            rw [Bool.and_eq_false_iff, decide_eq_false_iff_not, decide_eq_false_iff_not]
            omega
          obtain ⟨r0, cs0, w1, w2, w4⟩ : ∃ (r0 : Addr) (cs0 : List V), rs[0]? = some (.ref r0) ∧ H r0 = some (.lst cs0) ∧ ((i = 0 ∧ cs0.length = os'.length ∧ lo = 1 ∧ hi' = 30) ∨ (∃ os0, os[0]? = some (some os0) ∧ cs0.length = os0.length ∧ 1 ≤ cs0.length ∧ cs0.length ≤ 30 ∧ lo = (cs0.length : Int) ∧ hi' = (cs0.length : Int))) := by
            rcases hlh with ⟨rfl, rfl, rfl⟩ | ⟨os0, g0, g1, g2, rfl, rfl⟩
            · exact ⟨r, cs, e2, hr0, .inl ⟨rfl, hc.len.1, rfl, rfl⟩⟩
            · have h0 : 0 < rs.length := by omega
              have er : rs[0]? = some rs[0] := List.getElem?_eq_getElem h0
              obtain ⟨o0, d0, z1, z2⟩ := hw.at_ er
              rw [g0] at z1
              cases z1
              cases er0 : rs[0] with
              | ref r0 =>
                rw [er0] at z2 er
                cases z2 with
                | @lst _ cs0 _ ds0 y0 y1 y2 y3 =>
                  refine ⟨r0, cs0, er, y0, .inr ⟨os0, g0, y2.len.1, ?_, ?_, ?_, ?_⟩⟩ <;> rw [y2.len.1] <;> first | rfl | assumption
              | _ => rw [er0] at z2; cases z2
          clear hlh
          refine ⟨_, rfl, _, _, _, _, true, rfl, .ty "list", .base (.lst (s6 _ _ hr0)), kit_ty (by decide +kernel), _, rfl, iteF ?_⟩
          refine ⟨_, rfl, r, cs, rfl, .inl (SqL.of (s6 _ _ hr0)), 1, _, rfl, rfl, _, rfl, ?_⟩
          rw [hc.len.1]
          by_cases c1 : (1 : Int) ≤ (os'.length : Int)
          rotate_left
          · rw [decide_eq_false c1]
            refine iteF ⟨_, rfl, iteT (iteT (ret (rf (lf ?_)) _ s6))⟩
            rcases w4 with ⟨_, _, rfl, rfl⟩ | ⟨_, _, _, _, _, rfl, rfl⟩ <;> omega
          rw [decide_eq_true c1]
          refine iteT ⟨_, _, rfl, rfl, _, rfl, ?_⟩
          by_cases c2 : (os'.length : Int) ≤ 30
          rotate_left
          · rw [decide_eq_false c2]
            refine iteT (iteT (ret (rf (lf ?_)) _ s6))
            rcases w4 with ⟨_, _, rfl, rfl⟩ | ⟨_, _, _, _, _, rfl, rfl⟩ <;> omega
          rw [decide_eq_true c2]
          refine iteF ?_
          refine ⟨_, rfl, r, cs, rfl, .inl (SqL.of (s6 _ _ hr0)), _, rfl, a, _, 0, .ref r0, rfl, rfl, SqL.of (s6 _ _ ha), atI_nat (j := 0) w1, r0, cs0, rfl, .inl (SqL.of (s6 _ _ w2)), rfl, _, rfl, ?_⟩
          rw [hc.len.1]
          by_cases c3 : os'.length = cs0.length
          rotate_left
          · rw [decide_eq_false (fun z => c3 (by have := V.int.inj z; omega))]
            refine iteT (ret (rf (lf ?_)) _ s6)
            rcases w4 with ⟨_, z, _, _⟩ | ⟨_, _, _, _, _, rfl, rfl⟩
            · exact absurd z.symm c3
            · omega
          rw [← c3, decide_eq_true rfl]
          refine iteF ?_
          have hL : lenOk (some os'.length) lo hi' = true := by
            show (decide _ && decide _) = true
            rw [Bool.and_eq_true, decide_eq_true_eq, decide_eq_true_eq]
            rcases w4 with ⟨_, _, rfl, rfl⟩ | ⟨_, _, _, _, _, rfl, rfl⟩ <;> omega
          refine ⟨(by show 2 ≤ sizeLine; decide), fun p0 n0 => ?_⟩
          have s7 := s6.trans (same_new n0 (.tup (rp 0)))
          refine ⟨_, rfl, r, rfl, ⟨_, SqL.of (s7 _ _ hr0)⟩, for_list (K := K) (a := r) (xs := cs) (fun j σ H' => ∃ (c : Addr) (y4 : Option V), σ = [some (.ref a), some (.int (i : Nat)), some (.ref r), some (.ref c), y4] ∧ Same H H' ∧ (os'.take j).all shB = true ∧ SqT K H' c (rp (sumO (os'.take j))) ∧ Bd (9 * j + 1) (sumO (os'.take j)))
            ⟨p0, _, rfl, s7, rfl, SqT.of upd_same, ⟨by show (0 : Int).natAbs < 2 ^ 1; decide, by show 1 < 2 ^ 1; decide⟩⟩ (fun j σ H' _ ⟨_, _, _, z, _⟩ => SqL.of (z _ _ hr0)) ?_ ?_⟩
          · rintro j sv σ H3 hj ⟨c, y4, rfl, s8, hall, hcq, hbd⟩
            obtain ⟨o, d, k1, k2⟩ := hc.at_ hj
            have hjl : j < os'.length := (List.getElem?_eq_some_iff.mp k1).1
            have tk : os'.take (j + 1) = os'.take j ++ [o] := by
              rw [List.take_add_one, k1]
              rfl
            refine ⟨_, rfl, sv, o, d, rfl, k2.same s8, fun H4 s9 => ⟨_, rfl, ?_⟩⟩
            cases cs' : shB o with
            | false =>
              refine iteT (ret ?_ _ (s8.trans s9))
              have : os'.all shB = false := by
                rw [Bool.eq_false_iff]
                intro z
                have := List.all_eq_true.mp z o (List.mem_of_getElem? k1)
                rw [cs'] at this
                cases this
              show (_ && (os'.all shB && _)) = false
              rw [this, Bool.false_and, Bool.and_false]
            | true =>
              refine iteF ?_
              have k3 := k2.same (s8.trans s9)
              cases k3 with
              | @fr ad qq had hbq =>
                refine ⟨_, rfl, _, rfl, c, ad, _, qq, _, 8, rfl, seqT s9 hcq, had, hbd, hbq, by omega, fun p hp => ?_⟩
                have es : sumO (os'.take (j + 1)) = sumO (os'.take j) + qq := by
                  rw [tk]
                  unfold sumO
                  rw [List.map_append, List.sum_append]
                  show _ + ([qq] : List Rat).sum = _
                  rw [List.sum_cons, List.sum_nil, Rat.add_zero]
                refine ⟨p, _, rfl, (s8.trans s9).trans (same_new hp _), ?_, ?_, ?_⟩
                · rw [tk, List.all_append, hall, Bool.true_and]
                  show (shB (some qq) && true) = true
                  rw [cs']
                  rfl
                · rw [es]
                  exact SqT.of upd_same
                · rw [es]
                  exact (Fr.bd_add hbd hbq).mono (by omega)
              | _ => cases cs'
          · rintro σ H3 ⟨c, y4, rfl, s8, hall, hcq, hbd⟩
            rw [hc.len.1, List.take_length] at hall hcq
            refine ⟨_, rfl, (by show 2 ≤ sizeLine; decide), fun p hp => ?_⟩
            have s9 := same_new hp (.tup (rp 1))
            refine ⟨dR (sumO os'), dR 1, dp_r (seqT s9 hcq), dp_r (q := 1) (SqT.of upd_same), dR_shaped _, dR_shaped _, _, rfl, ?_⟩
            rw [eqv_dR]
            by_cases c5 : sumO os' = 1
            · rw [decide_eq_true c5]
              have rt : rowOk (some os') lo hi' = true := by
                show (lenOk (some os'.length) lo hi' && (os'.all shB && decide (sumO os' = 1))) = true
                rw [hL, hall, decide_eq_true c5]
                rfl
              rw [if_pos rt] at fw
              refine iteF ⟨_, _, _, _, _, _, rfl, s8.trans s9, fw, .inr ?_⟩
              rcases w4 with ⟨rfl, _, _, _⟩ | ⟨os0, g0, g1, g2, g3, _, _⟩
              · exact ⟨os', f1, by omega, by omega, rfl, rfl⟩
              · refine ⟨os0, g0, by omega, by omega, ?_, ?_⟩ <;> (show ((os'.length : Nat) : Int) = _; omega)
            · rw [decide_eq_false c5]
              refine iteT (ret ?_ _ (s8.trans s9))
              show (_ && (_ && decide (sumO os' = 1))) = false
              rw [decide_eq_false c5, Bool.and_false, Bool.and_false]
      · rintro σ H1 ⟨y1, y2, y3, y4, lo, hi', rfl, s5, fw, _⟩
        rw [hrl, List.drop_length] at fw
        have e : resT (some os) = none := by
          have e : badT (some os) = if lenOk (some os.length) 1 5 = true then (firstWrong os 0 1 30).map fun j => V.int (j : Nat) else some .non := rfl
          rw [if_pos h5, fw] at e
          unfold resT
          rw [e]
          rfl
        rw [e] at q
        exact q .non H1 s5 rfl
    | _ =>
      cases hlso with
      | non ht hk => exact ⟨_, rfl, _, _, _, _, false, rfl, .ty "list", ht, kit_ty hk, _, rfl, iteT (iteT ⟨(by show 2 ≤ sizeLine; decide), fun p hp => q _ _ (same_new hp _) ⟨p, rfl, upd_same⟩⟩)⟩
end
end K9

set_option Elab.async false
set_option linter.all false
set_option maxRecDepth 100000
set_option maxHeartbeats 8000000
namespace K9
open PySem PySem.Spec PyProof.Rows L2 BX EXB Co Ru
open Rs (Rsp Rv Ret tYes_of dV datR Flat Okr spShares spRowsL)
open Fr (Bd)
def rLenS (K : PySem.W.Frag) : List V → Hp → VK → Prop := fun xs H Q => ∃ p ys, xs = [V.ref p] ∧ (SqL K H p ys ∨ SqT K H p ys) ∧ Q (.int ys.length) H
section
variable {K : PySem.W.Frag} {H H' : Hp} {l : Addr}
theorem ClL.of_mem : ∀ {vs : List V}, (∀ v ∈ vs, ∃ o d, Cl K H v o d) → ∃ os ds, ClL K H vs os ds ∧ os.length = vs.length
  | [], _ => ⟨[], [], .nil, rfl⟩
  | v :: vs, h => by
    obtain ⟨o, d, c⟩ := h v (List.mem_cons_self ..)
    obtain ⟨os, ds, t, e⟩ := ClL.of_mem fun x hx => h x (List.mem_cons_of_mem _ hx)
    exact ⟨o :: os, d :: ds, .cons c t, by rw [List.length_cons, List.length_cons, e]⟩
theorem RwL'.of_mem : ∀ {vs : List V}, (∀ v ∈ vs, ∃ o d, Rw K H l v o d) → ∃ os ds, RwL' K H l vs os ds ∧ os.length = vs.length
  | [], _ => ⟨[], [], .nil, rfl⟩
  | v :: vs, h => by
    obtain ⟨o, d, c⟩ := h v (List.mem_cons_self ..)
    obtain ⟨os, ds, t, e⟩ := RwL'.of_mem fun x hx => h x (List.mem_cons_of_mem _ hx)
    exact ⟨o :: os, d :: ds, .cons c t, by rw [List.length_cons, List.length_cons, e]⟩
def Cells (K : PySem.W.Frag) (H : Hp) (vs : List V) : Prop := ∀ v ∈ vs, ∃ o d, Cl K H v o d
def RowV (K : PySem.W.Frag) (H : Hp) (l : Addr) (v : V) : Prop := ∃ o d, Rw K H l v o d
theorem Cells.same {vs : List V} (h : Cells K H vs) (s : Same H H') : Cells K H' vs := fun v hv => let ⟨o, d, c⟩ := h v hv; ⟨o, d, c.same s⟩
theorem Cells.app {vs us : List V} (h : Cells K H vs) (g : Cells K H us) : Cells K H (vs ++ us) := fun v hv => (List.mem_append.mp hv).elim (h v) (g v)
theorem Cells.cut {vs : List V} {lo hi : Option Int} (h : Cells K H vs) : Cells K H (cutV vs lo hi) := fun v hv => h v (cut_mem hv)
theorem Cells.nil : Cells K H [] := fun v hv => by simp at hv
theorem Cells.one {v : V} {o : Option Rat} {d : PyData} (h : Cl K H v o d) : Cells K H [v] := fun x hx => by rw [List.mem_singleton.mp hx]; exact ⟨o, d, h⟩
theorem Cells.rep {vs : List V} (k : Nat) (h : Cells K H vs) : Cells K H (List.replicate k vs).flatten := fun v hv => by
  obtain ⟨ys, hy, hv⟩ := List.mem_flatten.mp hv
  rw [List.eq_of_mem_replicate hy] at hv
  exact h v hv
theorem Cells.set {vs : List V} {j : Nat} {v : V} {o : Option Rat} {d : PyData} (h : Cells K H vs) (g : Cl K H v o d) : Cells K H (vs.set j v) := fun x hx => by
  rcases List.mem_or_eq_of_mem_set hx with hx | rfl
  · exact h x hx
  · exact ⟨o, d, g⟩
theorem frn_cells {n : Nat} {cs : List V} {qs : List Rat} (h : FrN K H n cs qs) (hn : n ≤ 8) : Cells K H cs := fun v hv => by
  obtain ⟨i, hi, e⟩ := List.getElem_of_mem hv
  obtain ⟨a, q, _, e2, e3, e4⟩ := h.at_ i v (by rw [List.getElem?_eq_getElem hi, e])
  rw [e2]
  exact ⟨_, _, .fr e3 (e4.mono hn)⟩
theorem RowV.lst {a : Addr} {cs : List V} (h : H a = some (.lst cs)) (hn : a ≠ l) (hc : Cells K H cs) (hl : cs.length ≤ 61) : RowV K H l (.ref a) := by
  obtain ⟨os, ds, t, e⟩ := ClL.of_mem hc
  exact ⟨_, _, .lst h hn t (by omega)⟩
theorem RowV.tup {a : Addr} {cs : List V} (h : SqT K H a cs) (hc : Cells K H cs) (hl : cs.length ≤ 61) : RowV K H l (.ref a) := by
  obtain ⟨os, ds, t, e⟩ := ClL.of_mem hc
  exact ⟨_, _, .tup h t (by omega)⟩
theorem RowV.same {v : V} (h : RowV K H l v) (s : Same H H') : RowV K H' l v := let ⟨o, d, c⟩ := h; ⟨o, d, c.same s⟩
theorem tg_lst {a : Addr} {vs : List V} (h : H a = some (.lst vs)) (hn : a ≠ l) (hc : ∀ v ∈ vs, RowV K H l v) (hl : vs.length ≤ 30) : ∃ o d, Tg K H l (.ref a) o d := by
  obtain ⟨os, ds, t, e⟩ := RwL'.of_mem hc
  exact ⟨_, _, .lst h hn t (by omega)⟩
theorem tg_tup {a : Addr} {vs : List V} (h : SqT K H a vs) (hc : ∀ v ∈ vs, RowV K H l v) (hl : vs.length ≤ 30) : ∃ o d, Tg K H l (.ref a) o d := by
  obtain ⟨os, ds, t, e⟩ := RwL'.of_mem hc
  exact ⟨_, _, .tup h t (by omega)⟩
/-- a list of refs is written to -/
theorem Cl.put {v : V} {o : Option Rat} {d : PyData} {p : Addr} {ys zs : List V} (h : Cl K H v o d) (hp : H p = some (.lst ys)) (hy : ∀ x ∈ ys, ∃ b, x = V.ref b) : Cl K (upd H p (.lst zs)) v o d := by
  have st : ∀ a xs, SqT K H a xs → SqT K (upd H p (.lst zs)) a xs := SameB.tup SameB.upd hp
  cases h with
  | fr h hb => exact .fr (st _ _ h) hb
  | non => exact .non
  | one => exact .one
  | bl => exact .bl
  | str => exact .str
  | tz h hb => exact .tz (st _ _ h) hb
  | tb h => exact .tb (st _ _ h)
  | @ls a h =>
    refine .ls ?_
    rw [upd_ne (fun e => ?_)]
    · exact h
    · rw [e, hp] at h
      have e2 := Option.some.inj h
      injection e2 with e3
      obtain ⟨b, hb⟩ := hy (.int 1) (by rw [e3]; exact List.mem_cons_self ..)
      cases hb
theorem RowV.put {v : V} {p : Addr} {ys zs : List V} (h : RowV K H l v) (hp : H p = some (.lst ys)) (hy : ∀ x ∈ ys, ∃ b, x = V.ref b) (hv : v ≠ .ref p) : RowV K (upd H p (.lst zs)) l v := by
  obtain ⟨o, d, h⟩ := h
  refine ⟨o, d, ?_⟩
  cases h with
  | @lst a cs os ds h hn hc hl => exact .lst (by rw [upd_ne (fun e => hv (by rw [e]))]; exact h) hn (hc.imp fun _ _ _ c => c.put hp hy) hl
  | @tup a cs os ds h hc hl => exact .tup (SameB.tup SameB.upd hp _ _ h) (hc.imp fun _ _ _ c => c.put hp hy) hl
  | non => exact .non
theorem frn_refs {n : Nat} {cs : List V} {qs : List Rat} (h : FrN K H n cs qs) : ∀ x ∈ cs, ∃ b, x = V.ref b := fun v hv => by
  obtain ⟨i, hi, e⟩ := List.getElem_of_mem hv
  obtain ⟨a, q, _, e2, _⟩ := h.at_ i v (by rw [List.getElem?_eq_getElem hi, e])
  exact ⟨a, e2⟩
theorem map_refs (fs : List Addr) : ∀ x ∈ fs.map V.ref, ∃ b, x = V.ref b := fun v hv => by
  obtain ⟨a, _, e⟩ := List.mem_map.mp hv
  exact ⟨a, e.symm⟩
theorem rows_v {fs : List Addr} {rss : List (List Rat)} (h : RowsAt K H 8 fs rss) (hn : l ∉ fs) (hl : ∀ qs ∈ rss, qs.length ≤ 61) : ∀ v ∈ fs.map V.ref, RowV K H l v := fun v hv => by
  obtain ⟨a, ha, rfl⟩ := List.mem_map.mp hv
  obtain ⟨j, hj, e⟩ := List.getElem_of_mem ha
  obtain ⟨cs, qs, e1, e2, e3⟩ := h.2 j a (by rw [List.getElem?_eq_getElem hj, e])
  exact RowV.lst e2 (fun z => hn (by rw [← z]; exact ha)) (frn_cells e3 (Nat.le_refl _)) (by rw [e3.len]; exact hl qs (List.mem_of_getElem? e1))
/-- the digits' list is written to -/
theorem car_of {z : Int} (hl : H l = some (.lst [.int z])) (s : SameB l H H') : Car K l H H' := ⟨s.tup hl, fun b o hb e => s b o hb e, fun xs e => by rw [hl] at e; cases e; exact ⟨z, rfl⟩, by rw [hl]; exact fun e => by cases e⟩
theorem Cl.but {v : V} {o : Option Rat} {d : PyData} {z : Int} (h : Cl K H v o d) (hl : H l = some (.lst [.int z])) (s : SameB l H H') : Cl K H' v o d := h.car (car_of hl s)
end
theorem rp_half : rp (mkRat (-1) 2) = [V.int (-1), V.int 2] := by
  have h1 : (mkRat (-1) 2).num = -1 := by decide +kernel
  have h2 : ((mkRat (-1) 2).den : Int) = 2 := by decide +kernel
  unfold rp
  rw [h1, h2]
theorem rp_third : rp (mkRat (-1) 3) = [V.int (-1), V.int 3] := by
  have h1 : (mkRat (-1) 3).num = -1 := by decide +kernel
  have h2 : ((mkRat (-1) 3).den : Int) = 3 := by decide +kernel
  unfold rp
  rw [h1, h2]
def spBent (K : PySem.W.Frag) : Sp := fun vs H Q _ => ∃ (l R : Addr) (z : Int) (rs : List Addr) (rss : List (List Rat)) (m : Nat), vs = [.ref l, .ref R] ∧ H l = some (.lst [.int z]) ∧ RwL K H R rs rss 8 ∧ Good rss m ∧
  ∀ v o d z' H', SameB l H H' → H' l = some (.lst [.int z']) → Tg K H' l v o d → Q v H'
/-- what _law_bent goes on with -/
structure Fd (K : PySem.W.Frag) (H0 H : Hp) (l F : Addr) (fs : List Addr) (rss : List (List Rat)) : Prop where
  w : RwL K H F fs rss 8
  nd : fs.Nodup
  ne : F ∉ fs
  fr : ∀ x ∈ fs, H0 x = none
  fF : H0 F = none
  k : SameB l H0 H
  nF : F ≠ l
  nl : l ∉ fs
theorem Fd.same {K : PySem.W.Frag} {H0 H H' : Hp} {l F : Addr} {fs : List Addr} {rss : List (List Rat)} (h : Fd K H0 H l F fs rss) (s : Same H H') : Fd K H0 H' l F fs rss := ⟨h.w.same s, h.nd, h.ne, h.fr, h.fF, h.k.trans (SameB.of s), h.nF, h.nl⟩
theorem Fd.but {K : PySem.W.Frag} {H0 H H' : Hp} {l F : Addr} {fs : List Addr} {rss : List (List Rat)} {z : Int} (h : Fd K H0 H l F fs rss) (hl : H l = some (.lst [.int z])) (s : SameB l H H') : Fd K H0 H' l F fs rss := ⟨Rs.RwL.keepB h.w hl s, h.nd, h.ne, h.fr, h.fF, h.k.trans s, h.nF, h.nl⟩
/-- the list F is written to -/
theorem Fd.set {K : PySem.W.Frag} {H0 H : Hp} {l F : Addr} {fs : List Addr} {rss : List (List Rat)} {zs : List V} (h : Fd K H0 H l F fs rss) : RowsAt K (upd H F (.lst zs)) 8 fs rss ∧ SameB l H0 (upd H F (.lst zs)) :=
  ⟨h.w.2.keep SameB.upd h.w.1 h.ne, fun b o hb e => by rw [upd_ne (ne_of_none e h.fF)]; exact h.k b o hb e⟩
section
variable {P : Program} {w : World} {K : PySem.W.Frag} {mg : Str → Option Value} {base : Heap}
theorem scBent : FnScope ["_law_left_here", "_law_rows_here", "_law_found", "_law_way", "_law_at", "_law_odd", "_law_row"] ["_law_left_here", "_law_rows_here"] (defScope sBent) := ⟨rfl, rfl, rfl, by decide +kernel, rfl, by decide +kernel, by decide +kernel⟩
set_option maxHeartbeats 16000000 in
theorem ok_Bent {f fD : Addr} {fd fdD : FuncData} {k : Nat} (F : Fun K "_law_bent" "_law_bent" sBent f fd) (GD : FnOk P w K mg base CX0 k fD fdD ["_law_left_here", "_law_many"] spDigit) (kD : PySem.W.keepIn K (.ref fD) = true) (bD : Binds K fdD ["_law_left_here", "_law_many"] []) (gD : mg "_law_digit" = some (.ref fD)) (B : Blt mg) : FnOk P w K mg base CX0 (k + 1) f fd ["_law_left_here", "_law_rows_here"] (spBent K) := by
  refine F.ok scBent (fun vs H Q E h => ?_) (fun cdv A outer s H vs Q E hr h => ?_)
  · obtain ⟨l, R, z, rs, rss, m, rfl, _⟩ := h
    rfl
  · obtain ⟨l, R, z, rs, rss, m, rfl, hl, hW, hg, q⟩ := h
    have h5 := hg.w5
    have h1 := hg.w1
    have hm30 := hg.m30
    have hlen : ∀ qs ∈ rss, qs.length = m := fun qs hq => (hg.row qs hq).1
    refine ⟨_, (pss_cons (ps_setLc (i := 2) (own := [("_law_row", 6)]) (g := gName 6) (tt := tYes) (te := (tCB (rListOf K) (tCons (tVar 6) tNil))) rfl scBent.nd rfl rfl (sw_true rfl rfl rfl (by decide +kernel)) (pi_list (pv 1)) (blkOk_by (N := ["_law_left_here", "_law_rows_here", "_law_found", "_law_way", "_law_at", "_law_odd", "_law_row"]) (sc := defScope sBent) (by decide +kernel)) (fun _ _ _ _ _ => pg_name (i := 6) scBent.nd rfl (Or.inl rfl)) (fun _ _ _ _ _ => pts_nil) (fun _ _ _ _ _ => (pe_callTy (T := "list") call_list_of (by rfl) B.list_ (by decide +kernel) (pa_cons (pv 6) pa_nil))))
      (pss_cons (ps_set (i := 3) scBent.nd rfl (.inl rfl) (pe_call GD hr (by rfl) gD kD bD .nil pass0 (pa_cons (pv 0) (pa_cons pe_int pa_nil))))
      (pss_cons (ps_set (i := 4) scBent.nd rfl (.inl rfl) (pe_call GD hr (by rfl) gD kD bD .nil pass0 (pa_cons (pv 0) (pa_cons (pe_callB call_len_seq (by rfl) B.len_ PySem.boot_len (pa_cons (pv 2) pa_nil)) pa_nil))))
      (pss_cons (ps_set (i := 5) scBent.nd rfl (.inl rfl) (pe_ix ix_list (pe_lst (pa_cons pe_non (pa_cons pe_int (pa_cons (pe_tup (pa_cons pe_int (pa_cons pe_int pa_nil))) (pa_cons (pe_tup (pa_cons pe_int (pa_cons pe_int pa_nil))) (pa_cons (pe_tup (pa_cons pe_int (pa_cons pe_int pa_nil))) (pa_cons (pe_tup (pa_cons (pe_un un_neg pe_int) (pa_cons pe_int pa_nil))) (pa_cons pe_bl (pa_cons (pe_tup (pa_cons pe_bl (pa_cons pe_int pa_nil))) (pa_cons (pe_lst (pa_cons pe_int (pa_cons pe_int pa_nil))) (pa_cons pe_str (pa_cons (pe_tup (pa_cons pe_int (pa_cons pe_int pa_nil))) pa_nil)))))))))))) (pe_call GD hr (by rfl) gD kD bD .nil pass0 (pa_cons (pv 0) (pa_cons pe_int pa_nil))) (fun _ _ => rfl)))
      (pss_cons (ps_if (pt_cmpR op_eq (pv 3) pe_int (nomark _)) (pss_one (ps_ret (pe_ix ix_list (pe_lst (pa_cons pe_non (pa_cons (pe_tup pa_nil) (pa_cons pe_dnewK (pa_cons pe_int (pa_cons pe_str (pa_cons (pe_callTy (T := "tuple") call_tuple_of (by rfl) B.tuple_ (by decide +kernel) (pa_cons (pv 2) pa_nil)) (pa_cons (pe_lst pa_nil) (pa_cons (pe_op op_rep (pv 2) pe_int) pa_nil))))))))) (pe_call GD hr (by rfl) gD kD bD .nil pass0 (pa_cons (pv 0) (pa_cons pe_int pa_nil))) (fun _ _ => rfl)))) pss_nil)
      (pss_cons (ps_if (pt_cmpR op_eq (pv 3) pe_int (nomark _)) (pss_one (ps_ret (pe_slice sl_list (pv 2) (po_some pe_int) po_none))) pss_nil)
      (pss_cons (ps_if (pt_cmpR op_eq (pv 3) pe_int (nomark _)) (pss_one (ps_asg (pe_ix ix_list (pe_lst (pa_cons (pe_lst pa_nil) (pa_cons (pe_slice sl_list (pe_ix ix_list (pv 2) (pv 4) (fun _ _ => rfl)) (po_some pe_int) po_none) (pa_cons (pe_op op_cat (pe_ix ix_list (pv 2) (pv 4) (fun _ _ => rfl)) (pe_lst (pa_cons (pe_tup (pa_cons pe_int (pa_cons pe_int pa_nil))) pa_nil))) (pa_cons (pe_op op_cat (pe_ix ix_list (pv 2) (pv 4) (fun _ _ => rfl)) (pe_op op_rep (pe_lst (pa_cons (pe_tup (pa_cons pe_int (pa_cons pe_int pa_nil))) pa_nil)) pe_int)) (pa_cons pe_non pa_nil)))))) (pe_call GD hr (by rfl) gD kD bD .nil pass0 (pa_cons (pv 0) (pa_cons pe_int pa_nil))) (fun _ _ => rfl)) (pg_sub (pv 2) (pv 4) set_list))) pss_nil)
      (pss_cons (ps_if (pt_cmpR op_eq (pv 3) pe_int (nomark _)) (pss_one (ps_asg (pe_callTy (T := "tuple") call_tuple_of (by rfl) B.tuple_ (by decide +kernel) (pa_cons (pe_ix ix_list (pv 2) (pv 4) (fun _ _ => rfl)) pa_nil)) (pg_sub (pv 2) (pv 4) set_list))) pss_nil)
      (pss_cons (ps_if (pt_cmpR op_eq (pv 3) pe_int (nomark _)) (pss_one (ps_asg (pv 5) (pg_sub (pe_ix ix_list (pv 2) (pv 4) (fun _ _ => rfl)) (pe_call GD hr (by rfl) gD kD bD .nil pass0 (pa_cons (pv 0) (pa_cons (pe_callB call_len_seq (by rfl) B.len_ PySem.boot_len (pa_cons (pe_ix ix_list (pv 2) (pv 4) (fun _ _ => rfl)) pa_nil)) pa_nil))) set_list))) pss_nil)
      (pss_cons (ps_if (pt_cmpR op_eq (pv 3) pe_int (nomark _)) (pss_one (ps_asg (pe_op op_cat (pe_ix ix_list (pv 2) (pv 4) (fun _ _ => rfl)) (pe_lst (pa_cons (pe_tup (pa_cons pe_int (pa_cons pe_int pa_nil))) (pa_cons (pe_tup (pa_cons (pe_un un_neg pe_int) (pa_cons pe_int pa_nil))) pa_nil)))) (pg_sub (pv 2) (pv 4) set_list))) pss_nil)
      (pss_cons (ps_if (pt_cmpR op_eq (pv 3) pe_int (nomark _)) (pss_one (ps_ret (pe_lc (own := [("_law_row", 6)]) (g := gName 6) (tt := tYes) (te := (tOp rCat (tVar 6) (tOp rRep (tLst (tCons (tTup (tCons (tC (.int 0)) (tCons (tC (.int 1)) tNil))) tNil)) (tOp (rI0 fun i j => .int (i - j)) (tOp (rI0 fun i j => .int (i + j)) (tC (.int 30)) (tCall spDigit [] E0 (tCons (tVar 0) (tCons (tC (.int 2)) tNil)))) (tCB (rLenS K) (tCons (tVar 6) tNil)))))) rfl scBent.nd (pi_list (pv 2)) (blkOk_by (N := ["_law_left_here", "_law_rows_here", "_law_found", "_law_way", "_law_at", "_law_odd", "_law_row"]) (sc := defScope sBent) (by decide +kernel)) (fun _ _ _ _ _ => pg_name (i := 6) scBent.nd rfl (Or.inl rfl)) (fun _ _ _ _ _ => pts_nil) (fun _ _ _ _ _ => (pe_op op_cat (pv 6) (pe_op op_rep (pe_lst (pa_cons (pe_tup (pa_cons pe_int (pa_cons pe_int pa_nil))) pa_nil)) (pe_op op_sub (pe_op op_add pe_int (pe_call GD hr (by rfl) gD kD bD .nil pass0 (pa_cons (pv 0) (pa_cons pe_int pa_nil)))) (pe_callB call_len_seq (by rfl) B.len_ PySem.boot_len (pa_cons (pv 6) pa_nil))))))))) pss_nil)
      (pss_one (ps_ret (pv 2)))))))))))))), ?_⟩
    -- the copy
    refine ⟨_, rfl, R, rfl, ⟨_, SqL.of hW.1⟩, fun D hD => lc_list (K := K) (a := R) (xs := rs.map V.ref) (fun i H' => ∃ rs', rs'.length = i ∧ H' D = some (.lst (rs'.map V.ref)) ∧ rs'.Nodup ∧ D ∉ rs' ∧ (∀ x ∈ rs', H x = none) ∧ Same H H' ∧ RowsAt K H' 8 rs' (rss.take i))
      ⟨[], rfl, upd_same, List.nodup_nil, by simp, fun x hx => by simp at hx, same_new hD _, RowsAt.nil⟩ (fun i H' _ ⟨_, _, _, _, _, _, s5, _⟩ => SqL.of (s5 _ _ hW.1)) ?_ ?_⟩
    · rintro i v H' hi ⟨rs', hl', hD', nd', ne', fr', s5, ra⟩
      obtain ⟨r, er, rfl⟩ : ∃ r, rs[i]? = some r ∧ v = .ref r := by
        rw [List.getElem?_map] at hi
        cases e : rs[i]? with
        | none => rw [e] at hi; cases hi
        | some r => rw [e] at hi; exact ⟨r, rfl, (Option.some.inj hi).symm⟩
      obtain ⟨cs, qs, e3, e4, e5⟩ := hW.2.2 i r er
      refine ⟨rfl, ?_⟩
      unfold tYes
      dsimp only
      refine iteT ?_
      refine ⟨_, rfl, r, cs, rfl, .inl (SqL.of (s5 _ _ e4)), fun l2 hl2 => ?_⟩
      have s6 := same_new hl2 (.lst cs)
      have hlD : l2 ≠ D := fun e => by
        rw [e, hD'] at hl2
        cases hl2
      have hil : i < rss.length := (List.getElem?_eq_some_iff.mp e3).1
      refine ⟨_, s6 _ _ hD', ?_, rs' ++ [l2], ?_, ?_, ?_, ?_, ?_, ?_, ?_⟩
      · rw [List.length_map]
        exact small1000 (by omega)
      · rw [List.length_append, hl']
        rfl
      · rw [upd_same, List.map_append]
        rfl
      · rw [List.nodup_append]
        refine ⟨nd', by simp, fun x hx y hy => ?_⟩
        have ey : y = l2 := by simpa using hy
        rw [ey]
        intro e
        obtain ⟨j, hj, ej⟩ := List.getElem_of_mem hx
        obtain ⟨c', q', _, z2, _⟩ := ra.2 j x (by rw [List.getElem?_eq_getElem hj, ej])
        rw [e, hl2] at z2
        cases z2
      · intro hm
        rcases List.mem_append.mp hm with hm | hm
        · exact ne' hm
        · exact hlD (by simpa using hm : D = l2).symm
      · intro x hx
        rcases List.mem_append.mp hx with hx | hx
        · exact fr' x hx
        · have ex : x = l2 := by simpa using hx
          rw [ex]
          exact s5.free hl2
      · intro b u e
        rw [upd_ne (ne_of_none e hD)]
        exact s6 _ _ (s5 _ _ e)
      · have sD : SameB D (upd H' l2 (.lst cs)) (upd (upd H' l2 (.lst cs)) D (.lst (rs'.map V.ref ++ [V.ref l2]))) := SameB.upd
        have t := ((ra.same s6).keep sD (s6 _ _ hD') ne').snoc (r := l2) (cs := cs) (qs := qs) (by rw [upd_ne hlD, upd_same]) ((e5.same (s5.trans s6)).keep (sD.tup (s6 _ _ hD')))
        rw [List.take_add_one, e3]
        exact t
    rintro H1 ⟨fs, hl', hD', nd', ne', fr', s5, ra⟩
    rw [List.length_map] at hl'
    rw [List.length_map, hW.2.1, List.take_length] at ra
    have hl1 := s5 _ _ hl
    have hfl : fs.length = rss.length := ra.1
    have B1 : Fd K H H1 l D fs rss := ⟨⟨hD', ra⟩, nd', ne', fr', hD, SameB.of s5, fun e => (by rw [e, hl] at hD; cases hD), fun hm => by have := fr' l hm; rw [hl] at this; cases this⟩
    clear hl' hD' nd' ne' fr' s5 ra hD
    -- the way, the place
    refine ⟨_, rfl, l, z, 9, rfl, hl1, by decide, by decide, fun way z1 w0 w9 => ?_⟩
    have B2 := B1.but hl1 (SameB.upd (o := .lst [.int z1]))
    have hl2 : (upd H1 l (.lst [.int z1])) l = some (.lst [.int z1]) := upd_same
    generalize upd H1 l (.lst [.int z1]) = H2 at B2 hl2 ⊢
    clear B1 hl1
    refine ⟨_, rfl, _, rfl, D, _, rfl, .inl (SqL.of B2.w.1), l, z1, _, rfl, hl2, ?_, ?_, fun at_ z2 a0 a5 => ?_⟩
    · show (0 : Int) < ((fs.map V.ref).length : Int)
      rw [List.length_map]
      omega
    · show (((fs.map V.ref).length : Int)).natAbs < 2 ^ 200
      rw [List.length_map]
      exact Nat.lt_of_lt_of_le (show _ < 8 by omega) (by decide)
    rw [List.length_map] at a5
    have B3 := B2.but hl2 (SameB.upd (o := .lst [.int z2]))
    have hl3 : (upd H2 l (.lst [.int z2])) l = some (.lst [.int z2]) := upd_same
    generalize upd H2 l (.lst [.int z2]) = H3 at B3 hl3 ⊢
    clear B2 hl2
    -- the odd one
    refine ⟨(by show 2 ≤ sizeLine; decide), fun t1 nt1 => ?_⟩
    have st1 := same_new nt1 (.tup [V.int 0, V.int 2])
    have et1 : (upd H3 t1 (.tup [V.int 0, V.int 2])) t1 = some (.tup [V.int 0, V.int 2]) := upd_same
    generalize upd H3 t1 (.tup [V.int 0, V.int 2]) = H3a at st1 et1 ⊢
    refine ⟨(by show 2 ≤ sizeLine; decide), fun t2 nt2 => ?_⟩
    have st2 := same_new nt2 (.tup [V.int 2, V.int 4])
    have et2 : (upd H3a t2 (.tup [V.int 2, V.int 4])) t2 = some (.tup [V.int 2, V.int 4]) := upd_same
    generalize upd H3a t2 (.tup [V.int 2, V.int 4]) = H3b at st2 et2 ⊢
    refine ⟨(by show 2 ≤ sizeLine; decide), fun t3 nt3 => ?_⟩
    have st3 := same_new nt3 (.tup [V.int 1, V.int 0])
    have et3 : (upd H3b t3 (.tup [V.int 1, V.int 0])) t3 = some (.tup [V.int 1, V.int 0]) := upd_same
    generalize upd H3b t3 (.tup [V.int 1, V.int 0]) = H3c at st3 et3 ⊢
    refine ⟨1, rfl, ?_⟩
    refine ⟨(by show 2 ≤ sizeLine; decide), fun t4 nt4 => ?_⟩
    have st4 := same_new nt4 (.tup [V.int (-1), V.int 2])
    have et4 : (upd H3c t4 (.tup [V.int (-1), V.int 2])) t4 = some (.tup [V.int (-1), V.int 2]) := upd_same
    generalize upd H3c t4 (.tup [V.int (-1), V.int 2]) = H3d at st4 et4 ⊢
    refine ⟨(by show 2 ≤ sizeLine; decide), fun t5 nt5 => ?_⟩
    have st5 := same_new nt5 (.tup [V.bl true, V.int 1])
    have et5 : (upd H3d t5 (.tup [V.bl true, V.int 1])) t5 = some (.tup [V.bl true, V.int 1]) := upd_same
    generalize upd H3d t5 (.tup [V.bl true, V.int 1]) = H3e at st5 et5 ⊢
    refine ⟨(by show 2 ≤ sizeLine; decide), fun t6 nt6 => ?_⟩
    have st6 := same_new nt6 (.lst [V.int 1, V.int 2])
    have et6 : (upd H3e t6 (.lst [V.int 1, V.int 2])) t6 = some (.lst [V.int 1, V.int 2]) := upd_same
    generalize upd H3e t6 (.lst [V.int 1, V.int 2]) = H3f at st6 et6 ⊢
    refine ⟨(by show 2 ≤ sizeLine; decide), fun t7 nt7 => ?_⟩
    have st7 := same_new nt7 (.tup [V.int 1, V.int 7])
    have et7 : (upd H3f t7 (.tup [V.int 1, V.int 7])) t7 = some (.tup [V.int 1, V.int 7]) := upd_same
    generalize upd H3f t7 (.tup [V.int 1, V.int 7]) = H3g at st7 et7 ⊢
    refine ⟨(by show 11 ≤ sizeLine; decide), fun t8 nt8 => ?_⟩
    have st8 := same_new nt8 (.lst [V.non, V.int 1, V.ref t1, V.ref t2, V.ref t3, V.ref t4, V.bl true, V.ref t5, V.ref t6, V.str "1/2", V.ref t7])
    have et8 : (upd H3g t8 (.lst [V.non, V.int 1, V.ref t1, V.ref t2, V.ref t3, V.ref t4, V.bl true, V.ref t5, V.ref t6, V.str "1/2", V.ref t7])) t8 = some (.lst [V.non, V.int 1, V.ref t1, V.ref t2, V.ref t3, V.ref t4, V.bl true, V.ref t5, V.ref t6, V.str "1/2", V.ref t7]) := upd_same
    generalize upd H3g t8 (.lst [V.non, V.int 1, V.ref t1, V.ref t2, V.ref t3, V.ref t4, V.bl true, V.ref t5, V.ref t6, V.str "1/2", V.ref t7]) = H3h at st8 et8 ⊢
    have S8 : Same H3 H3h := (((((((st1.trans st2).trans st3).trans st4).trans st5).trans st6).trans st7).trans st8)
    have hl4 := S8 _ _ hl3
    have B4 := B3.same S8
    have et1 := ((((((st2.trans st3).trans st4).trans st5).trans st6).trans st7).trans st8) _ _ et1
    have et2 := (((((st3.trans st4).trans st5).trans st6).trans st7).trans st8) _ _ et2
    have et3 := ((((st4.trans st5).trans st6).trans st7).trans st8) _ _ et3
    have et4 := (((st5.trans st6).trans st7).trans st8) _ _ et4
    have et5 := ((st6.trans st7).trans st8) _ _ et5
    have et6 := (st7.trans st8) _ _ et6
    have et7 := st8 _ _ et7
    clear S8 B3 hl3 st1 st2 st3 st4 st5 st6 st7 st8
    have ht8 : t8 ≠ l := fun e => by
      rw [e, hl4] at et8
      cases et8
    refine ⟨_, rfl, l, z2, 11, rfl, hl4, by decide, by decide, fun od z3 o0 o11 => ?_⟩
    obtain ⟨ov, oo, odd, eo, co⟩ : ∃ ov oo odd, atI [V.non, V.int 1, V.ref t1, V.ref t2, V.ref t3, V.ref t4, V.bl true, V.ref t5, V.ref t6, V.str "1/2", V.ref t7] od = some ov ∧ Cl K H3h ov oo odd := by
      have : od = 0 ∨ od = 1 ∨ od = 2 ∨ od = 3 ∨ od = 4 ∨ od = 5 ∨ od = 6 ∨ od = 7 ∨ od = 8 ∨ od = 9 ∨ od = 10 := by omega
      rcases this with rfl | rfl | rfl | rfl | rfl | rfl | rfl | rfl | rfl | rfl | rfl
      · exact ⟨_, _, _, atI_nat (j := 0) rfl, .non⟩
      · exact ⟨_, _, _, atI_nat (j := 1) rfl, .one⟩
      · exact ⟨_, _, _, atI_nat (j := 2) rfl, .tz (SqT.of et1) (.inl ⟨rfl, rfl⟩)⟩
      · exact ⟨_, _, _, atI_nat (j := 3) rfl, .tz (SqT.of et2) (.inr (.inl ⟨rfl, rfl⟩))⟩
      · exact ⟨_, _, _, atI_nat (j := 4) rfl, .tz (SqT.of et3) (.inr (.inr ⟨rfl, rfl⟩))⟩
      · exact ⟨_, _, _, atI_nat (j := 5) rfl, .fr (q := mkRat (-1) 2) (SqT.of (by rw [rp_half]; exact et4)) (by unfold Bd; decide +kernel)⟩
      · exact ⟨_, _, _, atI_nat (j := 6) rfl, .bl⟩
      · exact ⟨_, _, _, atI_nat (j := 7) rfl, .tb (SqT.of et5)⟩
      · exact ⟨_, _, _, atI_nat (j := 8) rfl, .ls et6⟩
      · exact ⟨_, _, _, atI_nat (j := 9) rfl, .str⟩
      · exact ⟨_, _, _, atI_nat (j := 10) rfl, .fr (q := mkRat 1 7) (SqT.of et7) (by unfold Bd; decide +kernel)⟩
    have sb4 : SameB l H3h (upd H3h l (.lst [.int z3])) := SameB.upd
    refine ⟨t8, _, od, ov, rfl, rfl, SqL.of (by rw [upd_ne ht8]; exact et8), eo, ?_⟩
    have co5 := co.but hl4 sb4
    have B5 := B4.but hl4 sb4
    have hl5 : (upd H3h l (.lst [.int z3])) l = some (.lst [.int z3]) := upd_same
    generalize upd H3h l (.lst [.int z3]) = H5 at co5 B5 hl5 ⊢
    clear B4 hl4 sb4 co eo o0 o11 ht8 et1 et2 et3 et4 et5 et6 et7 et8
    -- where the place is
    obtain ⟨j, rfl⟩ : ∃ j : Nat, at_ = (j : Int) := ⟨at_.toNat, by omega⟩
    have hj : j < fs.length := by omega
    have ej : fs[j]? = some fs[j] := List.getElem?_eq_getElem hj
    obtain ⟨cs, qs, w1, w2, w3⟩ := B5.w.2.2 j _ ej
    have hcl : cs.length = m := by
      rw [w3.len]
      exact hlen qs (List.mem_of_getElem? w1)
    have ix : atI (fs.map V.ref) (j : Int) = some (V.ref fs[j]) := atI_nat (by rw [List.getElem?_map, ej]; rfl)
    have ixs : ixN (fs.map V.ref).length (j : Int) = some j := by
      unfold ixN
      rw [if_pos (by omega), if_pos (by rw [List.length_map]; omega), Int.toNat_natCast]
    have hrl : fs[j] ≠ l := fun e => B5.nl (by rw [← e]; exact List.getElem_mem hj)
    have hrF : fs[j] ≠ D := fun e => B5.ne (by rw [← e]; exact List.getElem_mem hj)
    have cells := frn_cells w3 (Nat.le_refl _)
    have hlen61 : ∀ qs ∈ rss, qs.length ≤ 61 := fun qs hq => by have := hlen qs hq; omega
    -- the end: a row is put otherwise
    have fin : ∀ (v : V) (H6 : Hp) (z6 : Int), Fd K H H6 l D fs rss → H6 l = some (.lst [.int z6]) → RowV K H6 l v → v ≠ .ref D → Q (.ref D) (upd H6 D (.lst ((fs.map V.ref).set j v))) := fun v H6 z6 B6 hl6 rv hne => by
      obtain ⟨ra, kb⟩ := B6.set (zs := (fs.map V.ref).set j v)
      obtain ⟨o, d, tg⟩ := tg_lst (K := K) (l := l) (H := upd H6 D (.lst ((fs.map V.ref).set j v))) (a := D) upd_same B6.nF (fun x hx => by
        rcases List.mem_or_eq_of_mem_set hx with hx | rfl
        · exact rows_v ra B6.nl hlen61 x hx
        · exact rv.put B6.w.1 (map_refs fs) hne) (by rw [List.length_set, List.length_map]; omega)
      exact q _ _ _ z6 _ kb (by rw [upd_ne (Ne.symm B6.nF)]; exact hl6) tg
    have fin0 : Q (.ref D) H5 := by
      obtain ⟨o, d, tg⟩ := tg_lst (K := K) (l := l) B5.w.1 B5.nF (rows_v B5.w.2 B5.nl hlen61) (by rw [List.length_map]; omega)
      exact q _ _ _ z3 _ B5.k hl5 tg
    have : way = 0 ∨ way = 1 ∨ way = 2 ∨ way = 3 ∨ way = 4 ∨ way = 5 ∨ way = 6 ∨ way = 7 ∨ way = 8 := by omega
    clear w0 w9 a0 a5
    have no : ∀ (a b : Int), a ≠ b → decide (V.int a = V.int b) = false := fun a b h => decide_eq_false fun e => h (V.int.inj e)
    rcases this with rfl | rfl | rfl | rfl | rfl | rfl | rfl | rfl | rfl
    · refine ⟨_, rfl, rfl, _, rfl, iteT ?_⟩
      refine ⟨(by show 0 ≤ sizeLine; decide), fun p1 np1 => ?_⟩
      have sp1 := same_new np1 (.tup [])
      have ep1 : (upd H5 p1 (.tup [])) p1 = some (.tup []) := upd_same
      generalize upd H5 p1 (.tup []) = H6 at sp1 ep1 ⊢
      refine fun p2 np2 => ?_
      have sp2 := same_new np2 (.dK [])
      have ep2 : (upd H6 p2 (.dK [])) p2 = some (.dK []) := upd_same
      generalize upd H6 p2 (.dK []) = H7 at sp2 ep2 ⊢
      have S7 := sp1.trans sp2
      refine ⟨_, rfl, D, _, rfl, .inl ⟨SqL.of (S7 _ _ B5.w.1), fun p3 np3 => ?_⟩⟩
      have sp3 := same_new np3 (.tup (fs.map V.ref))
      have ep3 : (upd H7 p3 (.tup (fs.map V.ref))) p3 = some (.tup (fs.map V.ref)) := upd_same
      generalize upd H7 p3 (.tup (fs.map V.ref)) = H8 at sp3 ep3 ⊢
      refine ⟨(by show 0 ≤ sizeLine; decide), fun p4 np4 => ?_⟩
      have sp4 := same_new np4 (.lst [])
      have ep4 : (upd H8 p4 (.lst [])) p4 = some (.lst []) := upd_same
      generalize upd H8 p4 (.lst []) = H9 at sp4 ep4 ⊢
      have S9 := S7.trans (sp3.trans sp4)
      refine ⟨_, rfl, D, 6, fs.map V.ref, rfl, rfl, S9 _ _ B5.w.1, by decide, by decide, ?_, fun p5 np5 => ?_⟩
      · show (fs.map V.ref).length * 6 ≤ sizeLine
        rw [List.length_map]
        exact Nat.le_of_lt (small1000 (by omega))
      have sp5 := same_new np5 (.lst (List.replicate (Int.toNat 6) (fs.map V.ref)).flatten)
      have ep5 : (upd H9 p5 (.lst (List.replicate (Int.toNat 6) (fs.map V.ref)).flatten)) p5 = some (.lst (List.replicate (Int.toNat 6) (fs.map V.ref)).flatten) := upd_same
      generalize upd H9 p5 (.lst (List.replicate (Int.toNat 6) (fs.map V.ref)).flatten) = H10 at sp5 ep5 ⊢
      refine ⟨(by show 8 ≤ sizeLine; decide), fun p6 np6 => ?_⟩
      have sp6 := same_new np6 (.lst [V.non, V.ref p1, V.ref p2, V.int 0, V.str "", V.ref p3, V.ref p4, V.ref p5])
      have ep6 : (upd H10 p6 (.lst [V.non, V.ref p1, V.ref p2, V.int 0, V.str "", V.ref p3, V.ref p4, V.ref p5])) p6 = some (.lst [V.non, V.ref p1, V.ref p2, V.int 0, V.str "", V.ref p3, V.ref p4, V.ref p5]) := upd_same
      generalize upd H10 p6 (.lst [V.non, V.ref p1, V.ref p2, V.int 0, V.str "", V.ref p3, V.ref p4, V.ref p5]) = H11 at sp6 ep6 ⊢
      have S11 := S9.trans (sp5.trans sp6)
      have B11 := B5.same S11
      have hl11 := S11 _ _ hl5
      have ep1 := ((((sp2.trans sp3).trans sp4).trans sp5).trans sp6) _ _ ep1
      have ep2 := (((sp3.trans sp4).trans sp5).trans sp6) _ _ ep2
      have ep3 := ((sp4.trans sp5).trans sp6) _ _ ep3
      have ep4 := (sp5.trans sp6) _ _ ep4
      have ep5 := sp6 _ _ ep5
      have nl : ∀ {p : Addr} {xs : List V}, H11 p = some (.lst xs) → (∀ x ∈ xs, ∃ b, x = V.ref b) → p ≠ l := fun {p xs} e hx z => by
        rw [z, hl11] at e
        have e2 := Option.some.inj e
        injection e2 with e3
        obtain ⟨b, hb⟩ := hx (.int z3) (by rw [← e3]; exact List.mem_cons_self ..)
        cases hb
      have hp6 : p6 ≠ l := fun e => by
        rw [e, hl11] at ep6
        cases ep6
      refine ⟨_, rfl, l, z3, 8, rfl, hl11, by decide, by decide, fun dd z4 d0 d8 => ?_⟩
      have rows := rows_v B11.w.2 B11.nl hlen61
      obtain ⟨ov, o, d, eo, tg⟩ : ∃ ov o d, atI [V.non, V.ref p1, V.ref p2, V.int 0, V.str "", V.ref p3, V.ref p4, V.ref p5] dd = some ov ∧ Tg K H11 l ov o d := by
        have : dd = 0 ∨ dd = 1 ∨ dd = 2 ∨ dd = 3 ∨ dd = 4 ∨ dd = 5 ∨ dd = 6 ∨ dd = 7 := by omega
        rcases this with rfl | rfl | rfl | rfl | rfl | rfl | rfl | rfl
        · exact ⟨_, _, _, atI_nat (j := 0) rfl, .non⟩
        · obtain ⟨o, d, tg⟩ := tg_tup (l := l) (SqT.of ep1) (K := K) (fun v hv => by simp at hv) (by decide)
          exact ⟨_, _, _, atI_nat (j := 1) rfl, tg⟩
        · exact ⟨_, _, _, atI_nat (j := 2) rfl, .dct ep2⟩
        · exact ⟨_, _, _, atI_nat (j := 3) rfl, .zero⟩
        · exact ⟨_, _, _, atI_nat (j := 4) rfl, .str⟩
        · obtain ⟨o, d, tg⟩ := tg_tup (l := l) (SqT.of ep3) rows (by rw [List.length_map]; omega)
          exact ⟨_, _, _, atI_nat (j := 5) rfl, tg⟩
        · obtain ⟨o, d, tg⟩ := tg_lst (K := K) (l := l) ep4 (nl ep4 (fun x hx => by simp at hx)) (fun v hv => by simp at hv) (by decide)
          exact ⟨_, _, _, atI_nat (j := 6) rfl, tg⟩
        · have mm : ∀ v ∈ (List.replicate (Int.toNat 6) (fs.map V.ref)).flatten, v ∈ fs.map V.ref := fun v hv => by
            obtain ⟨ys, hy, hv⟩ := List.mem_flatten.mp hv
            rw [List.eq_of_mem_replicate hy] at hv
            exact hv
          obtain ⟨o, d, tg⟩ := tg_lst (K := K) (l := l) ep5 (nl ep5 (fun x hx => map_refs fs x (mm x hx))) (fun v hv => rows v (mm v hv)) (by rw [List.length_flatten, List.map_replicate, List.sum_replicate_nat, List.length_map]; show 6 * fs.length ≤ 30; omega)
          exact ⟨_, _, _, atI_nat (j := 7) rfl, tg⟩
      refine ⟨p6, _, dd, ov, rfl, rfl, SqL.of (by rw [upd_ne hp6]; exact ep6), eo, ?_⟩
      exact q _ _ _ z4 _ (B11.k.trans SameB.upd) upd_same (tg.car (car_of hl11 SameB.upd))
    · refine ⟨_, rfl, rfl, _, rfl, iteF ?_⟩
      refine ⟨_, rfl, rfl, _, rfl, iteT ?_⟩
      refine ⟨_, rfl, 1, rfl, D, _, rfl, SqL.of B5.w.1, fun p1 np1 => ?_⟩
      have sp1 := same_new np1 (.lst (cutV (fs.map V.ref) (some 1) none))
      have ep1 : (upd H5 p1 (.lst (cutV (fs.map V.ref) (some 1) none))) p1 = some (.lst (cutV (fs.map V.ref) (some 1) none)) := upd_same
      generalize upd H5 p1 (.lst (cutV (fs.map V.ref) (some 1) none)) = H6 at sp1 ep1 ⊢
      have B6 := B5.same sp1
      have hl6 := sp1 _ _ hl5
      have rows := rows_v B6.w.2 B6.nl hlen61
      have n1 : p1 ≠ l := fun e => by
        rw [e, hl5] at np1
        cases np1
      have le := cutV_length (fs.map V.ref) (some 1) none
      rw [List.length_map] at le
      obtain ⟨o, d, tg⟩ := tg_lst (K := K) (l := l) ep1 n1 (fun v hv => rows v (cut_mem hv)) (by omega)
      exact q _ _ _ z3 _ B6.k hl6 tg
    · refine ⟨_, rfl, rfl, _, rfl, iteF ?_⟩
      refine ⟨_, rfl, rfl, _, rfl, iteF ?_⟩
      refine ⟨_, rfl, rfl, _, rfl, iteT ?_⟩
      refine ⟨(by show 0 ≤ sizeLine; decide), fun p1 np1 => ?_⟩
      have sp1 := same_new np1 (.lst [])
      have ep1 : (upd H5 p1 (.lst [])) p1 = some (.lst []) := upd_same
      generalize upd H5 p1 (.lst []) = H6 at sp1 ep1 ⊢
      refine ⟨_, rfl, _, rfl, D, _, _, .ref fs[j], rfl, rfl, SqL.of (sp1 _ _ B5.w.1), ix, 1, rfl, fs[j], cs, rfl, SqL.of (sp1 _ _ w2), fun p2 np2 => ?_⟩
      have sp2 := same_new np2 (.lst (cutV cs (some 1) none))
      have ep2 : (upd H6 p2 (.lst (cutV cs (some 1) none))) p2 = some (.lst (cutV cs (some 1) none)) := upd_same
      generalize upd H6 p2 (.lst (cutV cs (some 1) none)) = H7 at sp2 ep2 ⊢
      have S7 := sp1.trans sp2
      refine ⟨_, rfl, _, rfl, D, _, _, .ref fs[j], rfl, rfl, SqL.of (S7 _ _ B5.w.1), ix, ?_⟩
      refine ⟨(by show 2 ≤ sizeLine; decide), fun p3 np3 => ?_⟩
      have sp3 := same_new np3 (.tup [V.int 0, V.int 1])
      have ep3 : (upd H7 p3 (.tup [V.int 0, V.int 1])) p3 = some (.tup [V.int 0, V.int 1]) := upd_same
      generalize upd H7 p3 (.tup [V.int 0, V.int 1]) = H8 at sp3 ep3 ⊢
      refine ⟨(by show 1 ≤ sizeLine; decide), fun p4 np4 => ?_⟩
      have sp4 := same_new np4 (.lst [V.ref p3])
      have ep4 : (upd H8 p4 (.lst [V.ref p3])) p4 = some (.lst [V.ref p3]) := upd_same
      generalize upd H8 p4 (.lst [V.ref p3]) = H9 at sp4 ep4 ⊢
      have S9 := S7.trans (sp3.trans sp4)
      refine ⟨fs[j], p4, cs, [V.ref p3], rfl, rfl, S9 _ _ w2, ep4, ?_, fun p5 np5 => ?_⟩
      · rw [hcl]
        exact Nat.le_of_lt (small1000 (by show m + 1 ≤ 1000; omega))
      have sp5 := same_new np5 (.lst (cs ++ [V.ref p3]))
      have ep5 : (upd H9 p5 (.lst (cs ++ [V.ref p3]))) p5 = some (.lst (cs ++ [V.ref p3])) := upd_same
      generalize upd H9 p5 (.lst (cs ++ [V.ref p3])) = H10 at sp5 ep5 ⊢
      have S10 := S9.trans sp5
      refine ⟨_, rfl, _, rfl, D, _, _, .ref fs[j], rfl, rfl, SqL.of (S10 _ _ B5.w.1), ix, ?_⟩
      refine ⟨(by show 2 ≤ sizeLine; decide), fun p6 np6 => ?_⟩
      have sp6 := same_new np6 (.tup [V.int 0, V.int 1])
      have ep6 : (upd H10 p6 (.tup [V.int 0, V.int 1])) p6 = some (.tup [V.int 0, V.int 1]) := upd_same
      generalize upd H10 p6 (.tup [V.int 0, V.int 1]) = H11 at sp6 ep6 ⊢
      refine ⟨(by show 1 ≤ sizeLine; decide), fun p7 np7 => ?_⟩
      have sp7 := same_new np7 (.lst [V.ref p6])
      have ep7 : (upd H11 p7 (.lst [V.ref p6])) p7 = some (.lst [V.ref p6]) := upd_same
      generalize upd H11 p7 (.lst [V.ref p6]) = H12 at sp7 ep7 ⊢
      refine ⟨p7, 30, [V.ref p6], rfl, rfl, ep7, by decide, by decide, (by show 1 * 30 ≤ sizeLine; decide), fun p8 np8 => ?_⟩
      have sp8 := same_new np8 (.lst (List.replicate (Int.toNat 30) [V.ref p6]).flatten)
      have ep8 : (upd H12 p8 (.lst (List.replicate (Int.toNat 30) [V.ref p6]).flatten)) p8 = some (.lst (List.replicate (Int.toNat 30) [V.ref p6]).flatten) := upd_same
      generalize upd H12 p8 (.lst (List.replicate (Int.toNat 30) [V.ref p6]).flatten) = H13 at sp8 ep8 ⊢
      have S13 := S10.trans ((sp6.trans sp7).trans sp8)
      refine ⟨fs[j], p8, cs, _, rfl, rfl, S13 _ _ w2, ep8, ?_, fun p9 np9 => ?_⟩
      · rw [hcl]
        exact Nat.le_of_lt (small1000 (by show m + 30 ≤ 1000; omega))
      have sp9 := same_new np9 (.lst (cs ++ (List.replicate (Int.toNat 30) [V.ref p6]).flatten))
      have ep9 : (upd H13 p9 (.lst (cs ++ (List.replicate (Int.toNat 30) [V.ref p6]).flatten))) p9 = some (.lst (cs ++ (List.replicate (Int.toNat 30) [V.ref p6]).flatten)) := upd_same
      generalize upd H13 p9 (.lst (cs ++ (List.replicate (Int.toNat 30) [V.ref p6]).flatten)) = H14 at sp9 ep9 ⊢
      refine ⟨(by show 5 ≤ sizeLine; decide), fun p10 np10 => ?_⟩
      have sp10 := same_new np10 (.lst [V.ref p1, V.ref p2, V.ref p5, V.ref p9, V.non])
      have ep10 : (upd H14 p10 (.lst [V.ref p1, V.ref p2, V.ref p5, V.ref p9, V.non])) p10 = some (.lst [V.ref p1, V.ref p2, V.ref p5, V.ref p9, V.non]) := upd_same
      generalize upd H14 p10 (.lst [V.ref p1, V.ref p2, V.ref p5, V.ref p9, V.non]) = H15 at sp10 ep10 ⊢
      have S15 := S13.trans (sp9.trans sp10)
      have hl15 := S15 _ _ hl5
      have B15 := B5.same S15
      have U10 := sp9.trans sp10
      have U8 := sp8.trans U10
      have U6 := sp6.trans (sp7.trans U8)
      have U5 := sp5.trans U6
      have U3 := (sp3.trans sp4).trans U5
      have fr : ∀ {p : Addr}, H5 p = none → p ≠ l ∧ p ≠ D := fun {p} e => ⟨fun z => (by rw [z, hl5] at e; cases e), fun z => (by rw [z, B5.w.1] at e; cases e)⟩
      have c1 := fr np1
      have c2 := fr (sp1.free np2)
      have c5 := fr (S9.free np5)
      have c9 := fr (S13.free np9)
      have ep1 := (sp2.trans U3) _ _ ep1
      have ep2 := U3 _ _ ep2
      have ep5 := U6 _ _ ep5
      have ep9 := sp10 _ _ ep9
      have cell3 : Cells K H15 [V.ref p3] := Cells.one (.fr (q := 0) (SqT.of (((sp4.trans U5)) _ _ ep3)) (by unfold Bd; decide +kernel))
      have cell6 : Cells K H15 [V.ref p6] := Cells.one (.fr (q := 0) (SqT.of ((sp7.trans U8) _ _ ep6)) (by unfold Bd; decide +kernel))
      have cells15 := cells.same S15
      have hp10 : p10 ≠ l := fun e => by
        rw [e, hl15] at ep10
        cases ep10
      refine ⟨_, rfl, l, z3, 5, rfl, hl15, by decide, by decide, fun dd z4 d0 d5 => ?_⟩
      obtain ⟨ov, eo, rv, nv⟩ : ∃ ov, atI [V.ref p1, V.ref p2, V.ref p5, V.ref p9, V.non] dd = some ov ∧ RowV K H15 l ov ∧ ov ≠ .ref D := by
        have : dd = 0 ∨ dd = 1 ∨ dd = 2 ∨ dd = 3 ∨ dd = 4 := by omega
        have inj : ∀ {p : Addr}, p ≠ D → V.ref p ≠ V.ref D := fun h e => h (V.ref.inj e)
        rcases this with rfl | rfl | rfl | rfl | rfl
        · exact ⟨_, atI_nat (j := 0) rfl, RowV.lst ep1 c1.1 Cells.nil (by decide), inj c1.2⟩
        · exact ⟨_, atI_nat (j := 1) rfl, RowV.lst ep2 c2.1 cells15.cut (by have := cutV_length cs (some 1) none; omega), inj c2.2⟩
        · exact ⟨_, atI_nat (j := 2) rfl, RowV.lst ep5 c5.1 (cells15.app cell3) (by rw [List.length_append, hcl]; show m + 1 ≤ 61; omega), inj c5.2⟩
        · exact ⟨_, atI_nat (j := 3) rfl, RowV.lst ep9 c9.1 (cells15.app (cell6.rep _)) (by rw [List.length_append, hcl]; show m + 30 ≤ 61; omega), inj c9.2⟩
        · exact ⟨_, atI_nat (j := 4) rfl, ⟨_, _, .non⟩, fun e => by cases e⟩
      refine ⟨p10, _, dd, ov, rfl, rfl, SqL.of (by rw [upd_ne hp10]; exact ep10), eo, ?_⟩
      have B16 := B15.but hl15 (SameB.upd (o := .lst [.int z4]))
      have rv16 : RowV K (upd H15 l (.lst [.int z4])) l ov := let ⟨o, d, r⟩ := rv; ⟨o, d, r.car (car_of hl15 SameB.upd)⟩
      refine ⟨_, rfl, _, rfl, D, _, _, j, rfl, rfl, B16.w.1, ixs, ?_⟩
      refine ⟨_, rfl, rfl, _, rfl, iteF ?_⟩
      refine ⟨_, rfl, rfl, _, rfl, iteF ?_⟩
      refine ⟨_, rfl, rfl, _, rfl, iteF ?_⟩
      refine ⟨_, rfl, rfl, _, rfl, iteF ?_⟩
      exact ⟨_, rfl, fin ov _ z4 B16 upd_same rv16 nv⟩
    · refine ⟨_, rfl, rfl, _, rfl, iteF ?_⟩
      refine ⟨_, rfl, rfl, _, rfl, iteF ?_⟩
      refine ⟨_, rfl, rfl, _, rfl, iteF ?_⟩
      refine ⟨_, rfl, rfl, _, rfl, iteT ?_⟩
      refine ⟨_, rfl, _, rfl, D, _, _, .ref fs[j], rfl, rfl, SqL.of ((Same.refl H5) _ _ B5.w.1), ix, fs[j], cs, rfl, .inl ⟨SqL.of w2, fun p1 np1 => ?_⟩⟩
      have sp1 := same_new np1 (.tup cs)
      have ep1 : (upd H5 p1 (.tup cs)) p1 = some (.tup cs) := upd_same
      generalize upd H5 p1 (.tup cs) = H6 at sp1 ep1 ⊢
      have B6 := B5.same sp1
      refine ⟨_, rfl, _, rfl, D, _, _, j, rfl, rfl, B6.w.1, ixs, ?_⟩
      refine ⟨_, rfl, rfl, _, rfl, iteF ?_⟩
      refine ⟨_, rfl, rfl, _, rfl, iteF ?_⟩
      refine ⟨_, rfl, rfl, _, rfl, iteF ?_⟩
      refine ⟨_, rfl, fin (.ref p1) _ z3 B6 (sp1 _ _ hl5) (RowV.tup (SqT.of ep1) (cells.same sp1) (by omega)) (fun e => ?_)⟩
      rw [V.ref.inj e, B5.w.1] at np1
      cases np1
    · refine ⟨_, rfl, rfl, _, rfl, iteF ?_⟩
      refine ⟨_, rfl, rfl, _, rfl, iteF ?_⟩
      refine ⟨_, rfl, rfl, _, rfl, iteF ?_⟩
      refine ⟨_, rfl, rfl, _, rfl, iteF ?_⟩
      refine ⟨_, rfl, rfl, _, rfl, iteT ?_⟩
      refine ⟨_, rfl, _, rfl, _, rfl, D, _, _, .ref fs[j], rfl, rfl, SqL.of ((Same.refl H5) _ _ B5.w.1), ix, _, rfl, _, rfl, _, rfl, D, _, _, .ref fs[j], rfl, rfl, SqL.of ((Same.refl H5) _ _ B5.w.1), ix, fs[j], cs, rfl, .inl (SqL.of w2), l, z3, _, rfl, hl5, ?_, ?_, fun dd z4 d0 d5 => ?_⟩
      · show (0 : Int) < (cs.length : Int)
        have := hg.m1
        omega
      · show ((cs.length : Int)).natAbs < 2 ^ 200
        exact Nat.lt_of_lt_of_le (show _ < 64 by omega) (by decide)
      have B6 := B5.but hl5 (SameB.upd (o := .lst [.int z4]))
      have co6 := co5.but hl5 (SameB.upd (o := .lst [.int z4]))
      have w26 : (upd H5 l (.lst [.int z4])) fs[j] = some (.lst cs) := by rw [upd_ne hrl]; exact w2
      have cells6 : Cells K (upd H5 l (.lst [.int z4])) cs := fun v hv => let ⟨o, d, c⟩ := cells v hv; ⟨o, d, c.but hl5 SameB.upd⟩
      have hl6 : (upd H5 l (.lst [.int z4])) l = some (.lst [.int z4]) := upd_same
      generalize upd H5 l (.lst [.int z4]) = H6 at B6 co6 w26 cells6 hl6 ⊢
      refine ⟨fs[j], cs, dd, dd.toNat, rfl, rfl, w26, ?_, ?_⟩
      · unfold ixN
        rw [if_pos d0, if_pos d5]
      refine ⟨_, rfl, rfl, _, rfl, iteF ?_⟩
      refine ⟨_, rfl, rfl, _, rfl, iteF ?_⟩
      refine ⟨_, rfl, ?_⟩
      have refs := frn_refs w3
      have sr : SameB fs[j] H6 (upd H6 fs[j] (.lst (cs.set dd.toNat ov))) := SameB.upd
      have hD6 : (upd H6 fs[j] (.lst (cs.set dd.toNat ov))) D = some (.lst (fs.map V.ref)) := by rw [upd_ne (Ne.symm hrF)]; exact B6.w.1
      obtain ⟨o, d, tg⟩ := tg_lst (K := K) (l := l) (H := upd H6 fs[j] (.lst (cs.set dd.toNat ov))) (a := D) hD6 B6.nF (fun x hx => by
        by_cases e : x = .ref fs[j]
        · rw [e]
          refine RowV.lst upd_same hrl ?_ (by rw [List.length_set]; omega)
          intro v hv
          obtain ⟨o, d, c⟩ := (cells6.set (j := dd.toNat) co6) v hv
          exact ⟨o, d, c.put w26 refs⟩
        · exact (rows_v B6.w.2 B6.nl hlen61 x hx).put w26 refs e) (by rw [List.length_map]; omega)
      refine q _ _ _ z4 _ (fun b u hb e => ?_) (by rw [upd_ne (Ne.symm hrl)]; exact hl6) tg
      rw [upd_ne (ne_of_none e (B6.fr _ (List.getElem_mem hj)))]
      exact B6.k b u hb e
    · refine ⟨_, rfl, rfl, _, rfl, iteF ?_⟩
      refine ⟨_, rfl, rfl, _, rfl, iteF ?_⟩
      refine ⟨_, rfl, rfl, _, rfl, iteF ?_⟩
      refine ⟨_, rfl, rfl, _, rfl, iteF ?_⟩
      refine ⟨_, rfl, rfl, _, rfl, iteF ?_⟩
      refine ⟨_, rfl, rfl, _, rfl, iteT ?_⟩
      refine ⟨_, rfl, _, rfl, D, _, _, .ref fs[j], rfl, rfl, SqL.of ((Same.refl H5) _ _ B5.w.1), ix, ?_⟩
      refine ⟨(by show 2 ≤ sizeLine; decide), fun p1 np1 => ?_⟩
      have sp1 := same_new np1 (.tup [V.int 1, V.int 3])
      have ep1 : (upd H5 p1 (.tup [V.int 1, V.int 3])) p1 = some (.tup [V.int 1, V.int 3]) := upd_same
      generalize upd H5 p1 (.tup [V.int 1, V.int 3]) = H6 at sp1 ep1 ⊢
      refine ⟨1, rfl, ?_⟩
      refine ⟨(by show 2 ≤ sizeLine; decide), fun p2 np2 => ?_⟩
      have sp2 := same_new np2 (.tup [V.int (-1), V.int 3])
      have ep2 : (upd H6 p2 (.tup [V.int (-1), V.int 3])) p2 = some (.tup [V.int (-1), V.int 3]) := upd_same
      generalize upd H6 p2 (.tup [V.int (-1), V.int 3]) = H7 at sp2 ep2 ⊢
      refine ⟨(by show 2 ≤ sizeLine; decide), fun p3 np3 => ?_⟩
      have sp3 := same_new np3 (.lst [V.ref p1, V.ref p2])
      have ep3 : (upd H7 p3 (.lst [V.ref p1, V.ref p2])) p3 = some (.lst [V.ref p1, V.ref p2]) := upd_same
      generalize upd H7 p3 (.lst [V.ref p1, V.ref p2]) = H8 at sp3 ep3 ⊢
      have S8 := (sp1.trans sp2).trans sp3
      refine ⟨fs[j], p3, cs, [V.ref p1, V.ref p2], rfl, rfl, S8 _ _ w2, ep3, ?_, fun p4 np4 => ?_⟩
      · rw [hcl]
        exact Nat.le_of_lt (small1000 (by show m + 2 ≤ 1000; omega))
      have sp4 := same_new np4 (.lst (cs ++ [V.ref p1, V.ref p2]))
      have ep4 : (upd H8 p4 (.lst (cs ++ [V.ref p1, V.ref p2]))) p4 = some (.lst (cs ++ [V.ref p1, V.ref p2])) := upd_same
      generalize upd H8 p4 (.lst (cs ++ [V.ref p1, V.ref p2])) = H9 at sp4 ep4 ⊢
      have S9 := S8.trans sp4
      have B9 := B5.same S9
      have cp1 : Cl K H9 (.ref p1) _ _ := .fr (q := mkRat 1 3) (SqT.of (((sp2.trans sp3).trans sp4) _ _ ep1)) (by unfold Bd; decide +kernel)
      have cp2 : Cl K H9 (.ref p2) _ _ := .fr (q := mkRat (-1) 3) (SqT.of (by rw [rp_third]; exact (sp3.trans sp4) _ _ ep2)) (by unfold Bd; decide +kernel)
      have cells9 : Cells K H9 (cs ++ [V.ref p1, V.ref p2]) := (cells.same S9).app (Cells.app (vs := [V.ref p1]) (us := [V.ref p2]) (Cells.one cp1) (Cells.one cp2))
      have fz := S8.free np4
      refine ⟨_, rfl, _, rfl, D, _, _, j, rfl, rfl, B9.w.1, ixs, ?_⟩
      refine ⟨_, rfl, rfl, _, rfl, iteF ?_⟩
      refine ⟨_, rfl, fin (.ref p4) _ z3 B9 (S9 _ _ hl5) (RowV.lst ep4 (fun e => ?_) cells9 (by rw [List.length_append, hcl]; show m + 2 ≤ 61; omega)) (fun e => ?_)⟩
      · rw [e, hl5] at fz
        cases fz
      · rw [V.ref.inj e, B5.w.1] at fz
        cases fz
    · refine ⟨_, rfl, rfl, _, rfl, iteF ?_⟩
      refine ⟨_, rfl, rfl, _, rfl, iteF ?_⟩
      refine ⟨_, rfl, rfl, _, rfl, iteF ?_⟩
      refine ⟨_, rfl, rfl, _, rfl, iteF ?_⟩
      refine ⟨_, rfl, rfl, _, rfl, iteF ?_⟩
      refine ⟨_, rfl, rfl, _, rfl, iteF ?_⟩
      refine ⟨_, rfl, rfl, _, rfl, iteT ?_⟩
      refine ⟨_, rfl, D, rfl, ⟨_, SqL.of B5.w.1⟩, fun E6 nE6 => lc_list (K := K) (a := D) (xs := fs.map V.ref) (fun i H' => ∃ (vs : List Addr) (z' : Int), vs.length = i ∧ H' E6 = some (.lst (vs.map V.ref)) ∧ E6 ∉ vs ∧ H' l = some (.lst [.int z']) ∧ SameB l H5 H' ∧ (∀ v ∈ vs.map V.ref, RowV K H' l v) ∧ ∀ x ∈ vs, ∃ c, H' x = some (.lst c) ∧ x ≠ l)
        ⟨[], z3, rfl, upd_same, by simp, by rw [upd_ne (ne_of_none hl5 nE6)]; exact hl5, SameB.of (same_new nE6 _), fun v hv => (by simp at hv), fun v hv => (by simp at hv)⟩ (fun i H' _ ⟨_, _, _, _, _, _, sb, _⟩ => SqL.of (sb _ _ B5.nF B5.w.1)) ?_ ?_⟩
      · rintro i v H6 hi ⟨vs, z', hvl, hE, nE, hl6, sb, rv, ls⟩
        obtain ⟨r, er, rfl⟩ : ∃ r, fs[i]? = some r ∧ v = .ref r := by
          rw [List.getElem?_map] at hi
          cases e : fs[i]? with
          | none => rw [e] at hi; cases hi
          | some r => rw [e] at hi; exact ⟨r, rfl, (Option.some.inj hi).symm⟩
        obtain ⟨cs', qs', y1, y2, y3⟩ := B5.w.2.2 i r er
        have hi5 : i < fs.length := (List.getElem?_eq_some_iff.mp er).1
        have hcl' : cs'.length = m := by
          rw [y3.len]
          exact hlen qs' (List.mem_of_getElem? y1)
        have hrl' : r ≠ l := fun e => B5.nl (by rw [← e]; exact List.mem_of_getElem? er)
        have hEl : E6 ≠ l := fun e => by
          rw [e, hl5] at nE6
          cases nE6
        have y26 := sb _ _ hrl' y2
        have cells' : Cells K H6 cs' := fun v hv => let ⟨o, d, c⟩ := frn_cells y3 (Nat.le_refl _) v hv; ⟨o, d, c.but hl5 sb⟩
        refine ⟨rfl, tYes_of ?_⟩
        refine ⟨_, rfl, ?_⟩
        refine ⟨(by show 2 ≤ sizeLine; decide), fun p1 np1 => ?_⟩
        have sp1 := same_new np1 (.tup [V.int 0, V.int 1])
        have ep1 : (upd H6 p1 (.tup [V.int 0, V.int 1])) p1 = some (.tup [V.int 0, V.int 1]) := upd_same
        generalize upd H6 p1 (.tup [V.int 0, V.int 1]) = H7 at sp1 ep1 ⊢
        refine ⟨(by show 1 ≤ sizeLine; decide), fun p2 np2 => ?_⟩
        have sp2 := same_new np2 (.lst [V.ref p1])
        have ep2 : (upd H7 p2 (.lst [V.ref p1])) p2 = some (.lst [V.ref p1]) := upd_same
        generalize upd H7 p2 (.lst [V.ref p1]) = H8 at sp2 ep2 ⊢
        have S8 := sp1.trans sp2
        have hl8 := S8 _ _ hl6
        refine ⟨_, rfl, l, z', 2, rfl, hl8, by decide, by decide, fun dd z4 d0 d2 => ?_⟩
        refine ⟨30, dd, rfl, rfl, ?_⟩
        have sb8 : SameB l H8 (upd H8 l (.lst [.int z4])) := SameB.upd
        have y28 := sb8 _ _ hrl' (S8 _ _ y26)
        have np2l : p2 ≠ l := fun e => by
          rw [e, hl8] at ep2
          cases ep2
        have ep2' := sb8 _ _ np2l ep2
        have cell1 : Cells K (upd H8 l (.lst [.int z4])) [V.ref p1] := Cells.one ((Cl.fr (q := 0) (SqT.of (sp2 _ _ ep1)) (by unfold Bd; decide +kernel)).but hl8 sb8)
        have cells8 : Cells K (upd H8 l (.lst [.int z4])) cs' := fun v hv => let ⟨o, d, c⟩ := (cells'.same S8) v hv; ⟨o, d, c.but hl8 sb8⟩
        have rv8 : ∀ v ∈ vs.map V.ref, RowV K (upd H8 l (.lst [.int z4])) l v := fun v hv => let ⟨o, d, c⟩ := (rv v hv).same S8; ⟨o, d, c.car (car_of hl8 sb8)⟩
        have ls8 : ∀ x ∈ vs, ∃ c, (upd H8 l (.lst [.int z4])) x = some (.lst c) ∧ x ≠ l := fun x hx => let ⟨c, h, hn⟩ := ls x hx; ⟨c, sb8 _ _ hn (S8 _ _ h), hn⟩
        have hE8 := sb8 _ _ hEl (S8 _ _ hE)
        have hl9 : (upd H8 l (.lst [.int z4])) l = some (.lst [.int z4]) := upd_same
        have SB := (sb.trans (SameB.of S8)).trans sb8
        generalize upd H8 l (.lst [.int z4]) = H9 at y28 ep2' cell1 cells8 rv8 ls8 hE8 hl9 SB ⊢
        refine ⟨_, rfl, r, cs', rfl, .inl (SqL.of y28), _, _, rfl, rfl, ?_⟩
        obtain ⟨kk, ek, hkk⟩ : ∃ kk : Nat, (30 + dd - (cs'.length : Int)) = (kk : Int) ∧ m + kk ≤ 31 := ⟨(30 + dd - (cs'.length : Int)).toNat, by omega, by omega⟩
        rw [show ((fun i j => V.int (i - j)) (30 + dd) (cs'.length : Int) : V) = V.int (kk : Int) from congrArg V.int ek]
        refine ⟨p2, (kk : Int), [V.ref p1], rfl, rfl, ep2', by omega, by omega, ?_, fun p3 np3 => ?_⟩
        · rw [Int.toNat_natCast, List.length_singleton, Nat.one_mul]
          exact Nat.le_of_lt (small1000 (by omega))
        have sp3 := same_new np3 (.lst (List.replicate (kk : Int).toNat [V.ref p1]).flatten)
        have ep3 : (upd H9 p3 (.lst (List.replicate (kk : Int).toNat [V.ref p1]).flatten)) p3 = some (.lst (List.replicate (kk : Int).toNat [V.ref p1]).flatten) := upd_same
        generalize upd H9 p3 (.lst (List.replicate (kk : Int).toNat [V.ref p1]).flatten) = H10 at sp3 ep3 ⊢
        have flen : ((List.replicate (kk : Int).toNat [V.ref p1]).flatten).length = kk := by
          rw [List.length_flatten, List.map_replicate, List.sum_replicate_nat, List.length_singleton, Nat.mul_one, Int.toNat_natCast]
        refine ⟨r, p3, cs', _, rfl, rfl, sp3 _ _ y28, ep3, ?_, fun p4 np4 => ?_⟩
        · rw [flen]
          exact Nat.le_of_lt (small1000 (by omega))
        have sp4 := same_new np4 (.lst (cs' ++ (List.replicate (kk : Int).toNat [V.ref p1]).flatten))
        have ep4 : (upd H10 p4 (.lst (cs' ++ (List.replicate (kk : Int).toNat [V.ref p1]).flatten))) p4 = some (.lst (cs' ++ (List.replicate (kk : Int).toNat [V.ref p1]).flatten)) := upd_same
        generalize upd H10 p4 (.lst (cs' ++ (List.replicate (kk : Int).toNat [V.ref p1]).flatten)) = H11 at sp4 ep4 ⊢
        have S11 := sp3.trans sp4
        have hE11 := S11 _ _ hE8
        have hl11 := S11 _ _ hl9
        have n4 : p4 ≠ l ∧ p4 ≠ E6 ∧ p4 ∉ vs := by
          have f4 := sp3.free np4
          refine ⟨fun e => (by rw [e, hl9] at f4; cases f4), fun e => (by rw [e, hE8] at f4; cases f4), fun hm => ?_⟩
          obtain ⟨c, h, _⟩ := ls8 p4 hm
          rw [h] at f4
          cases f4
        refine ⟨_, hE11, ?_, vs ++ [p4], z4, ?_, ?_, ?_, ?_, ?_, ?_, ?_⟩
        · rw [List.length_map, hvl]
          exact small1000 (by omega)
        · rw [List.length_append, hvl]
          rfl
        · rw [upd_same, List.map_append]
          rfl
        · intro hm
          rcases List.mem_append.mp hm with hm | hm
          · exact nE hm
          · exact n4.2.1 (List.mem_singleton.mp hm).symm
        · rw [upd_ne (Ne.symm hEl)]
          exact hl11
        · intro b u hb e
          rw [upd_ne (ne_of_none e nE6)]
          exact S11 _ _ (SB b u hb e)
        · intro v hv
          have ne : v ≠ .ref E6 := fun e => by
            rw [e] at hv
            obtain ⟨x, hx, e2⟩ := List.mem_map.mp hv
            rw [V.ref.inj e2] at hx
            rcases List.mem_append.mp hx with hx | hx
            · exact nE hx
            · exact n4.2.1 (List.mem_singleton.mp hx).symm
          refine RowV.put ?_ hE11 (map_refs vs) ne
          rw [List.map_append] at hv
          rcases List.mem_append.mp hv with hv | hv
          · exact (rv8 v hv).same S11
          · rw [List.mem_singleton.mp hv]
            exact RowV.lst ep4 n4.1 ((cells8.same S11).app ((cell1.same S11).rep _)) (by rw [List.length_append, flen]; omega)
        · intro x hx
          have ne : x ≠ E6 := fun e => by
            rw [e] at hx
            rcases List.mem_append.mp hx with hx | hx
            · exact nE hx
            · exact n4.2.1 (List.mem_singleton.mp hx).symm
          rw [upd_ne ne]
          rcases List.mem_append.mp hx with hx | hx
          · obtain ⟨c, h, hn⟩ := ls8 x hx
            exact ⟨c, S11 _ _ h, hn⟩
          · rw [List.mem_singleton.mp hx]
            exact ⟨_, ep4, n4.1⟩
      · rintro H6 ⟨vs, z', hvl, hE, nE, hl6, sb, rv, ls⟩
        have hEl : E6 ≠ l := fun e => by
          rw [e, hl5] at nE6
          cases nE6
        rw [List.length_map] at hvl
        obtain ⟨o, d, tg⟩ := tg_lst (K := K) (l := l) hE hEl rv (by rw [List.length_map]; omega)
        exact q _ _ _ z' _ (B5.k.trans sb) hl6 tg
    · refine ⟨_, rfl, rfl, _, rfl, iteF ?_⟩
      refine ⟨_, rfl, rfl, _, rfl, iteF ?_⟩
      refine ⟨_, rfl, rfl, _, rfl, iteF ?_⟩
      refine ⟨_, rfl, rfl, _, rfl, iteF ?_⟩
      refine ⟨_, rfl, rfl, _, rfl, iteF ?_⟩
      refine ⟨_, rfl, rfl, _, rfl, iteF ?_⟩
      refine ⟨_, rfl, rfl, _, rfl, iteF ?_⟩
      exact ⟨_, rfl, fin0⟩
    · refine ⟨_, rfl, rfl, _, rfl, iteF ?_⟩
      refine ⟨_, rfl, rfl, _, rfl, iteF ?_⟩
      refine ⟨_, rfl, rfl, _, rfl, iteF ?_⟩
      refine ⟨_, rfl, rfl, _, rfl, iteF ?_⟩
      refine ⟨_, rfl, rfl, _, rfl, iteF ?_⟩
      refine ⟨_, rfl, rfl, _, rfl, iteF ?_⟩
      refine ⟨_, rfl, rfl, _, rfl, iteF ?_⟩
      exact ⟨_, rfl, fin0⟩
end
end K9

set_option Elab.async false
set_option linter.all false
set_option maxRecDepth 100000
set_option maxHeartbeats 8000000
namespace K9
open PySem PySem.Spec PyProof.Rows L2 BX EXB Co Ru
open Rs (Rsp Rv Ret tYes_of dV datR Flat Okr spShares spRowsL)
open Fr (Bd)
def spLaw (K : PySem.W.Frag) : Sp := fun vs H Q _ => ∃ (a : Addr) (ns : List Int), vs = [.ref a] ∧ SqL K H a (ns.map V.int) ∧ ns.length ≤ 63 ∧ ∀ H', Q (.bl true) H'
theorem nat_lay : ∀ n : Fin 64, (PyData.str (PyData.int ((n.val : Nat) : Int)).shown).canLay0 = true := by decide +kernel
theorem okr_T {o : Option (List Ro)} (hl : ∀ os, o = some os → os.length ≤ 30) : Okr (resT o) := by
  unfold resT
  cases e : badT o with
  | none => exact True.intro
  | some r =>
    intro v hv
    have hv' : v ∈ [V.str "none", V.str (dV r).shown] := hv
    rcases List.mem_cons.mp hv' with rfl | hv'
    · exact Rs.fl_str (by decide +kernel)
    · rw [List.mem_singleton.mp hv']
      rcases badT_sh hl e with rfl | ⟨j, hj, rfl⟩
      · exact Rs.fl_str (by decide +kernel)
      · exact Rs.fl_str (nat_lay ⟨j, hj⟩)
theorem rows_rw {K : PySem.W.Frag} {H : Hp} {l : Addr} {m : Nat} : ∀ {rs : List Addr} {rss : List (List Rat)}, RowsAt K H 8 rs rss → l ∉ rs → (∀ qs ∈ rss, qs.length ≤ 61) → RwL' K H l (rs.map V.ref) (sRs rss) (rss.map fun qs => .list (qs.map dR))
  | [], [], _, _, _ => .nil
  | [], _ :: _, h, _, _ => by have := h.1; simp at this
  | _ :: _, [], h, _, _ => by have := h.1; simp at this
  | r :: rs, q :: rss, h, hn, hl => by
    obtain ⟨cs, qs, e1, e2, e3⟩ := h.2 0 r rfl
    have e : q = qs := Option.some.inj e1
    subst e
    refine .cons (.lst e2 (fun z => hn (by rw [z]; exact List.mem_cons_self ..)) (frn_cl e3) (by rw [List.length_map]; exact hl q (List.mem_cons_self ..))) (rows_rw (m := m) ⟨by have := h.1; simpa using this, fun j x e => h.2 (j + 1) x e⟩ (fun z => hn (List.mem_cons_of_mem _ z)) fun qs hq => hl qs (List.mem_cons_of_mem _ hq))
theorem tg_good {K : PySem.W.Frag} {H : Hp} {l a : Addr} {z : Int} {rs : List Addr} {rss : List (List Rat)} {m : Nat} (h : RwL K H a rs rss 8) (hg : Good rss m) (hl : H l = some (.lst [.int z])) : Tg K H l (.ref a) (some (sRs rss)) (dRows rss) :=
  .lst h.1 (Rs.ne_num hl h) (rows_rw (m := m) h.2 (Rs.nr_num hl h.2) fun qs hq => by have := (hg.row qs hq).1; have := hg.m30; omega) (by rw [List.length_map]; have := hg.w5; omega)
theorem sum_some (qs : List Rat) : sumO (qs.map some) = qs.sum := by
  unfold sumO
  rw [List.map_map]
  congr 1
  exact List.map_id _
theorem all_some {qs : List Rat} (h : ∀ q ∈ qs, 0 ≤ q) : (qs.map some).all shB = true := by
  rw [List.all_eq_true]
  intro o ho
  obtain ⟨q, hq, rfl⟩ := List.mem_map.mp ho
  exact decide_eq_true (Rat.num_nonneg.mpr (h q hq))
theorem fw_good {m : Nat} : ∀ (rss : List (List Rat)) (j : Nat) (lo hi : Int), (∀ qs ∈ rss, RowOk m qs) → lo ≤ (m : Int) → (m : Int) ≤ hi → firstWrong (sRs rss) j lo hi = none
  | [], _, _, _, _, _, _ => rfl
  | q :: rss, j, lo, hi, h, h1, h2 => by
    have hq := h q (List.mem_cons_self ..)
    have c : rowOk (some (q.map some)) lo hi = true := by
      show (lenOk (some (q.map some).length) lo hi && ((q.map some).all shB && decide (sumO (q.map some) = 1))) = true
      rw [all_some hq.2.1, sum_some, decide_eq_true hq.2.2, List.length_map, hq.1]
      show (decide _ && decide _ && _) = true
      rw [decide_eq_true h1, decide_eq_true h2]
      rfl
    show firstWrong (some (q.map some) :: sRs rss) j lo hi = none
    rw [firstWrong, if_pos c]
    have e : ((Option.map List.length (some (q.map some))).getD 0 : Nat) = m := by
      show (q.map some).length = m
      rw [List.length_map, hq.1]
    rw [e]
    exact fw_good rss _ _ _ (fun qs hx => h qs (List.mem_cons_of_mem _ hx)) (Int.le_refl _) (Int.le_refl _)
theorem bad_good {rss : List (List Rat)} {m : Nat} (hg : Good rss m) : badT (some (sRs rss)) = none := by
  have e : badT (some (sRs rss)) = if lenOk (some (sRs rss).length) 1 5 = true then (firstWrong (sRs rss) 0 1 30).map fun j => V.int (j : Nat) else some .non := rfl
  have h1 := hg.w1
  have h5 := hg.w5
  have m1 := hg.m1
  have m30 := hg.m30
  rw [e, if_pos, fw_good (m := m) rss 0 1 30 hg.row (by omega) (by omega)]
  · rfl
  · show (decide _ && decide _) = true
    rw [List.length_map, decide_eq_true (by omega), decide_eq_true (by omega)]
    rfl
theorem sRs_inj : ∀ {r1 r2 : List (List Rat)}, sRs r1 = sRs r2 → r1 = r2
  | [], [], _ => rfl
  | [], _ :: _, h => by cases h
  | _ :: _, [], h => by cases h
  | a :: r1, b :: r2, h => by
    have h1 : (some (a.map some) : Ro) :: sRs r1 = some (b.map some) :: sRs r2 := h
    rw [List.cons.injEq] at h1
    rw [sRs_inj h1.2]
    have h2 := Option.some.inj h1.1
    rw [List.map_inj_right (fun x y e => Option.some.inj e)] at h2
    rw [h2]
theorem tab3 {d : Int} (h0 : 0 ≤ d) (h2 : d < 3) : ∃ v : Nat, atI [V.int 3, V.int 8, V.int 30] d = some (V.int (v : Int)) ∧ 1 ≤ v ∧ v ≤ 30 := by
  have : d = 0 ∨ d = 1 ∨ d = 2 := by omega
  rcases this with rfl | rfl | rfl
  · exact ⟨3, atI_nat (j := 0) rfl, by decide, by decide⟩
  · exact ⟨8, atI_nat (j := 1) rfl, by decide, by decide⟩
  · exact ⟨30, atI_nat (j := 2) rfl, by decide, by decide⟩
section
variable {P : Program} {w : World} {K : PySem.W.Frag} {mg : Str → Option Value} {base : Heap} {C fI fRo CN fN : Addr}
/-- Rule(rows) of good rows -/
theorem mk_ruleC {H : Hp} {a l : Addr} {z : Int} {rs : List Addr} {rss : List (List Rat)} {m : Nat} {Q : Addr → Hp → Prop} (hl : H l = some (.lst [.int z])) (hw : RwL K H a rs rss 8) (hg : Good rss m) (q : ∀ x H', Same H H' → H x = none → IsRule K H' C x rss 8 → Q x H') :
    ∀ x dx, H x = none → H dx = none → dx ≠ x → spInitC K C CN [.ref x, .ref a] (upd (upd H dx (.own x)) x (.ins C dx [])) (fun v H2 => v = .non ∧ Q x H2) E0 := by
  intro x dx hx hdx hne
  have s1 := same_new hdx (.own x)
  have hx1 : (upd H dx (.own x)) x = none := by rw [upd_ne (Ne.symm hne)]; exact hx
  have s2 := s1.trans (same_new hx1 (.ins C dx []))
  refine ⟨l, x, .ref a, _, _, dx, rfl, upd_same, (tg_good hw hg hl).same s2, fun r er => ?_, fun _ ra rs' rss' H' kp hx' hw' eo => ⟨rfl, ?_⟩⟩
  · rw [bad_good hg] at er
    cases er
  · have er : rss = rss' := sRs_inj (Option.some.inj eo)
    subst er
    exact q x H' (fun b o e => kp b o (ne_of_none e hx) (s2 _ _ e)) hx ⟨dx, ra, rs', hx', hw'⟩
structure Defs (P : Program) (w : World) (K : PySem.W.Frag) (mg : Str → Option Value) (base : Heap) (C fI fRo CN : Addr) (k : Nat) : Prop where
  T : RuT K mg C fI fRo
  init : ∃ fd, FnOk P w K mg base (L2.CX P w) k fI fd ["self", "rows"] (spInitC K C CN) ∧ Binds K fd ["self", "rows"] []
  rrows : ∃ fd, FnOk P w K mg base CX0 k fRo fd ["self"] (spRRows K C) ∧ Binds K fd ["self"] []
  left : ∃ f fd, FnOk P w K mg base CX0 k f fd ["_law_cell"] spLeft ∧ PySem.W.keepIn K (.ref f) = true ∧ Binds K fd ["_law_cell"] [] ∧ mg "_law_left" = some (.ref f)
  dig : ∃ f fd, FnOk P w K mg base CX0 k f fd ["_law_left_here", "_law_many"] spDigit ∧ PySem.W.keepIn K (.ref f) = true ∧ Binds K fd ["_law_left_here", "_law_many"] [] ∧ mg "_law_digit" = some (.ref f)
  rows : ∃ f fd, FnOk P w K mg base CX0 k f fd ["_law_left_here", "_law_worlds", "_law_upto"] (spRowsL K) ∧ PySem.W.keepIn K (.ref f) = true ∧ Binds K fd ["_law_left_here", "_law_worlds", "_law_upto"] [] ∧ mg "_law_rows" = some (.ref f)
  bent : ∃ f fd, FnOk P w K mg base CX0 k f fd ["_law_left_here", "_law_rows_here"] (spBent K) ∧ PySem.W.keepIn K (.ref f) = true ∧ Binds K fd ["_law_left_here", "_law_rows_here"] [] ∧ mg "_law_bent" = some (.ref f)
  told : ∃ f fd, FnOkG P w K mg base CX0 k f fd ["_law_rows_here"] (spTold K) ∧ PySem.W.keepIn K (.ref f) = true ∧ Binds K fd ["_law_rows_here"] [] ∧ mg "_law_told" = some (.ref f)
  due : ∃ f fd, FnOk P w K mg base CX0 k f fd ["_law_rows_here"] (spTold K) ∧ PySem.W.keepIn K (.ref f) = true ∧ Binds K fd ["_law_rows_here"] [] ∧ mg "_law_due" = some (.ref f)
theorem scLaw : FnScope ["_law_script", "_law_cell", "_law_left_here", "_law_rows_here", "_law_thing", "_law_kept"] ["_law_script"] (defScope sLaw) := ⟨rfl, rfl, rfl, by decide +kernel, rfl, by decide +kernel, by decide +kernel⟩
theorem ok_law {f : Addr} {fd : FuncData} {k : Nat} (F : Fun K "law" "law" sLaw f fd) (D : Defs P w K mg base C fI fRo CN k) (B : Blt mg) : FnOkG P w K mg base CX0 (k + 2) f fd ["_law_script"] (spLaw K) := by
  obtain ⟨fdI, GI, bI⟩ := D.init
  obtain ⟨fdR, GR, bR⟩ := D.rrows
  obtain ⟨f1, fd1, G1, k1, b1, g1⟩ := D.left
  obtain ⟨f2, fd2, G2, k2, b2, g2⟩ := D.dig
  obtain ⟨f3, fd3, G3, k3, b3, g3⟩ := D.rows
  obtain ⟨f4, fd4, G4, k4, b4, g4⟩ := D.bent
  obtain ⟨f5, fd5, G5, k5, b5, g5⟩ := D.told
  obtain ⟨f6, fd6, G6, k6, b6, g6⟩ := D.due
  refine okG F scLaw (fun vs H Q E h => ?_) (fun cdv A outer s H vs Q E hr hgd h => ?_)
  · obtain ⟨a, ns, rfl, _⟩ := h
    rfl
  · obtain ⟨a, ns, rfl, hS, hlen, q⟩ := h
    have hk : Room k _ := hr.mono (by omega)
    have hu : (A.deeper (envOfC "law" (defScope sLaw) s.heap.objs.size f cdv)).units + 80 < cLine := by have := hr.un; omega
    refine ⟨_, (pss_cons (ps_for PassesOwn.never rfl (pi_list (pe_op op_cat (pe_slice sl_list (pv 0) po_none (po_some pe_int)) (pe_lst (pa_cons pe_int pa_nil)))) (pg_name (i := 1) scLaw.nd rfl (.inl rfl)) (pss_cons (ps_set (i := 2) scLaw.nd rfl (.inl rfl) (pe_call G1 hk (by rfl) g1 k1 b1 .nil pass0 (pa_cons (pv 1) pa_nil)))
      (pss_cons (ps_set (i := 3) scLaw.nd rfl (.inl rfl) (pe_call G3 hk (by rfl) g3 k3 b3 .nil pass0 (pa_cons (pv 2) (pa_cons (pe_op op_add pe_int (pe_call G2 hk (by rfl) g2 k2 b2 .nil pass0 (pa_cons (pv 2) (pa_cons pe_int pa_nil)))) (pa_cons (pe_ix ix_list (pe_lst (pa_cons pe_int (pa_cons pe_int (pa_cons pe_int pa_nil)))) (pe_call G2 hk (by rfl) g2 k2 b2 .nil pass0 (pa_cons (pv 2) (pa_cons pe_int pa_nil))) (fun _ _ => rfl)) pa_nil)))))
      (pss_cons (ps_for PassesOwn.never rfl (pi_list (pe_lst (pa_cons (pv 3) (pa_cons (pe_call G4 hk (by rfl) g4 k4 b4 .nil pass0 (pa_cons (pv 2) (pa_cons (pv 3) pa_nil))) (pa_cons (pe_call G4 hk (by rfl) g4 k4 b4 .nil pass0 (pa_cons (pv 2) (pa_cons (pv 3) pa_nil))) pa_nil))))) (pg_name (i := 4) scLaw.nd rfl (.inl rfl)) (pss_cons (ps_set (i := 5) scLaw.nd rfl (.inl rfl) (pe_callB (call_reprD hgd hu) (by rfl) B.repr_ (by decide +kernel) (pa_cons (pv 4) pa_nil)))
      (pss_one (ps_if (PW.pt (pw_or (pt_cmpR (op_neD hk.units) (pe_callG G5 hk hgd (by rfl) g5 k5 b5 .nil pass0 (pa_cons (pv 4) pa_nil)) (pe_call G6 hk (by rfl) g6 k6 b6 .nil pass0 (pa_cons (pv 4) pa_nil)) (nomark _)) (pw_or1 (pt_cmpR op_ne (pe_callB (call_reprD hgd hu) (by rfl) B.repr_ (by decide +kernel) (pa_cons (pv 4) pa_nil)) (pv 5) (nomark _))))) (pss_one (ps_ret pe_bl)) pss_nil))))
      (pss_one (ps_if (pt_cmpR (op_neD hk.units) (pe_meth0 (pe_make D.T.mkC (Rs.quiet GI) hr (by rfl) D.T.gC bI .nil pass0 (pa_cons (pv 3) pa_nil)) D.T.cl D.T.mR GR hk bR .nil pass0) (pv 3) (nomark _)) (pss_one (ps_ret pe_bl)) pss_nil))))))
      (pss_one (ps_ret pe_bl))), ?_⟩
    refine ⟨.ref a, rfl, 20, rfl, a, ns.map V.int, rfl, hS, fun p8 n8 => ?_⟩
    have z8 := same_new n8 (.lst (cutV (ns.map V.int) none (some 20)))
    refine ⟨(by show 1 ≤ sizeLine; decide), fun p9 n9 => ?_⟩
    have z9 := same_new n9 (.lst [V.int 4])
    refine ⟨p8, p9, _, _, rfl, rfl, z9 _ _ upd_same, upd_same, ?_, fun L nL => ?_⟩
    · have h1 := cutV_length (ns.map V.int) none (some 20)
      rw [List.length_map] at h1
      rw [List.length_singleton]
      exact Nat.le_of_lt (small1000 (by omega))
    refine ⟨L, rfl, ⟨_, SqL.of upd_same⟩, for_list (K := K) (a := L) (xs := cutV (ns.map V.int) none (some 20) ++ [V.int 4]) (fun i σ H' => ∃ y1 y2 y3 y4 y5 : Option V, σ = [some (.ref a), y1, y2, y3, y4, y5] ∧ H' L = some (.lst (cutV (ns.map V.int) none (some 20) ++ [V.int 4])))
      ⟨_, _, _, _, _, rfl, upd_same⟩ (fun i σ H' _ ⟨_, _, _, _, _, _, e⟩ => SqL.of e) ?_ ?_⟩
    rotate_left
    · rintro σ H1 ⟨y1, y2, y3, y4, y5, rfl, _⟩
      exact q _
    rintro i xx σ H0 hi ⟨y1, y2, y3, y4, y5, rfl, hL⟩
    obtain ⟨c, rfl⟩ := int_of hi
    clear hi
    generalize cutV (ns.map V.int) none (some 20) ++ [V.int 4] = xs at hL ⊢
    refine ⟨_, rfl, c, rfl, fun l n nl => ?_⟩
    have hLl : L ≠ l := ne_of_none hL nl
    have hl1 : (upd H0 l (.lst [.int n])) l = some (.lst [.int n]) := upd_same
    have hL1 : (upd H0 l (.lst [.int n])) L = some (.lst xs) := by rw [upd_ne hLl]; exact hL
    generalize upd H0 l (.lst [.int n]) = H1 at hl1 hL1 ⊢
    clear hL nl
    -- rows
    refine ⟨_, rfl, _, rfl, l, n, 5, rfl, hl1, by decide, by decide, fun d1 z1 a0 a5 => ?_⟩
    refine ⟨1, d1, rfl, rfl, ?_⟩
    obtain ⟨ww, ew⟩ : ∃ ww : Nat, (1 + d1 : Int) = (ww : Int) := ⟨(1 + d1).toNat, by omega⟩
    rw [show ((fun i j => V.int (i + j)) 1 d1 : V) = V.int (ww : Int) from congrArg V.int ew]
    refine ⟨(by show 3 ≤ sizeLine; decide), fun p np => ?_⟩
    have v1 := same_new np (.lst [V.int 3, V.int 8, V.int 30])
    have hpl : p ≠ l := fun e => by
      rw [e, upd_same] at np
      cases np
    refine ⟨_, rfl, l, z1, 3, rfl, v1 _ _ upd_same, by decide, by decide, fun d2 z2 b0 b2 => ?_⟩
    obtain ⟨up, eu, u1, u30⟩ := tab3 b0 b2
    refine ⟨p, _, d2, .int (up : Int), rfl, rfl, SqL.of (by rw [upd_ne hpl, upd_same]), eu, ?_⟩
    have sb : SameB l H1 (upd (upd (upd H1 l (.lst [.int z1])) p (.lst [V.int 3, V.int 8, V.int 30])) l (.lst [.int z2])) := (SameB.upd.trans (SameB.of v1)).trans SameB.upd
    have hl2 : (upd (upd (upd H1 l (.lst [.int z1])) p (.lst [V.int 3, V.int 8, V.int 30])) l (.lst [.int z2])) l = some (.lst [.int z2]) := upd_same
    generalize upd (upd (upd H1 l (.lst [.int z1])) p (.lst [V.int 3, V.int 8, V.int 30])) l (.lst [.int z2]) = H2 at sb hl2 ⊢
    refine ⟨l, z2, ww, up, rfl, hl2, by omega, by omega, u1, u30, fun R rs rss m z3 H3 N hRl hl3 hg hlen3 hm3 => ?_⟩
    have hL3 := (sb.trans N.keep) _ _ hLl hL1
    have W3 := N.rwl
    clear N sb hl2 hL1 hl1 np v1 hpl
    -- the things
    refine ⟨_, rfl, ?_⟩
    refine ⟨_, rfl, _, rfl, l, R, z3, rs, rss, m, rfl, hl3, W3, hg, fun v1 o1 e1 z4 H4 sb4 hl4 t1 => ?_⟩
    have W4 := Rs.RwL.keepB W3 hl3 sb4
    refine ⟨_, rfl, _, rfl, l, R, z4, rs, rss, m, rfl, hl4, W4, hg, fun v2 o2 e2 z5 H5 sb5 hl5 t2 => ?_⟩
    have W5 := Rs.RwL.keepB W4 hl4 sb5
    have t1 := t1.car (car_of hl4 sb5)
    have t0 := tg_good W5 hg hl5
    have hL5 := (sb4.trans sb5) _ _ hLl hL3
    clear W3 W4 hL3 hl3 hl4 sb4 sb5
    refine ⟨(by show 3 ≤ sizeLine; decide), fun TL nTL => ?_⟩
    have sT := same_new nTL (.lst [V.ref R, v1, v2])
    have eTL : (upd H5 TL (.lst [V.ref R, v1, v2])) TL = some (.lst [V.ref R, v1, v2]) := upd_same
    generalize upd H5 TL (.lst [V.ref R, v1, v2]) = H6 at sT eTL ⊢
    have tgs : ∀ (i : Nat) (v : V), [V.ref R, v1, v2][i]? = some v → ∃ o d, Tg K H6 l v o d := fun i v e => by
      match i, e with
      | 0, e => cases (Option.some.inj e); exact ⟨_, _, t0.same sT⟩
      | 1, e => cases (Option.some.inj e); exact ⟨_, _, t1.same sT⟩
      | 2, e => cases (Option.some.inj e); exact ⟨_, _, t2.same sT⟩
    refine ⟨TL, rfl, ⟨_, SqL.of eTL⟩, for_list (K := K) (a := TL) (xs := [V.ref R, v1, v2]) (fun i σ H' => ∃ w4 w5 : Option V, σ = [some (.ref a), some (.int c), some (.ref l), some (.ref R), w4, w5] ∧ Same H6 H') ⟨_, _, rfl, Same.refl _⟩ (fun i σ H' _ ⟨_, _, _, s⟩ => SqL.of (s _ _ eTL)) ?_ ?_⟩
    · rintro j v σ H7 hj ⟨w4, w5, rfl, s7⟩
      obtain ⟨o, d, tg6⟩ := tgs j v hj
      have tg := tg6.same s7
      have sh := tg.sh
      have ok : Okr (resT o) := okr_T tg.len30
      refine ⟨_, rfl, v, d, rfl, tg.dq, sh.1, sh.2.1, sh.2.2, ?_⟩
      refine ⟨_, rfl, l, v, o, d, rfl, tg, fun r1 H8 s8 hr1 => ?_⟩
      refine ⟨_, rfl, l, v, o, d, rfl, tg.same s8, fun r2 H9 s9 hr2 => ?_⟩
      refine ⟨_, _, (hr1.same s9).dp ok, hr2.dp ok, Rs.datR_sh ok, Rs.datR_sh ok, _, rfl, ?_⟩
      rw [SeqAt.eqv_refl _ (Rs.datR_lay ok)]
      refine iteF ?_
      refine ⟨_, rfl, v, d, rfl, (tg.same (s8.trans s9)).dq, sh.1, sh.2.1, sh.2.2, _, rfl, rfl, _, rfl, ?_⟩
      rw [decide_eq_true rfl]
      refine iteF ⟨_, _, rfl, s7.trans (s8.trans s9)⟩
    · rintro σ H7 ⟨w4, w5, rfl, s7⟩
      have s8 := sT.trans s7
      refine ⟨_, rfl, ?_⟩
      refine mk_ruleC (s8 _ _ hl5) (W5.same s8) hg fun x H8 s9 hx8 R8 => ?_
      obtain ⟨dx, ra, rsx, ex, ew⟩ := id R8
      refine ⟨x, dx, _, rfl, ex, rfl, x, rss, 8, rfl, R8, by have := hg.w5; omega, fun E rsE HE fE => ?_⟩
      have uE := fE.2.2.2.2.2
      refine ⟨_, rfl, _, _, fE.1.dp, ((W5.same s8).same (s9.trans uE)).dp, dRows_shaped _, dRows_shaped _, _, rfl, ?_⟩
      rw [SeqAt.eqv_refl _ (dRows_lay _)]
      refine iteF ?_
      exact ⟨_, _, _, _, _, rfl, (s8.trans (s9.trans uE)) _ _ hL5⟩
end
end K9

set_option Elab.async false
set_option linter.all false
set_option maxRecDepth 100000
set_option maxHeartbeats 8000000
namespace K9
open PySem PySem.Spec PyProof.Rows L2 BX EXB Co Ru
theorem all_mk {l : PySem.W.OpenLaw} {w : World} {K : PySem.W.Frag} {h : Heap} {mg : Str → Option Value} {fa C_N f_i_N f_d_is_whole f_d_is_ratio f_d_plus f_d_lowest f_d_divisor f_d_is_list_of f_d_is_share f_d_is_share_row f_d_wrong_row f_d_copied_rows f_d_law_left f_d_law_digit f_d_law_low f_d_law_plus f_d_law_shares f_d_law_rows f_d_law_whole f_d_law_is_share f_d_law_due f_d_law_bent f_d_law_told f_d_law f_d_total T_d_total C_R f_m_R_init f_m_R_rows : Addr} (X : K.In h) (G : h.Ns mainGlobals mg) (hfa : mg "law" = some (.ref fa)) {nm_N q_N : Str} {N_N : Addr} {bs_N : List Value} {sn_N : List Str} {su_N : List Value} {ab_N : Bool} {co_N : Option Bool} {dd_N : Option Addr} {m0_N m1_N m2_N m3_N m5_N : Option Value} {oT_d_total : Obj} {nT_d_total : Nat} {tk5 tk30 : Tok}
    {od_i_N an_i_N : Option Addr} {sl_i_N : Array (Option Value)} {oc_i_N kV_i_N dc_i_N pm_i_N cd_i_N ct_i_N : Value}
    {od_d_is_whole an_d_is_whole : Option Addr} {sl_d_is_whole : Array (Option Value)} {oc_d_is_whole kV_d_is_whole dc_d_is_whole pm_d_is_whole cd_d_is_whole ct_d_is_whole : Value}
    {od_d_is_ratio an_d_is_ratio : Option Addr} {sl_d_is_ratio : Array (Option Value)} {oc_d_is_ratio kV_d_is_ratio dc_d_is_ratio pm_d_is_ratio cd_d_is_ratio ct_d_is_ratio : Value}
    {od_d_plus an_d_plus : Option Addr} {sl_d_plus : Array (Option Value)} {oc_d_plus kV_d_plus dc_d_plus pm_d_plus cd_d_plus ct_d_plus : Value}
    {od_d_lowest an_d_lowest : Option Addr} {sl_d_lowest : Array (Option Value)} {oc_d_lowest kV_d_lowest dc_d_lowest pm_d_lowest cd_d_lowest ct_d_lowest : Value}
    {od_d_divisor an_d_divisor : Option Addr} {sl_d_divisor : Array (Option Value)} {oc_d_divisor kV_d_divisor dc_d_divisor pm_d_divisor cd_d_divisor ct_d_divisor : Value}
    {od_d_is_list_of an_d_is_list_of : Option Addr} {sl_d_is_list_of : Array (Option Value)} {oc_d_is_list_of kV_d_is_list_of dc_d_is_list_of pm_d_is_list_of cd_d_is_list_of ct_d_is_list_of : Value}
    {od_d_is_share an_d_is_share : Option Addr} {sl_d_is_share : Array (Option Value)} {oc_d_is_share kV_d_is_share dc_d_is_share pm_d_is_share cd_d_is_share ct_d_is_share : Value}
    {od_d_is_share_row an_d_is_share_row : Option Addr} {sl_d_is_share_row : Array (Option Value)} {oc_d_is_share_row kV_d_is_share_row dc_d_is_share_row pm_d_is_share_row cd_d_is_share_row ct_d_is_share_row : Value}
    {od_d_wrong_row an_d_wrong_row : Option Addr} {sl_d_wrong_row : Array (Option Value)} {oc_d_wrong_row kV_d_wrong_row dc_d_wrong_row pm_d_wrong_row cd_d_wrong_row ct_d_wrong_row : Value}
    {od_d_copied_rows an_d_copied_rows : Option Addr} {sl_d_copied_rows : Array (Option Value)} {oc_d_copied_rows kV_d_copied_rows dc_d_copied_rows pm_d_copied_rows cd_d_copied_rows ct_d_copied_rows : Value}
    {od_d_law_left an_d_law_left : Option Addr} {sl_d_law_left : Array (Option Value)} {oc_d_law_left kV_d_law_left dc_d_law_left pm_d_law_left cd_d_law_left ct_d_law_left : Value}
    {od_d_law_digit an_d_law_digit : Option Addr} {sl_d_law_digit : Array (Option Value)} {oc_d_law_digit kV_d_law_digit dc_d_law_digit pm_d_law_digit cd_d_law_digit ct_d_law_digit : Value}
    {od_d_law_low an_d_law_low : Option Addr} {sl_d_law_low : Array (Option Value)} {oc_d_law_low kV_d_law_low dc_d_law_low pm_d_law_low cd_d_law_low ct_d_law_low : Value}
    {od_d_law_plus an_d_law_plus : Option Addr} {sl_d_law_plus : Array (Option Value)} {oc_d_law_plus kV_d_law_plus dc_d_law_plus pm_d_law_plus cd_d_law_plus ct_d_law_plus : Value}
    {od_d_law_shares an_d_law_shares : Option Addr} {sl_d_law_shares : Array (Option Value)} {oc_d_law_shares kV_d_law_shares dc_d_law_shares pm_d_law_shares cd_d_law_shares ct_d_law_shares : Value}
    {od_d_law_rows an_d_law_rows : Option Addr} {sl_d_law_rows : Array (Option Value)} {oc_d_law_rows kV_d_law_rows dc_d_law_rows pm_d_law_rows cd_d_law_rows ct_d_law_rows : Value}
    {od_d_law_whole an_d_law_whole : Option Addr} {sl_d_law_whole : Array (Option Value)} {oc_d_law_whole kV_d_law_whole dc_d_law_whole pm_d_law_whole cd_d_law_whole ct_d_law_whole : Value}
    {od_d_law_is_share an_d_law_is_share : Option Addr} {sl_d_law_is_share : Array (Option Value)} {oc_d_law_is_share kV_d_law_is_share dc_d_law_is_share pm_d_law_is_share cd_d_law_is_share ct_d_law_is_share : Value}
    {od_d_law_due an_d_law_due : Option Addr} {sl_d_law_due : Array (Option Value)} {oc_d_law_due kV_d_law_due dc_d_law_due pm_d_law_due cd_d_law_due ct_d_law_due : Value}
    {od_d_law_bent an_d_law_bent : Option Addr} {sl_d_law_bent : Array (Option Value)} {oc_d_law_bent kV_d_law_bent dc_d_law_bent pm_d_law_bent cd_d_law_bent ct_d_law_bent : Value}
    {od_d_law_told an_d_law_told : Option Addr} {sl_d_law_told : Array (Option Value)} {oc_d_law_told kV_d_law_told dc_d_law_told pm_d_law_told cd_d_law_told ct_d_law_told : Value}
    {od_d_law an_d_law : Option Addr} {sl_d_law : Array (Option Value)} {oc_d_law kV_d_law dc_d_law pm_d_law cd_d_law ct_d_law : Value}
    {od_d_total an_d_total : Option Addr} {sl_d_total : Array (Option Value)} {oc_d_total kV_d_total dc_d_total pm_d_total cd_d_total ct_d_total : Value}
    {od_m_R_init an_m_R_init : Option Addr} {sl_m_R_init : Array (Option Value)} {oc_m_R_init kV_m_R_init dc_m_R_init pm_m_R_init cd_m_R_init ct_m_R_init : Value}
    {od_m_R_rows an_m_R_rows : Option Addr} {sl_m_R_rows : Array (Option Value)} {oc_m_R_rows kV_m_R_rows dc_m_R_rows pm_m_R_rows cd_m_R_rows ct_m_R_rows : Value}
    (aC_N : PySem.W.nsIn K mainGlobals "NoRule" = some (some (.ref C_N)))
    (xC_N : K.lookup C_N = some (excClassObj nm_N q_N C_N N_N bs_N [.type "ValueError", .type "Exception", .type "BaseException", .type "object"] true sn_N su_N ab_N co_N dd_N m0_N m1_N m2_N m3_N m5_N "ValueError.__new__"))
    (sa_N : PySem.W.findIn K (.ref C_N) "__setattr__" = some (some (.builtin "object.__setattr__")))
    (ga_N : PySem.W.findIn K (.ref C_N) "__getattribute__" = some (some (.builtin "BaseException.__getattribute__")))
    (gg_N : PySem.W.findIn K (.ref C_N) "__getattr__" = some none)
    (cl_N : PySem.W.findIn K (.ref C_N) "__class__" = some (some (.builtin "object.__class__")))
    (mo_N : PySem.W.mroIn K C_N (.type "object") = some true)
    (kC_N : PySem.W.keepIn K (.ref C_N) = true)
    (eC_N : PySem.W.subIn K (.ref C_N) (.type "BaseException") = some true)
    (tC_N : PySem.W.typeIn K (.ref C_N) = some (.type "type"))
    (hd_N : PySem.W.hasDictIn K C_N = true)
    (vV_N : PySem.W.findCls K (.type "ValueError") (.type "type") "__init__" = some (.val (.builtin "ValueError.__init__")))
    (sp_ : PySem.W.specialIn K (.builtin "object.__class__") "__get__" = some (some (.builtin "getset_descriptor.__get__")))
    (tk_ : PySem.W.takesIn K (.builtin "object.__class__") = some true)
    (i_i_N : PySem.W.findIn K (.ref C_N) "__init__" = some (some (.ref f_i_N)))
    (ty_i_N : PySem.W.typeIn K (.ref f_i_N) = some (.type "function"))
    (l_i_N : K.lookup f_i_N = some ⟨oc_i_N, od_i_N, .func (PySem.W.fnOf "__init__" "NoRule.__init__" (defArgs sNrInit) (defBody sNrInit) (defScope sNrInit) .none kV_i_N dc_i_N pm_i_N an_i_N cd_i_N ct_i_N), sl_i_N⟩)
    (c_i_N : PySem.W.codeIn K cd_i_N "NoRule.__init__" = true)
    (k_i_N : PySem.W.keepIn K (.ref f_i_N) = true)
    (no_N_world : PySem.W.findIn K (.ref C_N) "world" = some none)
    (sb_N_N : PySem.W.subIn K (.ref C_N) (.ref C_N) = some true)
    (kt_N_ValueError : PySem.W.kitOne K (.ref C_N) (.type "ValueError") = some true)
    (a_d_is_whole : PySem.W.nsIn K mainGlobals "is_whole" = some (some (.ref f_d_is_whole)))
    (l_d_is_whole : K.lookup f_d_is_whole = some ⟨oc_d_is_whole, od_d_is_whole, .func (PySem.W.fnOf "is_whole" "is_whole" (defArgs sWhole) (defBody sWhole) (defScope sWhole) .none kV_d_is_whole dc_d_is_whole pm_d_is_whole an_d_is_whole cd_d_is_whole ct_d_is_whole), sl_d_is_whole⟩)
    (c_d_is_whole : PySem.W.codeIn K cd_d_is_whole "is_whole" = true)
    (k_d_is_whole : PySem.W.keepIn K (.ref f_d_is_whole) = true)
    (a_d_is_ratio : PySem.W.nsIn K mainGlobals "is_ratio" = some (some (.ref f_d_is_ratio)))
    (l_d_is_ratio : K.lookup f_d_is_ratio = some ⟨oc_d_is_ratio, od_d_is_ratio, .func (PySem.W.fnOf "is_ratio" "is_ratio" (defArgs sIsR) (defBody sIsR) (defScope sIsR) .none kV_d_is_ratio dc_d_is_ratio pm_d_is_ratio an_d_is_ratio cd_d_is_ratio ct_d_is_ratio), sl_d_is_ratio⟩)
    (c_d_is_ratio : PySem.W.codeIn K cd_d_is_ratio "is_ratio" = true)
    (k_d_is_ratio : PySem.W.keepIn K (.ref f_d_is_ratio) = true)
    (a_d_plus : PySem.W.nsIn K mainGlobals "plus" = some (some (.ref f_d_plus)))
    (l_d_plus : K.lookup f_d_plus = some ⟨oc_d_plus, od_d_plus, .func (PySem.W.fnOf "plus" "plus" (defArgs sPlus) (defBody sPlus) (defScope sPlus) .none kV_d_plus dc_d_plus pm_d_plus an_d_plus cd_d_plus ct_d_plus), sl_d_plus⟩)
    (c_d_plus : PySem.W.codeIn K cd_d_plus "plus" = true)
    (k_d_plus : PySem.W.keepIn K (.ref f_d_plus) = true)
    (a_d_lowest : PySem.W.nsIn K mainGlobals "lowest" = some (some (.ref f_d_lowest)))
    (l_d_lowest : K.lookup f_d_lowest = some ⟨oc_d_lowest, od_d_lowest, .func (PySem.W.fnOf "lowest" "lowest" (defArgs sLowest) (defBody sLowest) (defScope sLowest) .none kV_d_lowest dc_d_lowest pm_d_lowest an_d_lowest cd_d_lowest ct_d_lowest), sl_d_lowest⟩)
    (c_d_lowest : PySem.W.codeIn K cd_d_lowest "lowest" = true)
    (k_d_lowest : PySem.W.keepIn K (.ref f_d_lowest) = true)
    (a_d_divisor : PySem.W.nsIn K mainGlobals "divisor" = some (some (.ref f_d_divisor)))
    (l_d_divisor : K.lookup f_d_divisor = some ⟨oc_d_divisor, od_d_divisor, .func (PySem.W.fnOf "divisor" "divisor" (defArgs sDiv) (defBody sDiv) (defScope sDiv) .none kV_d_divisor dc_d_divisor pm_d_divisor an_d_divisor cd_d_divisor ct_d_divisor), sl_d_divisor⟩)
    (c_d_divisor : PySem.W.codeIn K cd_d_divisor "divisor" = true)
    (k_d_divisor : PySem.W.keepIn K (.ref f_d_divisor) = true)
    (a_d_is_list_of : PySem.W.nsIn K mainGlobals "is_list_of" = some (some (.ref f_d_is_list_of)))
    (l_d_is_list_of : K.lookup f_d_is_list_of = some ⟨oc_d_is_list_of, od_d_is_list_of, .func (PySem.W.fnOf "is_list_of" "is_list_of" (defArgs sListOf) (defBody sListOf) (defScope sListOf) .none kV_d_is_list_of dc_d_is_list_of pm_d_is_list_of an_d_is_list_of cd_d_is_list_of ct_d_is_list_of), sl_d_is_list_of⟩)
    (c_d_is_list_of : PySem.W.codeIn K cd_d_is_list_of "is_list_of" = true)
    (k_d_is_list_of : PySem.W.keepIn K (.ref f_d_is_list_of) = true)
    (a_d_is_share : PySem.W.nsIn K mainGlobals "is_share" = some (some (.ref f_d_is_share)))
    (l_d_is_share : K.lookup f_d_is_share = some ⟨oc_d_is_share, od_d_is_share, .func (PySem.W.fnOf "is_share" "is_share" (defArgs sShare) (defBody sShare) (defScope sShare) .none kV_d_is_share dc_d_is_share pm_d_is_share an_d_is_share cd_d_is_share ct_d_is_share), sl_d_is_share⟩)
    (c_d_is_share : PySem.W.codeIn K cd_d_is_share "is_share" = true)
    (k_d_is_share : PySem.W.keepIn K (.ref f_d_is_share) = true)
    (a_d_is_share_row : PySem.W.nsIn K mainGlobals "is_share_row" = some (some (.ref f_d_is_share_row)))
    (l_d_is_share_row : K.lookup f_d_is_share_row = some ⟨oc_d_is_share_row, od_d_is_share_row, .func (PySem.W.fnOf "is_share_row" "is_share_row" (defArgs sShRow) (defBody sShRow) (defScope sShRow) .none kV_d_is_share_row dc_d_is_share_row pm_d_is_share_row an_d_is_share_row cd_d_is_share_row ct_d_is_share_row), sl_d_is_share_row⟩)
    (c_d_is_share_row : PySem.W.codeIn K cd_d_is_share_row "is_share_row" = true)
    (k_d_is_share_row : PySem.W.keepIn K (.ref f_d_is_share_row) = true)
    (a_d_wrong_row : PySem.W.nsIn K mainGlobals "wrong_row" = some (some (.ref f_d_wrong_row)))
    (l_d_wrong_row : K.lookup f_d_wrong_row = some ⟨oc_d_wrong_row, od_d_wrong_row, .func (PySem.W.fnOf "wrong_row" "wrong_row" (defArgs sWrong) (defBody sWrong) (defScope sWrong) .none kV_d_wrong_row dc_d_wrong_row pm_d_wrong_row an_d_wrong_row cd_d_wrong_row ct_d_wrong_row), sl_d_wrong_row⟩)
    (c_d_wrong_row : PySem.W.codeIn K cd_d_wrong_row "wrong_row" = true)
    (k_d_wrong_row : PySem.W.keepIn K (.ref f_d_wrong_row) = true)
    (a_d_copied_rows : PySem.W.nsIn K mainGlobals "copied_rows" = some (some (.ref f_d_copied_rows)))
    (l_d_copied_rows : K.lookup f_d_copied_rows = some ⟨oc_d_copied_rows, od_d_copied_rows, .func (PySem.W.fnOf "copied_rows" "copied_rows" (defArgs sCopied) (defBody sCopied) (defScope sCopied) .none kV_d_copied_rows dc_d_copied_rows pm_d_copied_rows an_d_copied_rows cd_d_copied_rows ct_d_copied_rows), sl_d_copied_rows⟩)
    (c_d_copied_rows : PySem.W.codeIn K cd_d_copied_rows "copied_rows" = true)
    (k_d_copied_rows : PySem.W.keepIn K (.ref f_d_copied_rows) = true)
    (a_d_law_left : PySem.W.nsIn K mainGlobals "_law_left" = some (some (.ref f_d_law_left)))
    (l_d_law_left : K.lookup f_d_law_left = some ⟨oc_d_law_left, od_d_law_left, .func (PySem.W.fnOf "_law_left" "_law_left" (defArgs sLeft) (defBody sLeft) (defScope sLeft) .none kV_d_law_left dc_d_law_left pm_d_law_left an_d_law_left cd_d_law_left ct_d_law_left), sl_d_law_left⟩)
    (c_d_law_left : PySem.W.codeIn K cd_d_law_left "_law_left" = true)
    (k_d_law_left : PySem.W.keepIn K (.ref f_d_law_left) = true)
    (a_d_law_digit : PySem.W.nsIn K mainGlobals "_law_digit" = some (some (.ref f_d_law_digit)))
    (l_d_law_digit : K.lookup f_d_law_digit = some ⟨oc_d_law_digit, od_d_law_digit, .func (PySem.W.fnOf "_law_digit" "_law_digit" (defArgs sDigit) (defBody sDigit) (defScope sDigit) .none kV_d_law_digit dc_d_law_digit pm_d_law_digit an_d_law_digit cd_d_law_digit ct_d_law_digit), sl_d_law_digit⟩)
    (c_d_law_digit : PySem.W.codeIn K cd_d_law_digit "_law_digit" = true)
    (k_d_law_digit : PySem.W.keepIn K (.ref f_d_law_digit) = true)
    (a_d_law_low : PySem.W.nsIn K mainGlobals "_law_low" = some (some (.ref f_d_law_low)))
    (l_d_law_low : K.lookup f_d_law_low = some ⟨oc_d_law_low, od_d_law_low, .func (PySem.W.fnOf "_law_low" "_law_low" (defArgs sLow) (defBody sLow) (defScope sLow) .none kV_d_law_low dc_d_law_low pm_d_law_low an_d_law_low cd_d_law_low ct_d_law_low), sl_d_law_low⟩)
    (c_d_law_low : PySem.W.codeIn K cd_d_law_low "_law_low" = true)
    (k_d_law_low : PySem.W.keepIn K (.ref f_d_law_low) = true)
    (a_d_law_plus : PySem.W.nsIn K mainGlobals "_law_plus" = some (some (.ref f_d_law_plus)))
    (l_d_law_plus : K.lookup f_d_law_plus = some ⟨oc_d_law_plus, od_d_law_plus, .func (PySem.W.fnOf "_law_plus" "_law_plus" (defArgs sLPlus) (defBody sLPlus) (defScope sLPlus) .none kV_d_law_plus dc_d_law_plus pm_d_law_plus an_d_law_plus cd_d_law_plus ct_d_law_plus), sl_d_law_plus⟩)
    (c_d_law_plus : PySem.W.codeIn K cd_d_law_plus "_law_plus" = true)
    (k_d_law_plus : PySem.W.keepIn K (.ref f_d_law_plus) = true)
    (a_d_law_shares : PySem.W.nsIn K mainGlobals "_law_shares" = some (some (.ref f_d_law_shares)))
    (l_d_law_shares : K.lookup f_d_law_shares = some ⟨oc_d_law_shares, od_d_law_shares, .func (PySem.W.fnOf "_law_shares" "_law_shares" (defArgs sShares) (defBody sShares) (defScope sShares) .none kV_d_law_shares dc_d_law_shares pm_d_law_shares an_d_law_shares cd_d_law_shares ct_d_law_shares), sl_d_law_shares⟩)
    (c_d_law_shares : PySem.W.codeIn K cd_d_law_shares "_law_shares" = true)
    (k_d_law_shares : PySem.W.keepIn K (.ref f_d_law_shares) = true)
    (a_d_law_rows : PySem.W.nsIn K mainGlobals "_law_rows" = some (some (.ref f_d_law_rows)))
    (l_d_law_rows : K.lookup f_d_law_rows = some ⟨oc_d_law_rows, od_d_law_rows, .func (PySem.W.fnOf "_law_rows" "_law_rows" (defArgs sRows) (defBody sRows) (defScope sRows) .none kV_d_law_rows dc_d_law_rows pm_d_law_rows an_d_law_rows cd_d_law_rows ct_d_law_rows), sl_d_law_rows⟩)
    (c_d_law_rows : PySem.W.codeIn K cd_d_law_rows "_law_rows" = true)
    (k_d_law_rows : PySem.W.keepIn K (.ref f_d_law_rows) = true)
    (a_d_law_whole : PySem.W.nsIn K mainGlobals "_law_whole" = some (some (.ref f_d_law_whole)))
    (l_d_law_whole : K.lookup f_d_law_whole = some ⟨oc_d_law_whole, od_d_law_whole, .func (PySem.W.fnOf "_law_whole" "_law_whole" (defArgs sLWhole) (defBody sLWhole) (defScope sLWhole) .none kV_d_law_whole dc_d_law_whole pm_d_law_whole an_d_law_whole cd_d_law_whole ct_d_law_whole), sl_d_law_whole⟩)
    (c_d_law_whole : PySem.W.codeIn K cd_d_law_whole "_law_whole" = true)
    (k_d_law_whole : PySem.W.keepIn K (.ref f_d_law_whole) = true)
    (a_d_law_is_share : PySem.W.nsIn K mainGlobals "_law_is_share" = some (some (.ref f_d_law_is_share)))
    (l_d_law_is_share : K.lookup f_d_law_is_share = some ⟨oc_d_law_is_share, od_d_law_is_share, .func (PySem.W.fnOf "_law_is_share" "_law_is_share" (defArgs sLIsSh) (defBody sLIsSh) (defScope sLIsSh) .none kV_d_law_is_share dc_d_law_is_share pm_d_law_is_share an_d_law_is_share cd_d_law_is_share ct_d_law_is_share), sl_d_law_is_share⟩)
    (c_d_law_is_share : PySem.W.codeIn K cd_d_law_is_share "_law_is_share" = true)
    (k_d_law_is_share : PySem.W.keepIn K (.ref f_d_law_is_share) = true)
    (a_d_law_due : PySem.W.nsIn K mainGlobals "_law_due" = some (some (.ref f_d_law_due)))
    (l_d_law_due : K.lookup f_d_law_due = some ⟨oc_d_law_due, od_d_law_due, .func (PySem.W.fnOf "_law_due" "_law_due" (defArgs sDue) (defBody sDue) (defScope sDue) .none kV_d_law_due dc_d_law_due pm_d_law_due an_d_law_due cd_d_law_due ct_d_law_due), sl_d_law_due⟩)
    (c_d_law_due : PySem.W.codeIn K cd_d_law_due "_law_due" = true)
    (k_d_law_due : PySem.W.keepIn K (.ref f_d_law_due) = true)
    (a_d_law_bent : PySem.W.nsIn K mainGlobals "_law_bent" = some (some (.ref f_d_law_bent)))
    (l_d_law_bent : K.lookup f_d_law_bent = some ⟨oc_d_law_bent, od_d_law_bent, .func (PySem.W.fnOf "_law_bent" "_law_bent" (defArgs sBent) (defBody sBent) (defScope sBent) .none kV_d_law_bent dc_d_law_bent pm_d_law_bent an_d_law_bent cd_d_law_bent ct_d_law_bent), sl_d_law_bent⟩)
    (c_d_law_bent : PySem.W.codeIn K cd_d_law_bent "_law_bent" = true)
    (k_d_law_bent : PySem.W.keepIn K (.ref f_d_law_bent) = true)
    (a_d_law_told : PySem.W.nsIn K mainGlobals "_law_told" = some (some (.ref f_d_law_told)))
    (l_d_law_told : K.lookup f_d_law_told = some ⟨oc_d_law_told, od_d_law_told, .func (PySem.W.fnOf "_law_told" "_law_told" (defArgs sTold) (defBody sTold) (defScope sTold) .none kV_d_law_told dc_d_law_told pm_d_law_told an_d_law_told cd_d_law_told ct_d_law_told), sl_d_law_told⟩)
    (c_d_law_told : PySem.W.codeIn K cd_d_law_told "_law_told" = true)
    (k_d_law_told : PySem.W.keepIn K (.ref f_d_law_told) = true)
    (a_d_law : PySem.W.nsIn K mainGlobals "law" = some (some (.ref f_d_law)))
    (l_d_law : K.lookup f_d_law = some ⟨oc_d_law, od_d_law, .func (PySem.W.fnOf "law" "law" (defArgs sLaw) (defBody sLaw) (defScope sLaw) .none kV_d_law dc_d_law pm_d_law an_d_law cd_d_law ct_d_law), sl_d_law⟩)
    (c_d_law : PySem.W.codeIn K cd_d_law "law" = true)
    (k_d_law : PySem.W.keepIn K (.ref f_d_law) = true)
    (a_d_total : PySem.W.nsIn K mainGlobals "total" = some (some (.ref f_d_total)))
    (l_d_total : K.lookup f_d_total = some ⟨oc_d_total, od_d_total, .func (PySem.W.fnOf "total" "total" (defArgs sTotal) (defBody sTotal) (defScope sTotal) (.ref T_d_total) kV_d_total dc_d_total pm_d_total an_d_total cd_d_total ct_d_total), sl_d_total⟩)
    (c_d_total : PySem.W.codeIn K cd_d_total "total" = true)
    (k_d_total : PySem.W.keepIn K (.ref f_d_total) = true)
    (t_d_total : K.lookup T_d_total = some oT_d_total)
    (e_d_total : oT_d_total.data = .seq [Value.none].toArray nT_d_total)
    (aC_R : PySem.W.nsIn K mainGlobals "Rule" = some (some (.ref C_R)))
    (pg_R : PySem.W.plainGet K C_R Str.empty = true)
    (hd_R : PySem.W.hasDictIn K C_R = true)
    (po_R : PySem.W.plainOver K C_R = true)
    (sa_R : PySem.W.findIn K (.ref C_R) "__setattr__" = some (some (.builtin "object.__setattr__")))
    (mk_R : PySem.W.makesIn K C_R = true)
    (kC_R : PySem.W.keepIn K (.ref C_R) = true)
    (i_m_R_init : PySem.W.findIn K (.ref C_R) "__init__" = some (some (.ref f_m_R_init)))
    (fn_m_R_init : PySem.W.isFn K (.ref f_m_R_init) = true)
    (l_m_R_init : K.lookup f_m_R_init = some ⟨oc_m_R_init, od_m_R_init, .func (PySem.W.fnOf "__init__" "Rule.__init__" (defArgs sRInit) (defBody sRInit) (defScope sRInit) .none kV_m_R_init dc_m_R_init pm_m_R_init an_m_R_init cd_m_R_init ct_m_R_init), sl_m_R_init⟩)
    (c_m_R_init : PySem.W.codeIn K cd_m_R_init "Rule.__init__" = true)
    (k_m_R_init : PySem.W.keepIn K (.ref f_m_R_init) = true)
    (i_m_R_rows : PySem.W.findIn K (.ref C_R) "rows" = some (some (.ref f_m_R_rows)))
    (fn_m_R_rows : PySem.W.isFn K (.ref f_m_R_rows) = true)
    (l_m_R_rows : K.lookup f_m_R_rows = some ⟨oc_m_R_rows, od_m_R_rows, .func (PySem.W.fnOf "rows" "Rule.rows" (defArgs sRRows) (defBody sRRows) (defScope sRRows) .none kV_m_R_rows dc_m_R_rows pm_m_R_rows an_m_R_rows cd_m_R_rows ct_m_R_rows), sl_m_R_rows⟩)
    (c_m_R_rows : PySem.W.codeIn K cd_m_R_rows "Rule.rows" = true)
    (k_m_R_rows : PySem.W.keepIn K (.ref f_m_R_rows) = true)
    (no_own : PySem.W.findIn K (.ref C_R) "own_rows" = some none)
    (g5_ : PySem.W.nsIn K mainGlobals "MOST_WORLDS" = some (some (.int 5 tk5)))
    (g30_ : PySem.W.nsIn K mainGlobals "MOST_WORDS" = some (some (.int 30 tk30)))
    (z_abs : PySem.W.nsIn K mainGlobals "abs" = some none)
    (z_isinstance : PySem.W.nsIn K mainGlobals "isinstance" = some none)
    (z_int : PySem.W.nsIn K mainGlobals "int" = some none)
    (z_bool : PySem.W.nsIn K mainGlobals "bool" = some none)
    (z_tuple : PySem.W.nsIn K mainGlobals "tuple" = some none)
    (z_list : PySem.W.nsIn K mainGlobals "list" = some none)
    (z_len : PySem.W.nsIn K mainGlobals "len" = some none)
    (z_range : PySem.W.nsIn K mainGlobals "range" = some none)
    (z_str : PySem.W.nsIn K mainGlobals "str" = some none)
    (z_repr : PySem.W.nsIn K mainGlobals "repr" = some none)
    (z_sum : PySem.W.nsIn K mainGlobals "sum" = some none)
    (z_all : PySem.W.nsIn K mainGlobals "all" = some none)
    (z_any : PySem.W.nsIn K mainGlobals "any" = some none)
    (z_enumerate : PySem.W.nsIn K mainGlobals "enumerate" = some none)
    (z_zip : PySem.W.nsIn K mainGlobals "zip" = some none)
    (z_min : PySem.W.nsIn K mainGlobals "min" = some none)
    (z_max : PySem.W.nsIn K mainGlobals "max" = some none)
    (z_sorted : PySem.W.nsIn K mainGlobals "sorted" = some none)
    (z_ValueError : PySem.W.nsIn K mainGlobals "ValueError" = some none)
    (z_ZeroDivisionError : PySem.W.nsIn K mainGlobals "ZeroDivisionError" = some none)
    (z_OverflowError : PySem.W.nsIn K mainGlobals "OverflowError" = some none)
    (z_IndexError : PySem.W.nsIn K mainGlobals "IndexError" = some none)
    (z_LookupError : PySem.W.nsIn K mainGlobals "LookupError" = some none)
    (z_ArithmeticError : PySem.W.nsIn K mainGlobals "ArithmeticError" = some none)
    (z_KeyError : PySem.W.nsIn K mainGlobals "KeyError" = some none)
    (z_RuntimeError : PySem.W.nsIn K mainGlobals "RuntimeError" = some none) :
    ∃ fd : FuncData, (∀ (s : Shared) (v : Value), BindsTo s fd ⟨[v], []⟩ [("_law_script", v)]) ∧ ∀ base : Heap, K.In base → base.Ns mainGlobals mg → FnOkG l.prog w K mg base CX0 12 fa fd ["_law_script"] (spLaw K) := by
  have e := hfa.symm.trans (PySem.W.mg_of X G a_d_law)
  cases e
  have B : Blt mg := ⟨PySem.W.mg_none_of X G z_abs, PySem.W.mg_none_of X G z_isinstance, PySem.W.mg_none_of X G z_int, PySem.W.mg_none_of X G z_bool, PySem.W.mg_none_of X G z_tuple, PySem.W.mg_none_of X G z_list, PySem.W.mg_none_of X G z_len, PySem.W.mg_none_of X G z_range, PySem.W.mg_none_of X G z_str, PySem.W.mg_none_of X G z_repr, PySem.W.mg_none_of X G z_sum, PySem.W.mg_none_of X G z_all, PySem.W.mg_none_of X G z_any, PySem.W.mg_none_of X G z_enumerate, PySem.W.mg_none_of X G z_zip, PySem.W.mg_none_of X G z_min, PySem.W.mg_none_of X G z_max, PySem.W.mg_none_of X G z_sorted, PySem.W.mg_none_of X G z_ValueError, PySem.W.mg_none_of X G z_ZeroDivisionError, PySem.W.mg_none_of X G z_OverflowError, PySem.W.mg_none_of X G z_IndexError, PySem.W.mg_none_of X G z_LookupError, PySem.W.mg_none_of X G z_ArithmeticError, PySem.W.mg_none_of X G z_KeyError, PySem.W.mg_none_of X G z_RuntimeError⟩
  have ex_N : ExcC K C_N := ⟨ga_N, gg_N, eC_N, hd_N, cl_N, sp_, tk_, mo_N⟩
  have xf_N : XfC K C_N := ⟨ga_N, gg_N, eC_N, hd_N⟩
  have gC_N := PySem.W.mg_of X G aC_N
  have oex_N : OexC K C_N := ⟨⟨nm_N, q_N, N_N, bs_N, _, sn_N, su_N, ab_N, co_N, dd_N, m0_N, m1_N, m2_N, m3_N, m5_N, xC_N, by decide +kernel⟩, sa_N, eC_N, tC_N, kC_N⟩
  have exc_N : ExC K C_N "ValueError.__new__" [.type "ValueError", .type "Exception", .type "BaseException", .type "object"] := ⟨⟨nm_N, q_N, N_N, bs_N, sn_N, su_N, ab_N, co_N, dd_N, m0_N, m1_N, m2_N, m3_N, m5_N, xC_N⟩, eC_N, tC_N, kC_N⟩
  have F_i_N := fun_mk (st := sNrInit) l_i_N c_i_N k_i_N
  have b_i_N := F_i_N.binds (ps := ["self", "world"]) fun _ _ _ _ _ _ us hl => match us, hl with | [_, _], _ => rfl
  have em_N_N := PySem.W.exm_ref eC_N hd_N tC_N sb_N_N
  have F_d_is_whole := fun_mk (st := sWhole) l_d_is_whole c_d_is_whole k_d_is_whole
  have b_d_is_whole := F_d_is_whole.binds (ps := ["thing"]) fun _ _ _ _ _ _ us hl => match us, hl with | [_], _ => rfl
  have g_d_is_whole := PySem.W.mg_of X G a_d_is_whole
  have F_d_is_ratio := fun_mk (st := sIsR) l_d_is_ratio c_d_is_ratio k_d_is_ratio
  have b_d_is_ratio := F_d_is_ratio.binds (ps := ["thing"]) fun _ _ _ _ _ _ us hl => match us, hl with | [_], _ => rfl
  have g_d_is_ratio := PySem.W.mg_of X G a_d_is_ratio
  have F_d_plus := fun_mk (st := sPlus) l_d_plus c_d_plus k_d_plus
  have b_d_plus := F_d_plus.binds (ps := ["one", "other"]) fun _ _ _ _ _ _ us hl => match us, hl with | [_, _], _ => rfl
  have g_d_plus := PySem.W.mg_of X G a_d_plus
  have F_d_lowest := fun_mk (st := sLowest) l_d_lowest c_d_lowest k_d_lowest
  have b_d_lowest := F_d_lowest.binds (ps := ["top", "bottom"]) fun _ _ _ _ _ _ us hl => match us, hl with | [_, _], _ => rfl
  have g_d_lowest := PySem.W.mg_of X G a_d_lowest
  have F_d_divisor := fun_mk (st := sDiv) l_d_divisor c_d_divisor k_d_divisor
  have b_d_divisor := F_d_divisor.binds (ps := ["one", "other"]) fun _ _ _ _ _ _ us hl => match us, hl with | [_, _], _ => rfl
  have g_d_divisor := PySem.W.mg_of X G a_d_divisor
  have F_d_is_list_of := fun_mk (st := sListOf) l_d_is_list_of c_d_is_list_of k_d_is_list_of
  have b_d_is_list_of := F_d_is_list_of.binds (ps := ["thing", "least", "most"]) fun _ _ _ _ _ _ us hl => match us, hl with | [_, _, _], _ => rfl
  have g_d_is_list_of := PySem.W.mg_of X G a_d_is_list_of
  have F_d_is_share := fun_mk (st := sShare) l_d_is_share c_d_is_share k_d_is_share
  have b_d_is_share := F_d_is_share.binds (ps := ["thing"]) fun _ _ _ _ _ _ us hl => match us, hl with | [_], _ => rfl
  have g_d_is_share := PySem.W.mg_of X G a_d_is_share
  have F_d_is_share_row := fun_mk (st := sShRow) l_d_is_share_row c_d_is_share_row k_d_is_share_row
  have b_d_is_share_row := F_d_is_share_row.binds (ps := ["thing", "least", "most"]) fun _ _ _ _ _ _ us hl => match us, hl with | [_, _, _], _ => rfl
  have g_d_is_share_row := PySem.W.mg_of X G a_d_is_share_row
  have F_d_wrong_row := fun_mk (st := sWrong) l_d_wrong_row c_d_wrong_row k_d_wrong_row
  have b_d_wrong_row := F_d_wrong_row.binds (ps := ["rows", "is_row", "least", "most"]) fun _ _ _ _ _ _ us hl => match us, hl with | [_, _, _, _], _ => rfl
  have g_d_wrong_row := PySem.W.mg_of X G a_d_wrong_row
  have F_d_copied_rows := fun_mk (st := sCopied) l_d_copied_rows c_d_copied_rows k_d_copied_rows
  have b_d_copied_rows := F_d_copied_rows.binds (ps := ["rows"]) fun _ _ _ _ _ _ us hl => match us, hl with | [_], _ => rfl
  have g_d_copied_rows := PySem.W.mg_of X G a_d_copied_rows
  have F_d_law_left := fun_mk (st := sLeft) l_d_law_left c_d_law_left k_d_law_left
  have b_d_law_left := F_d_law_left.binds (ps := ["_law_cell"]) fun _ _ _ _ _ _ us hl => match us, hl with | [_], _ => rfl
  have g_d_law_left := PySem.W.mg_of X G a_d_law_left
  have F_d_law_digit := fun_mk (st := sDigit) l_d_law_digit c_d_law_digit k_d_law_digit
  have b_d_law_digit := F_d_law_digit.binds (ps := ["_law_left_here", "_law_many"]) fun _ _ _ _ _ _ us hl => match us, hl with | [_, _], _ => rfl
  have g_d_law_digit := PySem.W.mg_of X G a_d_law_digit
  have F_d_law_low := fun_mk (st := sLow) l_d_law_low c_d_law_low k_d_law_low
  have b_d_law_low := F_d_law_low.binds (ps := ["_law_top", "_law_bottom"]) fun _ _ _ _ _ _ us hl => match us, hl with | [_, _], _ => rfl
  have g_d_law_low := PySem.W.mg_of X G a_d_law_low
  have F_d_law_plus := fun_mk (st := sLPlus) l_d_law_plus c_d_law_plus k_d_law_plus
  have b_d_law_plus := F_d_law_plus.binds (ps := ["_law_one", "_law_other"]) fun _ _ _ _ _ _ us hl => match us, hl with | [_, _], _ => rfl
  have g_d_law_plus := PySem.W.mg_of X G a_d_law_plus
  have F_d_law_shares := fun_mk (st := sShares) l_d_law_shares c_d_law_shares k_d_law_shares
  have b_d_law_shares := F_d_law_shares.binds (ps := ["_law_left_here", "_law_many"]) fun _ _ _ _ _ _ us hl => match us, hl with | [_, _], _ => rfl
  have g_d_law_shares := PySem.W.mg_of X G a_d_law_shares
  have F_d_law_rows := fun_mk (st := sRows) l_d_law_rows c_d_law_rows k_d_law_rows
  have b_d_law_rows := F_d_law_rows.binds (ps := ["_law_left_here", "_law_worlds", "_law_upto"]) fun _ _ _ _ _ _ us hl => match us, hl with | [_, _, _], _ => rfl
  have g_d_law_rows := PySem.W.mg_of X G a_d_law_rows
  have F_d_law_whole := fun_mk (st := sLWhole) l_d_law_whole c_d_law_whole k_d_law_whole
  have b_d_law_whole := F_d_law_whole.binds (ps := ["_law_thing"]) fun _ _ _ _ _ _ us hl => match us, hl with | [_], _ => rfl
  have g_d_law_whole := PySem.W.mg_of X G a_d_law_whole
  have F_d_law_is_share := fun_mk (st := sLIsSh) l_d_law_is_share c_d_law_is_share k_d_law_is_share
  have b_d_law_is_share := F_d_law_is_share.binds (ps := ["_law_thing"]) fun _ _ _ _ _ _ us hl => match us, hl with | [_], _ => rfl
  have g_d_law_is_share := PySem.W.mg_of X G a_d_law_is_share
  have F_d_law_due := fun_mk (st := sDue) l_d_law_due c_d_law_due k_d_law_due
  have b_d_law_due := F_d_law_due.binds (ps := ["_law_rows_here"]) fun _ _ _ _ _ _ us hl => match us, hl with | [_], _ => rfl
  have g_d_law_due := PySem.W.mg_of X G a_d_law_due
  have F_d_law_bent := fun_mk (st := sBent) l_d_law_bent c_d_law_bent k_d_law_bent
  have b_d_law_bent := F_d_law_bent.binds (ps := ["_law_left_here", "_law_rows_here"]) fun _ _ _ _ _ _ us hl => match us, hl with | [_, _], _ => rfl
  have g_d_law_bent := PySem.W.mg_of X G a_d_law_bent
  have F_d_law_told := fun_mk (st := sTold) l_d_law_told c_d_law_told k_d_law_told
  have b_d_law_told := F_d_law_told.binds (ps := ["_law_rows_here"]) fun _ _ _ _ _ _ us hl => match us, hl with | [_], _ => rfl
  have g_d_law_told := PySem.W.mg_of X G a_d_law_told
  have F_d_law := fun_mk (st := sLaw) l_d_law c_d_law k_d_law
  have g_d_law := PySem.W.mg_of X G a_d_law
  have g_d_total := PySem.W.mg_of X G a_d_total
  have FM : FunD K "total" "total" (defArgs sTotal) (defBody sTotal) (defScope sTotal) [V.non] [] f_d_total (PySem.W.fnOf "total" "total" (defArgs sTotal) (defBody sTotal) (defScope sTotal) (.ref T_d_total) kV_d_total dc_d_total pm_d_total an_d_total cd_d_total ct_d_total) := ⟨⟨_, _, _, _, _, _, _, _, _, _, rfl, l_d_total, c_d_total, .inr ⟨by simp, T_d_total, oT_d_total, [Value.none], nT_d_total, rfl, t_d_total, e_d_total, .cons rfl .nil⟩, .inl rfl⟩, k_d_total⟩
  have bM1 := FM.binds1 (ps := ["some", "start"]) 1 0 (by simp) rfl fun T kV doc pm an cdv ct us its hl hi => match us, its, hl, hi with | [_], [_], _, _ => ⟨_, rfl, rfl⟩
  have cl_R : Cls K C_R := ⟨pg_R, hd_R, po_R, sa_R⟩
  have gC_R := PySem.W.mg_of X G aC_R
  have F_m_R_init := fun_mk (st := sRInit) l_m_R_init c_m_R_init k_m_R_init
  have b_m_R_init := F_m_R_init.binds (ps := ["self", "rows"]) fun _ _ _ _ _ _ us hl => match us, hl with | [_, _], _ => rfl
  have F_m_R_rows := fun_mk (st := sRRows) l_m_R_rows c_m_R_rows k_m_R_rows
  have b_m_R_rows := F_m_R_rows.binds (ps := ["self"]) fun _ _ _ _ _ _ us hl => match us, hl with | [_], _ => rfl
  have R0 : RuT K mg C_R f_m_R_init f_m_R_rows := ⟨cl_R, gC_R, no_own, ⟨mk_R, i_m_R_init, fn_m_R_init, kC_R⟩, ⟨i_m_R_rows, fn_m_R_rows, k_m_R_rows⟩, ⟨_, PySem.W.mg_of X G g5_⟩, ⟨_, PySem.W.mg_of X G g30_⟩⟩
  have T0 : NrT K mg C_N f_i_N := ⟨gC_N, i_i_N, ty_i_N, xf_N, ex_N, oex_N, no_N_world, vV_N, em_N_N, kt_N_ValueError⟩
  refine ⟨PySem.W.fnOf "law" "law" (defArgs sLaw) (defBody sLaw) (defScope sLaw) .none kV_d_law dc_d_law pm_d_law an_d_law cd_d_law ct_d_law, fun s v => .of_eq rfl, fun base _ _ => ?_⟩
  have G_d_divisor : FnOk l.prog w K mg base CX0 1 f_d_divisor _ ["one", "other"] spDiv := ok_div F_d_divisor  B
  have G_d_lowest : FnOk l.prog w K mg base CX0 2 f_d_lowest _ ["top", "bottom"] spLow := ok_lowest F_d_lowest (G_d_divisor.mono (by decide)) k_d_divisor b_d_divisor g_d_divisor
  have G_d_plus : FnOk l.prog w K mg base CX0 3 f_d_plus _ ["one", "other"] (spBin K (· + ·)) := ok_Plus F_d_plus (G_d_lowest.mono (by decide)) k_d_lowest b_d_lowest g_d_lowest
  have G_d_is_whole : FnOk l.prog w K mg base CX0 1 f_d_is_whole _ ["thing"] spWholeV := ok_WholeV F_d_is_whole  B
  have G_d_is_ratio : FnOk l.prog w K mg base CX0 2 f_d_is_ratio _ ["thing"] (spIsRC K) := ok_IsRC F_d_is_ratio (G_d_is_whole.mono (by decide)) k_d_is_whole b_d_is_whole g_d_is_whole (G_d_divisor.mono (by decide)) k_d_divisor b_d_divisor g_d_divisor B
  have G_d_is_list_of : FnOk l.prog w K mg base CX0 1 f_d_is_list_of _ ["thing", "least", "most"] (spListOfC K) := ok_ListOfC F_d_is_list_of  B
  have G_d_is_share : FnOk l.prog w K mg base CX0 3 f_d_is_share _ ["thing"] (spShareC K) := ok_ShareC F_d_is_share (G_d_is_ratio.mono (by decide)) k_d_is_ratio b_d_is_ratio g_d_is_ratio
  have G_d_total : FnOk l.prog w K mg base CX0 4 f_d_total _ ["some", "start"] (spTotal K) := ok_Total FM (G_d_plus.mono (by decide)) k_d_plus b_d_plus g_d_plus
  have G_d_is_share_row : FnOk l.prog w K mg base CX0 5 f_d_is_share_row _ ["thing", "least", "most"] (spShRowC K) := ok_ShRowC F_d_is_share_row (G_d_is_list_of.mono (by decide)) k_d_is_list_of b_d_is_list_of g_d_is_list_of (G_d_is_share.mono (by decide)) k_d_is_share b_d_is_share g_d_is_share (G_d_total.mono (by decide)) k_d_total bM1 g_d_total B
  have G_d_wrong_row : FnOk l.prog w K mg base CX0 6 f_d_wrong_row _ ["rows", "is_row", "least", "most"] (spWrongC K f_d_is_share_row) := ok_WrongC F_d_wrong_row (G_d_is_share_row.mono (by decide)) k_d_is_share_row b_d_is_share_row  B
  have G_d_copied_rows : FnOk l.prog w K mg base CX0 1 f_d_copied_rows _ ["rows"] (spCopied K) := ok_Copied F_d_copied_rows  B
  have G_i_N : FnOk l.prog w K mg base CX0 1 f_i_N _ ["self", "world"] (spE1 C_N "world") := ok_NrInit F_i_N T0 B
  have G_m_R_init : FnOk l.prog w K mg base (L2.CX l.prog w) 8 f_m_R_init _ ["self", "rows"] (spInitC K C_R C_N) := ok_RInitC F_m_R_init R0 T0 (G_i_N.mono (by decide)) b_i_N (G_d_is_list_of.mono (by decide)) k_d_is_list_of b_d_is_list_of g_d_is_list_of (G_d_wrong_row.mono (by decide)) k_d_wrong_row b_d_wrong_row g_d_wrong_row g_d_is_share_row (G_d_copied_rows.mono (by decide)) k_d_copied_rows b_d_copied_rows g_d_copied_rows
  have G_m_R_rows : FnOk l.prog w K mg base CX0 2 f_m_R_rows _ ["self"] (spRRows K C_R) := ok_RRows F_m_R_rows R0 (G_d_copied_rows.mono (by decide)) k_d_copied_rows b_d_copied_rows g_d_copied_rows B
  have G_d_law_left : FnOk l.prog w K mg base CX0 1 f_d_law_left _ ["_law_cell"] spLeft := ok_left F_d_law_left  B
  have G_d_law_digit : FnOk l.prog w K mg base CX0 1 f_d_law_digit _ ["_law_left_here", "_law_many"] spDigit := ok_digit F_d_law_digit 
  have G_d_law_low : FnOk l.prog w K mg base CX0 1 f_d_law_low _ ["_law_top", "_law_bottom"] spLow := ok_low F_d_law_low  B
  have G_d_law_plus : FnOk l.prog w K mg base CX0 2 f_d_law_plus _ ["_law_one", "_law_other"] (spBin K (· + ·)) := ok_LPlus F_d_law_plus (G_d_law_low.mono (by decide)) k_d_law_low b_d_law_low g_d_law_low
  have G_d_law_shares : FnOk l.prog w K mg base CX0 2 f_d_law_shares _ ["_law_left_here", "_law_many"] (Rs.spShares K) := ok_Shares F_d_law_shares (G_d_law_digit.mono (by decide)) k_d_law_digit b_d_law_digit g_d_law_digit (G_d_law_low.mono (by decide)) k_d_law_low b_d_law_low g_d_law_low B
  have G_d_law_rows : FnOk l.prog w K mg base CX0 3 f_d_law_rows _ ["_law_left_here", "_law_worlds", "_law_upto"] (Rs.spRowsL K) := ok_Rows F_d_law_rows (G_d_law_digit.mono (by decide)) k_d_law_digit b_d_law_digit g_d_law_digit (G_d_law_shares.mono (by decide)) k_d_law_shares b_d_law_shares g_d_law_shares B
  have G_d_law_whole : FnOk l.prog w K mg base CX0 1 f_d_law_whole _ ["_law_thing"] spWholeV := ok_LWhole F_d_law_whole  B
  have G_d_law_is_share : FnOk l.prog w K mg base CX0 2 f_d_law_is_share _ ["_law_thing"] (spLIsSh K) := ok_LIsSh F_d_law_is_share (G_d_law_whole.mono (by decide)) k_d_law_whole b_d_law_whole g_d_law_whole (G_d_law_low.mono (by decide)) k_d_law_low b_d_law_low g_d_law_low B
  have G_d_law_due : FnOk l.prog w K mg base CX0 3 f_d_law_due _ ["_law_rows_here"] (spTold K) := ok_Due F_d_law_due (G_d_law_is_share.mono (by decide)) k_d_law_is_share b_d_law_is_share g_d_law_is_share (G_d_law_plus.mono (by decide)) k_d_law_plus b_d_law_plus g_d_law_plus B
  have G_d_law_bent : FnOk l.prog w K mg base CX0 2 f_d_law_bent _ ["_law_left_here", "_law_rows_here"] (spBent K) := ok_Bent F_d_law_bent (G_d_law_digit.mono (by decide)) k_d_law_digit b_d_law_digit g_d_law_digit B
  have G_d_law_told : FnOkG l.prog w K mg base CX0 10 f_d_law_told _ ["_law_rows_here"] (spTold K) := ok_Told F_d_law_told R0 T0 G_m_R_init b_m_R_init  B
  exact ok_law F_d_law (k := 10) ⟨R0, ⟨_, G_m_R_init.mono (by decide), b_m_R_init⟩, ⟨_, G_m_R_rows.mono (by decide), b_m_R_rows⟩, ⟨_, _, G_d_law_left.mono (by decide), k_d_law_left, b_d_law_left, g_d_law_left⟩, ⟨_, _, G_d_law_digit.mono (by decide), k_d_law_digit, b_d_law_digit, g_d_law_digit⟩, ⟨_, _, G_d_law_rows.mono (by decide), k_d_law_rows, b_d_law_rows, g_d_law_rows⟩, ⟨_, _, G_d_law_bent.mono (by decide), k_d_law_bent, b_d_law_bent, g_d_law_bent⟩, ⟨_, _, G_d_law_told.mono (by decide), k_d_law_told, b_d_law_told, g_d_law_told⟩, ⟨_, _, G_d_law_due.mono (by decide), k_d_law_due, b_d_law_due, g_d_law_due⟩⟩ B
end K9
open PySem PySem.W PyProof.Rows
set_option maxRecDepth 100000 in
set_option maxHeartbeats 0 in
theorem PySem.Challenge.cw_besttelling_k09_what_makes_a_rule_holds : PySem.Challenge.rw_besttelling_k09_what_makes_a_rule.Holds := by
  w_on; o_law; k_head; (case hw => w_witness2)
  k_fill
  refine BX.walk_ofG (l := PySem.Challenge.rw_besttelling_k09_what_makes_a_rule) (n := 63) (k := 12) (x := "_law_script") (CX := fun _ => L2.CX0) (sp := fun w => K9.spLaw _) rfl (by decide) rfl ⟨rfl, by decide, by decide⟩ (fun w h Y => PySem.W.kIn_of Y) ?F (fun _ _ a ns hl _ hS => ⟨a, ns, rfl, hS, hl, fun _ => rfl⟩) (fun _ _ _ _ _ h => h)
  case F =>
    intro w mg fa h KX G hmg
    refine' K9.all_mk KX G hmg ?aC_N ?xC_N ?sa_N ?ga_N ?gg_N ?cl_N ?mo_N ?kC_N ?eC_N ?tC_N ?hd_N ?vV_N ?sp_ ?tk_ ?i_i_N ?ty_i_N ?l_i_N ?c_i_N ?k_i_N ?no_N_world ?sb_N_N ?kt_N_ValueError ?a_d_is_whole ?l_d_is_whole ?c_d_is_whole ?k_d_is_whole ?a_d_is_ratio ?l_d_is_ratio ?c_d_is_ratio ?k_d_is_ratio ?a_d_plus ?l_d_plus ?c_d_plus ?k_d_plus ?a_d_lowest ?l_d_lowest ?c_d_lowest ?k_d_lowest ?a_d_divisor ?l_d_divisor ?c_d_divisor ?k_d_divisor ?a_d_is_list_of ?l_d_is_list_of ?c_d_is_list_of ?k_d_is_list_of ?a_d_is_share ?l_d_is_share ?c_d_is_share ?k_d_is_share ?a_d_is_share_row ?l_d_is_share_row ?c_d_is_share_row ?k_d_is_share_row ?a_d_wrong_row ?l_d_wrong_row ?c_d_wrong_row ?k_d_wrong_row ?a_d_copied_rows ?l_d_copied_rows ?c_d_copied_rows ?k_d_copied_rows ?a_d_law_left ?l_d_law_left ?c_d_law_left ?k_d_law_left ?a_d_law_digit ?l_d_law_digit ?c_d_law_digit ?k_d_law_digit ?a_d_law_low ?l_d_law_low ?c_d_law_low ?k_d_law_low ?a_d_law_plus ?l_d_law_plus ?c_d_law_plus ?k_d_law_plus ?a_d_law_shares ?l_d_law_shares ?c_d_law_shares ?k_d_law_shares ?a_d_law_rows ?l_d_law_rows ?c_d_law_rows ?k_d_law_rows ?a_d_law_whole ?l_d_law_whole ?c_d_law_whole ?k_d_law_whole ?a_d_law_is_share ?l_d_law_is_share ?c_d_law_is_share ?k_d_law_is_share ?a_d_law_due ?l_d_law_due ?c_d_law_due ?k_d_law_due ?a_d_law_bent ?l_d_law_bent ?c_d_law_bent ?k_d_law_bent ?a_d_law_told ?l_d_law_told ?c_d_law_told ?k_d_law_told ?a_d_law ?l_d_law ?c_d_law ?k_d_law ?a_d_total ?l_d_total ?c_d_total ?k_d_total ?t_d_total ?e_d_total ?aC_R ?pg_R ?hd_R ?po_R ?sa_R ?mk_R ?kC_R ?i_m_R_init ?fn_m_R_init ?l_m_R_init ?c_m_R_init ?k_m_R_init ?i_m_R_rows ?fn_m_R_rows ?l_m_R_rows ?c_m_R_rows ?k_m_R_rows ?no_own ?g5_ ?g30_ ?z_abs ?z_isinstance ?z_int ?z_bool ?z_tuple ?z_list ?z_len ?z_range ?z_str ?z_repr ?z_sum ?z_all ?z_any ?z_enumerate ?z_zip ?z_min ?z_max ?z_sorted ?z_ValueError ?z_ZeroDivisionError ?z_OverflowError ?z_IndexError ?z_LookupError ?z_ArithmeticError ?z_KeyError ?z_RuntimeError
    (case aC_N => k_is)
    (case xC_N => k_is)
    (case sa_N => k_is)
    (case ga_N => k_is)
    (case gg_N => k_is)
    (case cl_N => k_is)
    (case mo_N => first | rfl | k_is | decide +kernel)
    (case kC_N => k_is)
    (case eC_N => k_is)
    (case tC_N => k_is)
    (case hd_N => k_is)
    (case vV_N => first | rfl | decide +kernel | k_is)
    (case sp_ => first | rfl | k_is | decide +kernel)
    (case tk_ => first | rfl | k_is | decide +kernel)
    (case i_i_N => k_is)
    (case ty_i_N => k_is)
    (case l_i_N => k_is)
    (case c_i_N => k_is)
    (case k_i_N => k_is)
    (case no_N_world => k_is)
    (case sb_N_N => first | rfl | k_is | decide +kernel)
    (case kt_N_ValueError => first | rfl | k_is | kit_is | decide +kernel)
    (case a_d_is_whole => k_is)
    (case l_d_is_whole => k_is)
    (case c_d_is_whole => k_is)
    (case k_d_is_whole => k_is)
    (case a_d_is_ratio => k_is)
    (case l_d_is_ratio => k_is)
    (case c_d_is_ratio => k_is)
    (case k_d_is_ratio => k_is)
    (case a_d_plus => k_is)
    (case l_d_plus => k_is)
    (case c_d_plus => k_is)
    (case k_d_plus => k_is)
    (case a_d_lowest => k_is)
    (case l_d_lowest => k_is)
    (case c_d_lowest => k_is)
    (case k_d_lowest => k_is)
    (case a_d_divisor => k_is)
    (case l_d_divisor => k_is)
    (case c_d_divisor => k_is)
    (case k_d_divisor => k_is)
    (case a_d_is_list_of => k_is)
    (case l_d_is_list_of => k_is)
    (case c_d_is_list_of => k_is)
    (case k_d_is_list_of => k_is)
    (case a_d_is_share => k_is)
    (case l_d_is_share => k_is)
    (case c_d_is_share => k_is)
    (case k_d_is_share => k_is)
    (case a_d_is_share_row => k_is)
    (case l_d_is_share_row => k_is)
    (case c_d_is_share_row => k_is)
    (case k_d_is_share_row => k_is)
    (case a_d_wrong_row => k_is)
    (case l_d_wrong_row => k_is)
    (case c_d_wrong_row => k_is)
    (case k_d_wrong_row => k_is)
    (case a_d_copied_rows => k_is)
    (case l_d_copied_rows => k_is)
    (case c_d_copied_rows => k_is)
    (case k_d_copied_rows => k_is)
    (case a_d_law_left => k_is)
    (case l_d_law_left => k_is)
    (case c_d_law_left => k_is)
    (case k_d_law_left => k_is)
    (case a_d_law_digit => k_is)
    (case l_d_law_digit => k_is)
    (case c_d_law_digit => k_is)
    (case k_d_law_digit => k_is)
    (case a_d_law_low => k_is)
    (case l_d_law_low => k_is)
    (case c_d_law_low => k_is)
    (case k_d_law_low => k_is)
    (case a_d_law_plus => k_is)
    (case l_d_law_plus => k_is)
    (case c_d_law_plus => k_is)
    (case k_d_law_plus => k_is)
    (case a_d_law_shares => k_is)
    (case l_d_law_shares => k_is)
    (case c_d_law_shares => k_is)
    (case k_d_law_shares => k_is)
    (case a_d_law_rows => k_is)
    (case l_d_law_rows => k_is)
    (case c_d_law_rows => k_is)
    (case k_d_law_rows => k_is)
    (case a_d_law_whole => k_is)
    (case l_d_law_whole => k_is)
    (case c_d_law_whole => k_is)
    (case k_d_law_whole => k_is)
    (case a_d_law_is_share => k_is)
    (case l_d_law_is_share => k_is)
    (case c_d_law_is_share => k_is)
    (case k_d_law_is_share => k_is)
    (case a_d_law_due => k_is)
    (case l_d_law_due => k_is)
    (case c_d_law_due => k_is)
    (case k_d_law_due => k_is)
    (case a_d_law_bent => k_is)
    (case l_d_law_bent => k_is)
    (case c_d_law_bent => k_is)
    (case k_d_law_bent => k_is)
    (case a_d_law_told => k_is)
    (case l_d_law_told => k_is)
    (case c_d_law_told => k_is)
    (case k_d_law_told => k_is)
    (case a_d_law => k_is)
    (case l_d_law => k_is)
    (case c_d_law => k_is)
    (case k_d_law => k_is)
    (case a_d_total => k_is)
    (case l_d_total => k_is)
    (case c_d_total => k_is)
    (case k_d_total => k_is)
    (case t_d_total => k_is)
    (case e_d_total => rfl)
    (case aC_R => k_is)
    (case pg_R => k_is)
    (case hd_R => k_is)
    (case po_R => k_is)
    (case sa_R => k_is)
    (case mk_R => k_is)
    (case kC_R => k_is)
    (case i_m_R_init => k_is)
    (case fn_m_R_init => k_is)
    (case l_m_R_init => k_is)
    (case c_m_R_init => k_is)
    (case k_m_R_init => k_is)
    (case i_m_R_rows => k_is)
    (case fn_m_R_rows => k_is)
    (case l_m_R_rows => k_is)
    (case c_m_R_rows => k_is)
    (case k_m_R_rows => k_is)
    (case no_own => k_is)
    (case g5_ => k_is)
    (case g30_ => k_is)
    (case z_abs => k_is)
    (case z_isinstance => k_is)
    (case z_int => k_is)
    (case z_bool => k_is)
    (case z_tuple => k_is)
    (case z_list => k_is)
    (case z_len => k_is)
    (case z_range => k_is)
    (case z_str => k_is)
    (case z_repr => k_is)
    (case z_sum => k_is)
    (case z_all => k_is)
    (case z_any => k_is)
    (case z_enumerate => k_is)
    (case z_zip => k_is)
    (case z_min => k_is)
    (case z_max => k_is)
    (case z_sorted => k_is)
    (case z_ValueError => k_is)
    (case z_ZeroDivisionError => k_is)
    (case z_OverflowError => k_is)
    (case z_IndexError => k_is)
    (case z_LookupError => k_is)
    (case z_ArithmeticError => k_is)
    (case z_KeyError => k_is)
    (case z_RuntimeError => k_is)
