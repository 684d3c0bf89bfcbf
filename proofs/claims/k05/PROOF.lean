import PyProof.Rows.All
import Wide.All
import OpenK.AllK
import Wide.FinOn
import HandS.Base
import HandS.Call
import HandS.List
import HandS.Ends
import HandS.Words
import HandS.Exc
import HandS.ExcOwn
import HandS.ExcInit
import HandS.ExcField
import HandS.ExcIs
import HandS.WordsExc
import HandS.TryOnly
import HandS.TryMany
import KE.KExcIs
import PyProof.ReprRoads
import HandS.Wide
import HandS.IsInst
import HandS.Defaults
import HandS.Style
import HandS.Comp
import HandS.Flow
import HandS.Iter
import HandS.Zip
import HandS.CallLocal
import HandS.Dict
import HandS.Walk
import PyProof.FitsInt
import PySem.Challenge.RW_besttelling_k05_what_makes_a_case
namespace Fr
theorem fmod_abs (a : Int) {b : Int} (h : b ≠ 0) : (a.fmod b).natAbs < b.natAbs := by
  by_cases hb : 0 < b
  · have h1 := Int.fmod_lt_of_pos a hb
    have h2 := Int.fmod_nonneg_of_pos a hb
    omega
  · have hb' : 0 < -b := by omega
    have e := Int.neg_fmod_neg (-a) (-b)
    rw [Int.neg_neg, Int.neg_neg] at e
    have h1 := Int.fmod_lt_of_pos (-a) hb'
    have h2 := Int.fmod_nonneg_of_pos (-a) hb'
    omega
theorem gcd_step (a b : Int) : Int.gcd b (a.fmod b) = Int.gcd a b := by
  rw [Int.fmod_def, Int.mul_comm, Int.gcd_sub_mul_right_right, Int.gcd_comm]
theorem gcd_pos {t b : Int} (h : b ≠ 0) : (0 : Int) < (Int.gcd t b : Int) := by
  have : 0 < Int.gcd t b := Int.gcd_pos_of_ne_zero_right t h
  omega
theorem low_num {t b : Int} (hb : 0 < b) : t.fdiv (Int.gcd t b) = (Rat.divInt t b).num := by
  rw [Rat.num_divInt, Int.sign_eq_one_of_pos hb, Int.one_mul, Int.gcd_comm b t, Int.fdiv_eq_ediv_of_nonneg _ (by omega)]
theorem low_den {t b : Int} (hb : 0 < b) : b.fdiv (Int.gcd t b) = ((Rat.divInt t b).den : Int) := by
  rw [Rat.den_divInt, if_neg (by omega), Int.gcd_comm b t, Int.fdiv_eq_ediv_of_nonneg _ (by omega), Int.natCast_ediv]
  congr 1
  omega
theorem lowN_num {t b : Int} (hb : b < 0) : t.fdiv (-(Int.gcd t b : Int)) = (Rat.divInt t b).num := by
  have e := Int.neg_fdiv_neg (-t) (Int.gcd t b : Int)
  rw [Int.neg_neg] at e
  rw [e, Rat.num_divInt, Int.sign_eq_neg_one_of_neg hb, Int.gcd_comm b t, Int.fdiv_eq_ediv_of_nonneg _ (by omega), Int.neg_mul, Int.one_mul]
theorem lowN_den {t b : Int} (hb : b < 0) : b.fdiv (-(Int.gcd t b : Int)) = ((Rat.divInt t b).den : Int) := by
  have e := Int.neg_fdiv_neg (-b) (Int.gcd t b : Int)
  rw [Int.neg_neg] at e
  rw [e, Rat.den_divInt, if_neg (by omega), Int.gcd_comm b t, Int.fdiv_eq_ediv_of_nonneg _ (by omega), Int.natCast_ediv]
  congr 1
  omega
/-- top and bottom below 2 ^ n -/
def Bd (n : Nat) (q : Rat) : Prop := q.num.natAbs < 2 ^ n ∧ q.den < 2 ^ n
theorem Bd.mono {n m : Nat} {q : Rat} (h : Bd n q) (l : n ≤ m) : Bd m q :=
  ⟨Nat.lt_of_lt_of_le h.1 (Nat.pow_le_pow_right (by decide) l), Nat.lt_of_lt_of_le h.2 (Nat.pow_le_pow_right (by decide) l)⟩
theorem bd_low {t b : Int} {n : Nat} (ht : t.natAbs < 2 ^ n) (hb : b.natAbs < 2 ^ n) (h : b ≠ 0) : Bd n (Rat.divInt t b) := by
  constructor
  · rw [Rat.num_divInt]
    have h1 : (b.sign * t).natAbs = t.natAbs := by
      rw [Int.natAbs_mul, Int.natAbs_sign_of_ne_zero h, Nat.one_mul]
    have h2 : (b.sign * t / (b.gcd t : Int)).natAbs ≤ (b.sign * t).natAbs := Int.natAbs_ediv_le_natAbs _ _
    omega
  · rw [Rat.den_divInt, if_neg h]
    exact Nat.lt_of_le_of_lt (Nat.div_le_self _ _) hb
theorem den_pos (q : Rat) : (0 : Int) < (q.den : Int) := by
  have := q.den_pos
  omega
theorem den_ne (q : Rat) : (q.den : Int) ≠ 0 := Int.ne_of_gt (den_pos q)
theorem add_eq (a b : Rat) : Rat.divInt (a.num * b.den + b.num * a.den) (a.den * b.den) = a + b := by
  rw [← Rat.divInt_add_divInt _ _ (den_ne a) (den_ne b), Rat.num_divInt_den, Rat.num_divInt_den]
theorem sub_eq (a b : Rat) : Rat.divInt (a.num * b.den - b.num * a.den) (a.den * b.den) = a - b := by
  rw [Rat.sub_def, Rat.normalize_eq_mkRat, ← Int.natCast_mul]
  rfl
theorem mul_eq (a b : Rat) : Rat.divInt (a.num * b.num) (a.den * b.den) = a * b := by
  rw [← Rat.divInt_mul_divInt, Rat.num_divInt_den, Rat.num_divInt_den]
theorem div_eq (a b : Rat) : Rat.divInt (a.num * b.den) (a.den * b.num) = a / b := by
  rw [Rat.div_def, Rat.inv_def, ← Rat.divInt_mul_divInt, Rat.num_divInt_den]
theorem mul_bd {i j : Int} {n m : Nat} (hi : i.natAbs < 2 ^ n) (hj : j.natAbs < 2 ^ m) : (i * j).natAbs < 2 ^ (n + m) := by
  rw [Int.natAbs_mul, Nat.pow_add]
  exact Nat.mul_lt_mul'' hi hj
theorem add_bd {i j : Int} {n : Nat} (hi : i.natAbs < 2 ^ n) (hj : j.natAbs < 2 ^ n) : (i + j).natAbs < 2 ^ (n + 1) := by
  rw [Nat.pow_succ]
  omega
theorem sub_bd {i j : Int} {n : Nat} (hi : i.natAbs < 2 ^ n) (hj : j.natAbs < 2 ^ n) : (i - j).natAbs < 2 ^ (n + 1) := by
  rw [Nat.pow_succ]
  omega
theorem Bd.dn {n : Nat} {q : Rat} (h : Bd n q) : (q.den : Int).natAbs < 2 ^ n := by
  rw [Int.natAbs_natCast]
  exact h.2
theorem up {i : Int} {n m : Nat} (h : i.natAbs < 2 ^ n) (l : n ≤ m) : i.natAbs < 2 ^ m := Nat.lt_of_lt_of_le h (Nat.pow_le_pow_right (by decide) l)
theorem dd_ne (a b : Rat) : (a.den : Int) * (b.den : Int) ≠ 0 := Int.mul_ne_zero (den_ne a) (den_ne b)
theorem bd_add {a b : Rat} {n m : Nat} (ha : Bd n a) (hb : Bd m b) : Bd (n + m + 1) (a + b) := by
  rw [← add_eq]
  refine bd_low ?_ (up (mul_bd ha.dn hb.dn) (Nat.le_succ _)) (dd_ne a b)
  have h2 := mul_bd hb.1 ha.dn
  rw [Nat.add_comm m n] at h2
  exact add_bd (mul_bd ha.1 hb.dn) h2
theorem bd_sub {a b : Rat} {n m : Nat} (ha : Bd n a) (hb : Bd m b) : Bd (n + m + 1) (a - b) := by
  rw [← sub_eq]
  refine bd_low ?_ (up (mul_bd ha.dn hb.dn) (Nat.le_succ _)) (dd_ne a b)
  have h2 := mul_bd hb.1 ha.dn
  rw [Nat.add_comm m n] at h2
  exact sub_bd (mul_bd ha.1 hb.dn) h2
theorem bd_mul {a b : Rat} {n m : Nat} (ha : Bd n a) (hb : Bd m b) : Bd (n + m) (a * b) := by
  rw [← mul_eq]
  exact bd_low (mul_bd ha.1 hb.1) (mul_bd ha.dn hb.dn) (dd_ne a b)
theorem ratio_gcd (q : Rat) : Int.gcd q.num q.den = 1 := by
  have := q.reduced
  rw [Int.gcd, Int.natAbs_natCast]
  exact this
theorem foldl_add (l : List Rat) : ∀ a : Rat, l.foldl (· + ·) a = a + l.sum := by
  induction l with
  | nil => intro a; rw [List.foldl_nil, List.sum_nil, Rat.add_zero]
  | cons x r ih => intro a; rw [List.foldl_cons, ih, List.sum_cons, Rat.add_assoc]
theorem sum_rev (l : List Rat) : l.reverse.sum = l.sum := by
  induction l with
  | nil => rfl
  | cons x r ih => rw [List.reverse_cons, List.sum_append, ih, List.sum_cons, List.sum_cons, List.sum_nil, Rat.add_zero, Rat.add_comm]
theorem div_self' {a : Rat} (h : a ≠ 0) : a / a = 1 := by
  rw [Rat.div_def]
  exact Rat.mul_inv_cancel a h
end Fr

set_option Elab.async false
set_option linter.all false
set_option maxRecDepth 100000
set_option maxHeartbeats 4000000
namespace BX
open PySem PySem.Spec PyProof.Rows L2
/-! ### several clauses «except x as n» -/
structure Clause where
  cls : Value
  slot : Nat
  ts : Addr → Value → Option Addr → TS
def wClauses (K : PySem.W.Frag) (Wout : WX) (D : Ends) : List Clause → WX
  | [] => Wout
  | c :: r => wAs K c.cls c.slot c.ts (wClauses K Wout D r) D
inductive ClausesOk (X : Cx) : List ExceptHandler → List Clause → Prop
  | nil : ClausesOk X [] []
  | cons {x n : Str} {c : Value} {i : Nat} {ts : Addr → Value → Option Addr → TS} {b₀ : Stmt} {suite : List Stmt} {np pos' : Pos} {hds : List ExceptHandler} {l : List Clause} (hi : X.N[i]? = some n) (hln : X.env.kindOf n = some .local) (hc : Names X x c)
      (hsu : ∀ (a : Addr) (oe : Obj) (cls : Value) (d : Option Addr) (pn : List (Addr × Obj)), Zc cls d oe → (∃ vs, oe.data = .fields vs) → PSs (X.suite a ((a, oe) :: pn)) (b₀ :: suite) (ts a cls d)) (r : ClausesOk X hds l) :
      ClausesOk X (.ExceptHandler (some (.Name x np)) (some n) (b₀ :: suite) pos' :: hds) (⟨c, i, ts⟩ :: l)
section
variable {X : Cx} {body : List Stmt} {h₀ : ExceptHandler} {hds : List ExceptHandler} {l : List Clause} {pos : Pos} {tb : WX → TS} {Wout : WX}
theorem ps_try_clauses (hs : X.stack = X.env :: X.outer) (hf : X.env.frame = some X.env.locals) (hN : X.N.Nodup) (tk : Takes X Wout)
    (hb : ∀ (W : WX) (pn : List (Addr × Obj)) (xe : Value → Shared → Prop), Takes (X.tr pn xe) W → PassesOwn (model X.prog X.w) X.A X.env xe → PSs (X.tr pn xe) body (tb W))
    (hh : ClausesOk X (h₀ :: hds) l) : PS X (.Try body (h₀ :: hds) [] [] pos) (fun D σ H => tb (wClauses X.K Wout D l) D σ H) := by
  refine ⟨fun pins s σ H D I h => ?_⟩
  have ok := I.ok
  have hfr : X.A.frames = some (X.env :: X.outer) := by rw [ok.frames, hs]
  refine wpAny_Try_except ?_
  refine wpAny_mono ((hb (wClauses X.K Wout D l) (X.pn ++ pins) (fun e s₁ => wpAny (model X.prog X.w) X.A (noteFrame e X.env) (fun _ s₂ => wpAny (model X.prog X.w) X.A (setFlight e none) (fun _ s₃ =>
    wpAny (model X.prog X.w) X.A (handleBy e X.env (h₀ :: hds)) (SP X pins D) X.xe s₃) X.xe s₂) X.xe s₁) (fun u s' xx => ?_) PassesOwn.looking).run [] s σ H D (I.toTry _) h) (fun f s1 hsp => ?_) (fun e s1 he => he)
  · obtain ⟨a, B, sI, pins', σ', H', cls, d, rfl, J', nb, up, sky, na, os, ag, ww⟩ := xx
    have J : Inv X pins σ' H' sI := J'.ofTry ok
    have sky' : Sky B (X.env :: X.outer) a (Zc cls d) X.env.locals s'.heap := by rw [← hs]; exact sky
    show wpAny (model X.prog X.w) X.A (noteFrame (.ref a) X.env) _ _ _
    refine Sky.land Zc.steady hfr hf sky' fun h3 fl3 up3 => ?_
    have J3 : Inv X pins σ' H' { s' with heap := h3 } := J.landed nb fl3.1 (up.trans up3) os ag
    obtain ⟨oe3, vs3, he3, hz3, hd3⟩ := fl3.there
    have nfr : a ∉ frs (X.env :: X.outer) := fun hm => by
      obtain ⟨_, o', e', hnf⟩ := fl3.2.2.1.mem hm
      rw [he3] at e'; cases e'
      exact hnf _ hd3
    have nL : a ≠ X.env.locals := fun z => nfr (List.mem_filterMap.mpr ⟨X.env, List.mem_cons_self, by rw [hf, z]⟩)
    have nF : a ∉ X.fs := fun hm => by
      obtain ⟨e, he, q⟩ := List.mem_filterMap.mp hm
      exact nfr (List.mem_filterMap.mpr ⟨e, List.mem_cons_of_mem _ he, q⟩)
    have S3 := J3.suite he3 hd3 na nL nF
    have go : ∀ {hds' : List ExceptHandler} {l' : List Clause}, ClausesOk X hds' l' → wClauses X.K Wout D l' cls d σ' H' →
        wpAny (model X.prog X.w) X.A (handleBy (.ref a) X.env hds') (SP X pins D) X.xe { s' with heap := h3 } := by
      intro hds' l' hk
      induction hk with
      | nil =>
        intro ww
        refine wpAny_handleBy_nil ?_
        obtain ⟨k1, k2, k3, oe, vs, T, oT, ts', he, hz, hd, h1, hr⟩ := id fl3
        unfold PySem.passOn
        refine wpAny_bind (wpAny_field he hd h1 ?_)
        rw [if_neg (show ¬ ((Value.ref T == Value.none) = true) from by simp)]
        have fin : wpAny (model X.prog X.w) X.A (setFlight (.ref a) X.env.frame) (fun _ s4 => wpAny (model X.prog X.w) X.A (throw (.ref a) : Sem Flow) (SP X pins D) X.xe s4) X.xe { s' with heap := h3 } := by
          rw [hf]
          refine HandSPX.setFlight_upZ fl3 fun h4 hh4 up4 => wpAny_throw (tk _ _ ?_)
          exact ⟨a, B, sI, pins, σ', H', cls, d, rfl, J, nb, (up.trans up3).trans up4, .inr (.inr (by rw [hs]; exact hh4)), na, os, ag, ww⟩
        first
          | exact wpAny_bind (wpAny_pure (wpAny_bind fin))
          | exact wpAny_bind fin
      | @cons x n c i ts b₀ suite np pos' hds2 l2 hi hln hc hsu r ih =>
        intro ww
        have hloc : Loc X.env.scope n := .inl hln
        obtain ⟨b, hb1, hyes, hno⟩ := ww
        refine wpAny_handleBy_cons (codeAny_handlers_test ?_) (by intro q; cases q)
        have LT : PySem.W.Looks (model X.prog X.w) h3 (typeOf (.ref a)) cls := fun A Q E s k q => wpAny_typeOf_ref (k _ _ he3) (by rw [hz3.1]; exact q)
        have LM := PySem.W.exm_one (M := model X.prog X.w) (J3.kIn) LT hb1
        have test : ∀ {Q : Value → Shared → Prop} {E : Value → Shared → Prop}, Q c { s' with heap := h3 } → wpAny (model X.prog X.w) (X.A.mark (some (.ref a))) (eval (.Name x np) X.env) Q E { s' with heap := h3 } := fun {Q E} q => by
          obtain ⟨hg, hdbg, hm | ⟨hm, hv, hnn⟩⟩ := hc
          · exact ld_glob (X := X.suite a ((a, oe3) :: (X.pn ++ pins))) S3 hg hm q hdbg
          · exact ld_blt (X := X.suite a ((a, oe3) :: (X.pn ++ pins))) S3 hg hm hv q hnn hdbg
        refine test (LM.here ?_)
        cases b with
        | true =>
          refine codeAny_handlers_suite_as ?_
          refine HandSPX.lands_againZ fl3 fun h4 fl4 up4 => ?_
          have J4 : Inv X pins σ' H' { s' with heap := h4 } := J.landed nb fl4.1 ((up.trans up3).trans up4) os ag
          obtain ⟨oe4, vs4, he4, hz4, hd4⟩ := fl4.there
          have S4 := J4.suite he4 hd4 na nL nF
          refine store_ok (X := X.suite a ((a, oe4) :: (X.pn ++ pins))) (v := .ref a) S4 hN hi hloc rfl (fun s5 S5 => ?_) (.inr hln)
          refine wpAny_mono ((hsu a oe4 cls d (X.pn ++ pins) hz4 ⟨_, hd4⟩).run [] s5 _ H' _ S5 (hyes rfl a na)) (fun f s6 hsp => ?_) (fun _ _ z => False.elim z)
          have end_ : ∀ {σ6 : L2.St} {H6 : Hp} {Q : Shared → Prop}, Inv (X.suite a ((a, oe4) :: (X.pn ++ pins))) [] σ6 H6 s6 → (∀ s7, Inv X pins (σ6.set i none) H6 s7 → Q s7) →
              wpAny (model X.prog X.w) X.A (do bindName X.env n .none; unbindBehindTheSuite X.env n pos') (fun _ s7 => Q s7) X.xe s6 := fun {σ6 H6 Q} S6 hq => gone_ok (S6.unsuite ok) hN hi hln hq
          cases f with
          | next =>
            obtain ⟨σ6, H6, S6, q6⟩ := hsp
            exact end_ S6 fun s7 J7 => ⟨_, _, J7, q6⟩
          | brk =>
            obtain ⟨σ6, H6, S6, q6⟩ := hsp
            exact end_ S6 fun s7 J7 => ⟨_, _, J7, q6⟩
          | cont =>
            obtain ⟨σ6, H6, S6, q6⟩ := hsp
            exact end_ S6 fun s7 J7 => ⟨_, _, J7, q6⟩
          | ret u =>
            obtain ⟨v6, σ6, H6, S6, r6, q6⟩ := hsp
            exact end_ S6 fun s7 J7 => ⟨_, _, _, J7, r6, q6⟩
        | false =>
          show wpAny _ X.A (handleBy (.ref a) X.env hds2) _ _ _
          exact ih (hno rfl)
    exact go hh ww
  · cases f with
    | next =>
      obtain ⟨σ', H', J', q⟩ := hsp
      exact wpAny_execs_nil ⟨σ', H', J'.ofTry ok, q⟩
    | brk =>
      obtain ⟨σ', H', J', q⟩ := hsp
      exact ⟨σ', H', J'.ofTry ok, q⟩
    | cont =>
      obtain ⟨σ', H', J', q⟩ := hsp
      exact ⟨σ', H', J'.ofTry ok, q⟩
    | ret u =>
      obtain ⟨v, σ', H', J', r, q⟩ := hsp
      exact ⟨v, σ', H', J'.ofTry ok, r, q⟩
end
/-! ### isinstance of a caught error, with or without fields -/
def rIsX (K : PySem.W.Frag) (D a : Addr) (cls : Value) (d : Option Addr) : List V → Hp → VK → Prop := fun xs H Q => ∃ (c : V) (u : Value) (b : Bool), xs = [.ref a, c] ∧ cls = .ref D ∧ ClsE c u ∧ (d = none ∨ ∃ dd fs, d = some dd ∧ H dd = some (.xd fs)) ∧ PySem.W.kitOne K (.ref D) u = some b ∧ Q (.bl b) H
where ClsE (c : V) (u : Value) : Prop := ∀ w, RelV c w → w = u
theorem call_isX {X : Cx} {a D : Addr} {oe : Obj} {cls : Value} {d : Option Addr} {pn : List (Addr × Obj)} (C : ExcC X.K D) (hz : Zc cls d oe) (hf : ∃ vs, oe.data = .fields vs) : CallR (X.suite a ((a, oe) :: pn)) (.builtin "isinstance") (rIsX X.K D a cls d) := by
  intro pins s σ H xs us Q I r h
  obtain ⟨c, u, b, rfl, rfl, hcv, hdd, e, q⟩ := h
  cases r with
  | cons rx rr =>
    cases rr with
    | cons rt rr =>
      cases rr
      cases rx
      have ec := hcv _ rt
      subst ec
      obtain ⟨hget, _⟩ := I.pin (a, oe) (List.mem_append.mpr (.inl List.mem_cons_self))
      obtain ⟨vs, hv⟩ := hf
      have hcl : (PySem.W.clsIn X.K D).isSome = true := by
        obtain ⟨cd, hc, _⟩ := PySem.W.any_some C.hd
        rw [hc]
        rfl
      have J : ∃ od, PySem.W.InstAt s.heap a oe D od := by
        obtain ⟨oc, od, oda, osl⟩ := oe
        obtain ⟨h1, h2⟩ := hz
        dsimp only at h1 h2 hv
        subst h1 h2 hv
        rcases hdd with rfl | ⟨dd, fs, rfl, hx⟩
        · exact ⟨none, hget, rfl, rfl, trivial⟩
        · obtain ⟨o, ho⟩ := objOk_get (I.hok dd _ hx)
          exact ⟨some o, hget, rfl, rfl, ho⟩
      obtain ⟨od, J⟩ := J
      exact PySem.W.kia_one (PySem.W.kitx_exc hcl C.hg C.hk C.hs C.ha C.hn C.ht C.hm) I.kIn J e (fun z => nomatch z) fun tk => ⟨.bl b, H, I.kept (t' := tk) fun _ _ z => z, rfl, q⟩
end BX

set_option Elab.async false
set_option linter.all false
set_option maxRecDepth 100000
set_option maxHeartbeats 4000000
namespace BX
open PySem PySem.Spec PyProof.Rows L2
/-! ### promises of defs that are called where nothing is being shown -/
structure FnOkG (P : Program) (w : World) (K : PySem.W.Frag) (mg : Str → Option Value) (base : Heap) (CX : CXT) (k : Nat) (f : Addr) (fd : FuncData) (ps : List Str) (sp : Sp) : Prop where
  len : ∀ vs H Q E, sp vs H Q E → vs.length = ps.length
  run : ∀ (A : Around) (outer : List Env) (s : Shared) (H : Hp) (args : Args) (us : List Value) (vs : List V) (Q : VK) (E : XK), Room k A → A.guards = some [] → Env0 P w K mg base A outer s H → BindsTo s fd args (ps.zip us) → Vals vs us → sp vs H Q E →
    codeAny (model P w) A (.call (.ref f) args) (CR CX outer P w H s Q E) s
section
variable {P : Program} {w : World} {K : PySem.W.Frag} {mg : Str → Option Value} {base : Heap} {CX : CXT} {k : Nat} {f : Addr} {fd : FuncData} {ps : List Str} {sp : Sp}
theorem FnOkG.of (F : FnOk P w K mg base CX k f fd ps sp) : FnOkG P w K mg base CX k f fd ps sp := ⟨F.len, fun A outer s H args us vs Q E hr _ e b r h => F.run A outer s H args us vs Q E hr e b r h⟩
theorem FnOkG.mono {j : Nat} (F : FnOkG P w K mg base CX j f fd ps sp) (h : j ≤ k) : FnOkG P w K mg base CX k f fd ps sp := ⟨F.len, fun A outer s H args us vs Q E hr => F.run A outer s H args us vs Q E (hr.mono h)⟩
/-- the body of such a def -/
theorem fn_ofG {name qual : Str} {params : Arguments} {body : List Stmt} {scope : Scope} {dV kV doc pm cdv ct oc : Value} {an od : Option Addr} {osl : Array (Option Value)} {N : List Str}
    (lk : K.lookup f = some ⟨oc, od, .func (PySem.W.fnOf name qual params body scope dV kV doc pm an cdv ct), osl⟩) (hcd : PySem.W.codeIn K cdv qual = true) (S : FnScope N ps scope) (len : ∀ vs H Q E, sp vs H Q E → vs.length = ps.length)
    (hbody : ∀ (A : Around) (outer : List Env) (s : Shared) (H : Hp) (vs : List V) (Q : VK) (E : XK), Room k (A.deeper (envOfC qual scope s.heap.objs.size f cdv)) → (A.deeper (envOfC qual scope s.heap.objs.size f cdv)).guards = some [] → sp vs H Q E →
      ∃ t, PSs (cxOf CX P w K mg base N qual scope f cdv A outer s H E) body t ∧ t { nx := fun _ H' => Q .non H', rt := Q } (start N vs) H) :
    FnOkG P w K mg base CX (k + 1) f (PySem.W.fnOf name qual params body scope dV kV doc pm an cdv ct) ps sp := by
  refine ⟨len, fun A outer s H args us vs Q E hr hgd e0 hb r hsp => ?_⟩
  have KX : K.In s.heap := e0.mod.kin.keeps fun b o e => (e0.bs b o e).1
  have lim : s.heap.NoLimit := e0.mod.nolimit.keeps fun b o e => (e0.bs b o e).1
  have hkind : ∀ y ∈ ps.zip us, scope.names.lookup y.1 = some .local ∨ (scope.names.lookup y.1 = some .cell ∧ ((cellsFrom (s.heap.objs.size + 1) scope.names []).lookup y.1).isSome = true) := fun ⟨n, v⟩ hy => by
    rcases S.par n (List.of_mem_zip hy).1 with q | q
    · exact .inl q
    · exact .inr ⟨q, PySem.W.cellsFrom_some _ _ _ (.inl q)⟩
  refine codeAny_call_function hr.depth (KX _ _ lk) rfl S.co S.gen rfl (PySem.W.codeRec_of KX hcd) (hb _ _ _ _ ?_)
  refine wpAny_newFunctionEnv_cells S.kind hkind fun env he s1 x => ?_
  subst he
  refine ⟨lim.keeps x.toInCall.keep, codeAny_func ?_⟩
  obtain ⟨t, ht, hq⟩ := hbody A outer s H vs Q E (hr.deeper _) hgd hsp
  have I : Inv (cxOf CX P w K mg base N qual scope f cdv A outer s H E) [] (start N vs) H s1 := inv_start S hr.hd e0 (len _ _ _ _ hsp) r x
  refine wpAny_mono (ht.run [] s1 (start N vs) H _ I hq) (fun fl s' hs => ?_) fun e s' hs => hs
  have fin : ∀ {σ' : L2.St} {H' : Hp} {v : V} {u : Value}, Inv (cxOf CX P w K mg base N qual scope f cdv A outer s H E) [] σ' H' s' → RelV v u → Q v H' → CE outer P w H s Q u s' :=
    fun {σ' H' v u} J rv q => ⟨v, H', J.os, J.bare, J.base, J.hok, rv, q⟩
  cases fl with
  | ret u =>
    obtain ⟨v, σ', H', J, rv, q⟩ := hs
    exact fin J rv q
  | next =>
    obtain ⟨σ', H', J, q⟩ := hs
    exact fin (v := V.non) (u := Value.none) J rfl q
  | brk =>
    obtain ⟨_, _, _, q⟩ := hs
    exact False.elim q
  | cont =>
    obtain ⟨_, _, _, q⟩ := hs
    exact False.elim q
theorem okG {x qual : Str} {st : Stmt} {N : List Str} (F : Fun K x qual st f fd) (S : FnScope N ps (defScope st)) (len : ∀ vs H Q E, sp vs H Q E → vs.length = ps.length)
    (hbody : ∀ (cdv : Value) (A : Around) (outer : List Env) (s : Shared) (H : Hp) (vs : List V) (Q : VK) (E : XK), Room k (A.deeper (envOfC qual (defScope st) s.heap.objs.size f cdv)) → (A.deeper (envOfC qual (defScope st) s.heap.objs.size f cdv)).guards = some [] → sp vs H Q E →
      ∃ t, PSs (cxOf CX0 P w K mg base N qual (defScope st) f cdv A outer s H E).nox (defBody st) t ∧ t { nx := fun _ H' => Q .non H', rt := Q } (start N vs) H) : FnOkG P w K mg base CX0 (k + 1) f fd ps sp := by
  obtain ⟨oc, od, kV, doc, pm, an, cdv, ct, osl, rfl, lk, hcd⟩ := F.ex
  refine fn_ofG lk hcd S len fun A outer s H vs Q E hr hgd hsp => ?_
  obtain ⟨t, h, q⟩ := hbody cdv A outer s H vs Q E hr hgd hsp
  exact ⟨t, h.nox, q⟩
end
section
variable {X : Cx} {CX : CXT} {k : Nat} {f : Addr} {fd : FuncData} {ps : List Str} {sp : Sp} {E : XK} {x : Str} {p pos : Pos} {e : Expr} {es : List Expr} {t : TA} {ds : List Value} {dvs : List V}
theorem run_fnG {pins : List (Addr × Obj)} {σ : L2.St} {H : Hp} {s : Shared} {Q : VK} {us : List Value} {vs : List V} (F : FnOkG X.prog X.w X.K X.mg X.base CX k f fd ps sp) (hr : Room k X.A) (hgd : X.A.guards = some []) (hb : Binds X.K fd ps ds) (hd : Vals dvs ds) (hx : Passes CX X E)
    (I : Inv X pins σ H s) (r : Vals vs us) (h : sp (vs ++ dvs) H Q E) : wpAny (model X.prog X.w) X.A (call (.ref f) us) (EP X pins σ Q) X.xe s := by
  have r2 : Vals (vs ++ dvs) (us ++ ds) := r.append hd
  have hl : (us ++ ds).length = ps.length := by rw [← r2.length]; exact F.len _ _ _ _ h
  refine wpAny_call (codeAny_mono (F.run X.A X.stack s H ⟨us, []⟩ (us ++ ds) (vs ++ dvs) Q E hr hgd I.env0 (hb s us I.kIn hl) r2 h) fun r s' hq => ?_)
  cases r with
  | error e => exact hx pins σ H s e s' I hq
  | ok fl =>
    cases fl with
    | ret u => exact I.after hq
    | next => exact False.elim hq
    | brk => exact False.elim hq
    | cont => exact False.elim hq
theorem pe_callG (F : FnOkG X.prog X.w X.K X.mg X.base CX k f fd ps sp) (hr : Room k X.A) (hgd : X.A.guards = some []) (hg : Gl X x) (hm : X.mg x = some (.ref f)) (hk : PySem.W.keepIn X.K (.ref f) = true) (hb : Binds X.K fd ps ds) (hd : Vals dvs ds) (hx : Passes CX X E)
    (ha : PA X (e :: es) t) (hdb : (x == ("__debug__" : Str)) = false := by decide) (he : starEach (e :: es) X.env = (false, eval e X.env) :: starEach es X.env := by rfl) (hpl : (backTo pos (starEach es X.env)).any (·.1) = false := by rfl) :
    PE X (.Call (.Name x p) (e :: es) [] pos) (tCall sp dvs E t) := by
  refine ⟨fun pins s σ H Q I h => ?_⟩
  refine wpAny_Call_Name_kw (ld_glob I hg hm ?_ hdb)
  refine PySem.W.callWith_K (h₀ := X.base) I.ok.mod.kin hk (thn (ha.run pos pins s σ H _ I h) fun us s1 ⟨vs, H1, I1, r, q⟩ => ⟨I1.kIn, ?_⟩) he hpl
  exact run_fnG F hr hgd hb hd hx I1 r q
end
/-! ### repr -/
/-- data, or the empty dict -/
def Dq (K : PySem.W.Frag) (H : Hp) (v : V) (d : PyData) : Prop := Dp K H v d ∨ ∃ a, v = .ref a ∧ H a = some (.dK []) ∧ d = .dict []
mutual
theorem noDict {K : PySem.W.Frag} {H : Hp} : ∀ (d : PyData) (v : V), Dp K H v d → d.hasDict = false
  | .none, _, _ => rfl
  | .bool _, _, _ => rfl
  | .int _, _, _ => rfl
  | .str _, _, _ => rfl
  | .list ds, _, h => by
    cases h with
    | lst _ ha => exact noDicts ds _ ha
  | .tuple ds, _, h => by
    cases h with
    | tup _ ha => exact noDicts ds _ ha
  | .dict _, _, h => by cases h
theorem noDicts {K : PySem.W.Frag} {H : Hp} : ∀ (ds : List PyData) (vs : List V), DpAll K H vs ds → PyData.hasDictAll ds = false
  | [], _, _ => rfl
  | d :: ds, _, h => by
    cases h with
    | cons h1 h2 =>
      show (PyData.hasDict d || PyData.hasDictAll ds) = false
      rw [noDict d _ h1, noDicts ds _ h2]
      rfl
end
def rRepr (K : PySem.W.Frag) : List V → Hp → VK → Prop := fun xs H Q => ∃ x d, xs = [x] ∧ Dq K H x d ∧ d.showable = true ∧ d.depth ≤ 64 ∧ d.shown.length ≤ sizeLine ∧ Q (.str d.shown) H
theorem call_reprD {X : Cx} (hgd : X.A.guards = some []) (hu : X.A.units + 80 < cLine) : CallR X (.builtin "repr") (rRepr X.K) := by
  intro pins s σ H xs us Q I r h
  obtain ⟨x, d, rfl, hd, hs, hdp, hsz, q⟩ := h
  cases r with
  | @cons _ u _ _ ru rn =>
    cases rn
    have up : ∀ {a : Addr} {as : List Addr}, Reads s.heap (.ref a) d as → (d.hasDict = true → sysModules ∉ as) → wpAny (model X.prog X.w) X.A (call (.builtin "repr") [.ref a]) (EP X pins σ Q) X.xe s := fun {a as} rd hsm =>
      repr_of_reads' rd hs hsm hgd (by omega) (fun _ _ z => z) (fun h' u tk hk => ⟨.str d.shown, H, I.kept (t' := tk) hk, ⟨_, rfl⟩, q⟩) hsz
    rcases hd with hd | ⟨a, rfl, ha, rfl⟩
    · have nd := noDict d x hd
      cases hd with
      | non => cases (show u = Value.none from ru); exact P.repr_of_none ⟨.str (PyData.shown .none), H, I.tok _, ⟨_, rfl⟩, q⟩
      | bl b => cases (show u = Value.bool b from ru); exact P.repr_of_bool ⟨.str (PyData.shown (.bool b)), H, I.tok _, ⟨_, rfl⟩, q⟩
      | int i => obtain ⟨t, e⟩ := (show ∃ t, u = Value.int i t from ru); cases e; exact P.repr_of_int (of_decide_eq_true hs) ⟨.str (PyData.shown (.int i)), H, I.tok _, ⟨_, rfl⟩, q⟩
      | str y => obtain ⟨t, e⟩ := (show ∃ t, u = Value.str y t from ru); cases e; exact P.repr_of_str ⟨.str (PyData.shown (.str y)), H, I.tok _, ⟨_, rfl⟩, q⟩ hsz
      | @lst a xs ds h1 h2 =>
        cases (show u = Value.ref a from ru)
        obtain ⟨as, rd⟩ := Dp.reads I _ _ _ (Dp.lst h1 h2) (show RelV (.ref a) (.ref a) from rfl)
        exact up rd (fun z => by rw [nd] at z; cases z)
      | @tup a xs ds h1 h2 =>
        cases (show u = Value.ref a from ru)
        obtain ⟨as, rd⟩ := Dp.reads I _ _ _ (Dp.tup h1 h2) (show RelV (.ref a) (.ref a) from rfl)
        exact up rd (fun z => by rw [nd] at z; cases z)
    · cases (show u = Value.ref a from ru)
      obtain ⟨_, hns, vs, hkv, o, es, ep, h1, h2, h3, h4, h5, _⟩ := (show ObjOk X.prog X.w H s.heap a (.dK []) from I.hok a _ ha)
      cases hkv
      have he : es.toList = [] := List.eq_nil_of_length_eq_zero h5.length
      refine up (as := a :: [] ++ []) (Reads.dict h1 h2.1 h3 (by rw [he]; exact .nil) (by rw [he]; exact .nil)) (fun _ hm => ?_)
      have ea : sysModules = a := by simpa using hm
      rw [← ea] at hns
      exact absurd hns (by decide +kernel)
end BX

set_option Elab.async false
set_option linter.all false
set_option maxRecDepth 100000
set_option maxHeartbeats 2000000
namespace Co
open PySem PySem.Spec PyProof.Rows L2
open Fr (Bd)
/-! ### // by any number but nought -/
def CDivZ (_ j : Int) : Prop := j ≠ 0 ∧ j.natAbs.log2 < 9000
theorem op_fdivZ {X : Cx} : OpR X (binaryOp .FloorDiv) (rI CDivZ fun i j => .int (i.fdiv j)) := opI fun i j _ _ _ _ _ hc q => floordiv_int hc.1 q (.inl (PyProof.noPylong_of_log2 hc.2))
theorem divZ {i j : Int} {n : Nat} (h : j ≠ 0) (hb : j.natAbs < 2 ^ n) (h0 : 0 < n) (h9 : n ≤ 9000) : CDivZ i j := ⟨h, Nat.lt_of_lt_of_le (PySem.Flt.log2_lt_of h0 hb) h9⟩
theorem same_new {H : Hp} {p : Addr} (h : H p = none) (o : HO) : Same H (upd H p o) := fun b u q => by rw [upd_ne (ne_of_none q h)]; exact q
theorem seqT {K : PySem.W.Frag} {H H' : Hp} {a : Addr} {xs : List V} (e : Same H H') (h : SqT K H a xs) : SqT K H' a xs := by
  rcases h with (h | ⟨o, h⟩) | h
  · exact .inl (.inl (e _ _ h))
  · exact .inl (.inr ⟨o, e _ _ h⟩)
  · exact .inr h
/-- what stands in a fraction's tuple -/
def rp (q : Rat) : List V := [.int q.num, .int (q.den : Int)]
def spDiv : Sp := fun vs H Q _ => ∃ a b : Int, vs = [.int a, .int b] ∧ Q (.int (Int.gcd a b : Int)) H
def spLow : Sp := fun vs H Q _ => ∃ (t b : Int) (n : Nat), vs = [.int t, .int b] ∧ t.natAbs < 2 ^ n ∧ b.natAbs < 2 ^ n ∧ b ≠ 0 ∧ n ≤ 8950 ∧ ∀ p, H p = none → Q (.ref p) (upd H p (.tup (rp (Rat.divInt t b))))
theorem gcd_bd {t b : Int} {n : Nat} (h : b ≠ 0) (hb : b.natAbs < 2 ^ n) : (Int.gcd t b : Int).natAbs < 2 ^ n := by
  rw [Int.natAbs_natCast]
  exact Nat.lt_of_le_of_lt (Nat.le_of_dvd (by omega) (Int.gcd_dvd_natAbs_right t b)) hb
theorem wmul {i j : Int} {n m : Nat} (hi : i.natAbs < 2 ^ n) (hj : j.natAbs < 2 ^ m) (h : n + m ≤ 9000) : CMulW i j :=
  wide_mul (a := n + 1) (b := m + 1) (Fr.up hi (Nat.le_succ _)) (Fr.up hj (Nat.le_succ _)) (Nat.succ_pos _) (Nat.succ_pos _) (by omega)
theorem at0 (q : Rat) : atI (rp q) 0 = some (.int q.num) := atI_nat (j := 0) rfl
theorem at1 (q : Rat) : atI (rp q) 1 = some (.int (q.den : Int)) := atI_nat (j := 1) rfl
/-- a fraction made of two -/
def spBin (K : PySem.W.Frag) (g : Rat → Rat → Rat) : Sp := fun vs H Q _ => ∃ (a b : Addr) (x y : Rat) (n m : Nat), vs = [.ref a, .ref b] ∧ SqT K H a (rp x) ∧ SqT K H b (rp y) ∧ Bd n x ∧ Bd m y ∧ n + m ≤ 8900 ∧ ∀ p, H p = none → Q (.ref p) (upd H p (.tup (rp (g x y))))
def spUnder (K : PySem.W.Frag) : Sp := fun vs H Q _ => ∃ (a b : Addr) (x y : Rat) (n m : Nat), vs = [.ref a, .ref b] ∧ SqT K H a (rp x) ∧ SqT K H b (rp y) ∧ Bd n x ∧ Bd m y ∧ n + m ≤ 8900 ∧ Q (.bl (decide (x.num * y.den < y.num * x.den))) H
theorem abs_eq (x : Int) : (if x < 0 then -x else x) = (x.natAbs : Int) := by split <;> omega
theorem tyT {K : PySem.W.Frag} {H : Hp} {a : Addr} {xs : List V} (h : SqT K H a xs) : TyX K H (.ref a) (.type "tuple") := by
  rcases h with (h | ⟨o, h⟩) | ⟨o, its, n, e, c, _⟩
  · exact .base (.tup h)
  · exact .fTuple h
  · exact .kTuple e c
/-- what the module leaves of the built-in names -/
structure Blt (mg : Str → Option Value) : Prop where
  abs_ : mg "abs" = none
  isinstance_ : mg "isinstance" = none
  int_ : mg "int" = none
  bool_ : mg "bool" = none
  tuple_ : mg "tuple" = none
  list_ : mg "list" = none
  len_ : mg "len" = none
  range_ : mg "range" = none
  str_ : mg "str" = none
  repr_ : mg "repr" = none
  sum_ : mg "sum" = none
  all_ : mg "all" = none
  any_ : mg "any" = none
  enumerate_ : mg "enumerate" = none
  zip_ : mg "zip" = none
  min_ : mg "min" = none
  max_ : mg "max" = none
  sorted_ : mg "sorted" = none
  ValueError_ : mg "ValueError" = none
  ZeroDivisionError_ : mg "ZeroDivisionError" = none
  OverflowError_ : mg "OverflowError" = none
  IndexError_ : mg "IndexError" = none
  LookupError_ : mg "LookupError" = none
  ArithmeticError_ : mg "ArithmeticError" = none
  KeyError_ : mg "KeyError" = none
  RuntimeError_ : mg "RuntimeError" = none
/-- a list of fractions: its items, and what they are worth -/
structure FrL (K : PySem.W.Frag) (H : Hp) (refs : List V) (qs : List Rat) : Prop where
  len : refs.length = qs.length
  at_ : ∀ (i : Nat) (v : V), refs[i]? = some v → ∃ (a : Addr) (q : Rat), qs[i]? = some q ∧ v = .ref a ∧ SqT K H a (rp q) ∧ Bd 100 q
theorem FrL.keep {K : PySem.W.Frag} {H H' : Hp} {refs : List V} {qs : List Rat} (h : FrL K H refs qs) (k : ∀ a xs, SqT K H a xs → SqT K H' a xs) : FrL K H' refs qs :=
  ⟨h.len, fun i v e => let ⟨a, q, e1, e2, e3, e4⟩ := h.at_ i v e; ⟨a, q, e1, e2, k _ _ e3, e4⟩⟩
theorem FrL.same {K : PySem.W.Frag} {H H' : Hp} {refs : List V} {qs : List Rat} (h : FrL K H refs qs) (e : Same H H') : FrL K H' refs qs := h.keep fun _ _ => seqT e
theorem FrL.nil {K : PySem.W.Frag} {H : Hp} : FrL K H [] [] := ⟨rfl, fun i v e => by simp at e⟩
theorem FrL.snoc {K : PySem.W.Frag} {H : Hp} {refs : List V} {qs : List Rat} {a : Addr} {q : Rat} (h : FrL K H refs qs) (ha : SqT K H a (rp q)) (hb : Bd 100 q) : FrL K H (refs ++ [.ref a]) (qs ++ [q]) := by
  refine ⟨by rw [List.length_append, List.length_append, h.len]; rfl, fun i v e => ?_⟩
  by_cases hi : i < refs.length
  · rw [List.getElem?_append_left hi] at e
    obtain ⟨a', q', e1, e2, e3, e4⟩ := h.at_ i v e
    exact ⟨a', q', by rw [List.getElem?_append_left (by rw [← h.len]; exact hi)]; exact e1, e2, e3, e4⟩
  · rw [List.getElem?_append_right (by omega)] at e
    have e0 : i - refs.length = 0 := by
      cases z : i - refs.length with
      | zero => rfl
      | succ j => rw [z] at e; simp at e
    rw [e0] at e
    have ev : (V.ref a) = v := Option.some.inj e
    refine ⟨a, q, ?_, ev.symm, ha, hb⟩
    rw [List.getElem?_append_right (by rw [← h.len]; omega), ← h.len, e0]
    rfl
theorem keep_lst {K : PySem.W.Frag} {H : Hp} {l : Addr} {ys zs : List V} (hl : H l = some (.lst ys)) : ∀ a xs, SqT K H a xs → SqT K (upd H l (.lst zs)) a xs := fun a xs h => by
  rcases h with (h | ⟨o, h⟩) | h
  · exact .inl (.inl (by rw [upd_ne (ne_of h hl (by intro z; cases z))]; exact h))
  · exact .inl (.inr ⟨o, by rw [upd_ne (ne_of h hl (by intro z; cases z))]; exact h⟩)
  · exact .inr h
theorem sum_snoc {qs : List Rat} {i : Nat} {q : Rat} (h : qs[i]? = some q) : (qs.take (i + 1)).sum = (qs.take i).sum + q := by
  rw [List.take_add_one, h, List.sum_append]
  show _ + ([q] : List Rat).sum = _
  rw [List.sum_cons, List.sum_nil, Rat.add_zero]
def spLeft : Sp := fun vs H Q _ => ∃ c : Int, vs = [.int c] ∧ ∀ p n, H p = none → Q (.ref p) (upd H p (.lst [.int n]))
def spDigit : Sp := fun vs H Q _ => ∃ (l : Addr) (n m : Int), vs = [.ref l, .int m] ∧ H l = some (.lst [.int n]) ∧ 0 < m ∧ m.natAbs < 2 ^ 200 ∧ ∀ d n' : Int, 0 ≤ d → d < m → Q (.int d) (upd H l (.lst [.int n']))
theorem lt100 {i : Int} (h : i.natAbs ≤ 10 ^ 20) : i.natAbs < 2 ^ 100 := Nat.lt_of_le_of_lt h (by decide)
/-- a fraction as data -/
def dR (q : Rat) : PyData := .tuple [.int q.num, .int (q.den : Int)]
theorem dp_r {K : PySem.W.Frag} {H : Hp} {a : Addr} {q : Rat} (h : SqT K H a (rp q)) : Dp K H (.ref a) (dR q) := .tup h (.cons (.int _) (.cons (.int _) .nil))
theorem dR_lay (q : Rat) : (dR q).canLay0 = true := rfl
theorem dR_depth (q : Rat) : (dR q).depth = 1 := rfl
theorem dR_shaped (q : Rat) : SeqAt.shaped (dR q) = true := rfl
theorem FrL.dp {K : PySem.W.Frag} {H : Hp} : ∀ {refs : List V} {qs : List Rat}, FrL K H refs qs → DpAll K H refs (qs.map dR)
  | [], [], _ => .nil
  | [], _ :: _, h => by have := h.len; simp at this
  | _ :: _, [], h => by have := h.len; simp at this
  | v :: refs, q :: qs, h => by
    obtain ⟨a, q', e1, rfl, e3, _⟩ := h.at_ 0 v rfl
    have e : q = q' := Option.some.inj e1
    subst e
    refine .cons (dp_r e3) (FrL.dp ⟨by have := h.len; simpa using this, fun i v e => ?_⟩)
    exact h.at_ (i + 1) v e
theorem lays : ∀ qs : List Rat, PyData.canLayAll0 (qs.map dR) = true
  | [] => rfl
  | q :: qs => by
    show (PyData.canLay0 (dR q) && PyData.canLayAll0 (qs.map dR)) = true
    rw [lays qs]
    rfl
theorem deps : ∀ qs : List Rat, PyData.depthAll (qs.map dR) ≤ 1
  | [] => by decide
  | q :: qs => by
    have := deps qs
    show max (PyData.depth (dR q)) (PyData.depthAll (qs.map dR)) ≤ 1
    rw [dR_depth]
    omega
theorem list_lay (qs : List Rat) : (PyData.list (qs.map dR)).canLay0 = true := lays qs
theorem list_shaped (qs : List Rat) : SeqAt.shaped (.list (qs.map dR)) = true := by
  unfold SeqAt.shaped
  rw [list_lay, Bool.true_and]
  refine decide_eq_true ?_
  have := deps qs
  show PyData.depthAll (qs.map dR) + 1 ≤ 64
  omega
theorem FrL.rev {K : PySem.W.Frag} {H : Hp} {refs : List V} {qs : List Rat} (h : FrL K H refs qs) : FrL K H refs.reverse qs.reverse := by
  refine ⟨by rw [List.length_reverse, List.length_reverse, h.len], fun i v e => ?_⟩
  have hi : i < refs.length := by
    have := (List.getElem?_eq_some_iff.mp e).1
    rw [List.length_reverse] at this
    exact this
  rw [List.getElem?_reverse hi] at e
  obtain ⟨a, q, e1, e2, e3, e4⟩ := h.at_ _ v e
  refine ⟨a, q, ?_, e2, e3, e4⟩
  rw [List.getElem?_reverse (by rw [← h.len]; exact hi), ← h.len]
  exact e1
theorem cut_mem {xs : List V} {lo hi : Option Int} {x : V} (h : x ∈ cutV xs lo hi) : x ∈ xs := List.mem_of_mem_drop (List.mem_of_mem_take h)
theorem FrL.mem {K : PySem.W.Frag} {H : Hp} {refs : List V} {qs : List Rat} {v : V} (h : FrL K H refs qs) (hv : v ∈ refs) : ∃ (a : Addr) (q : Rat), v = .ref a ∧ SqT K H a (rp q) ∧ Bd 100 q := by
  obtain ⟨i, hi, e⟩ := List.getElem_of_mem hv
  obtain ⟨a, q, _, e2, e3, e4⟩ := h.at_ i v (by rw [List.getElem?_eq_getElem hi, e])
  exact ⟨a, q, e2, e3, e4⟩
theorem int_of {ns : List Int} {x : V} {lo hi : Option Int} {z : Int} {i : Nat} (h : (cutV (ns.map V.int) lo hi ++ [V.int z])[i]? = some x) : ∃ c : Int, x = .int c := by
  have hm := List.mem_of_getElem? h
  rcases List.mem_append.mp hm with hm | hm
  · obtain ⟨c, _, e⟩ := List.mem_map.mp (cut_mem hm)
    exact ⟨c, e.symm⟩
  · exact ⟨z, by simpa using hm⟩
/-- an error of the class at S is what «except S» names -/
theorem exm_self {K : PySem.W.Frag} {S : Addr} (h1 : PySem.W.subIn K (.ref S) (.type "BaseException") = some true) (h2 : PySem.W.isClsIn K S = true) (h3 : PySem.W.typeIn K (.ref S) = some (.type "type")) (h4 : PySem.W.subIn K (.ref S) (.ref S) = some true) :
    PySem.W.exmOne K (.ref S) (.ref S) = some true := by
  have e1 : (PySem.W.subIn K (.ref S) (.type "BaseException") == some true) = true := by rw [h1] <;> rfl
  have e2 : ((PySem.W.clsIn K S).isSome && PySem.W.typeIn K (.ref S) == some (.type "type")) = true := by
    have h2' : (PySem.W.clsIn K S).isSome = true := h2
    rw [h2', h3] <;> rfl
  show (if (PySem.W.subIn K (.ref S) (.type "BaseException") == some true) = true then (if ((PySem.W.clsIn K S).isSome && PySem.W.typeIn K (.ref S) == some (.type "type")) = true then PySem.W.subIn K (.ref S) (.ref S) else none) else none) = some true
  rw [if_pos e1, if_pos e2]
  exact h4
end Co

set_option Elab.async false
set_option linter.all false
set_option maxRecDepth 100000
set_option maxHeartbeats 4000000
namespace EXB
open PySem PySem.Spec PyProof.Rows L2
/-- what the written part says of an own error class over B -/
structure ExC (K : PySem.W.Frag) (C : Addr) (newId : String) (bmB : List Value) : Prop where
  cls : ∃ nm q N bs sn sub ab col dd k0 k1 k2 k3 k5, K.lookup C = some (excClassObj nm q C N bs bmB true sn sub ab col dd k0 k1 k2 k3 k5 newId)
  exC : PySem.W.subIn K (.ref C) (.type "BaseException") = some true
  tyC : PySem.W.typeIn K (.ref C) = some (.type "type")
  kC : PySem.W.keepIn K (.ref C) = true
section
variable {X : Cx} {pins : List (Addr × Obj)} {σ : L2.St} {H : Hp} {s : Shared} {a C : Addr} {A : Around} {E : Value → Shared → Prop} {B newId initId : String} {bmB : List Value}
/-- B.__init__(self, ..): nothing of it is told -/
theorem einit_ok {us : List Value} {Q : Value → Shared → Prop} (Fb : ExcBaseFacts B newId initId bmB) (T : ExC X.K C newId bmB) (I : Inv X pins σ H s) (e : H a = some (exo a C none)) (hl : us.length ≤ sizeLine) (h : ∀ s', Inv X pins σ H s' → Q .none s') :
    wpAny (model X.prog X.w) A (call (.builtin initId) (.ref a :: us)) Q E s := by
  obtain ⟨nm, q, N, bs, sn, sub, ab, col, dd, k0, k1, k2, k3, k5, hC⟩ := T.cls
  obtain ⟨t1, ho⟩ := exo_at I.hok e
  obtain ⟨hp, g, d, t, os⟩ := s
  refine wpAny_call (PySem.HandSPX.init_base Fb (fun Y => rfl) (I.kIn _ _ hC) ho hl fun h' t2 k hx => ?_)
  have J := I.write (t' := t) (x := a) (e := a) (o := exo a C none) (by rw [e]; exact True.intro) (.inl rfl) k ⟨_, hx⟩ (exo_ok hx)
  have eu : upd H a (exo a C none) = H := by
    funext b
    by_cases hb : b = a
    · rw [hb, upd_same, e]
    · rw [upd_ne hb]
  rw [eu] at J
  exact h _ J
end
def tExI (K : PySem.W.Frag) (newId : String) (bmB : List Value) (ta : TA) : TE := fun σ H Q => ta σ H fun vs H1 => ∃ (a C : Addr) (ws : List V), vs = .ref a :: ws ∧ ws.length ≤ 1000 ∧ ExC K C newId bmB ∧ H1 a = some (exo a C none) ∧ Q .non H1
section
variable {X : Cx} {e : Expr} {es : List Expr} {ta : TA} {p p1 p2 pos : Pos} {B newId initId : String} {bmB : List Value}
theorem typ_ZD : typeOf (.type "ZeroDivisionError") = pure (.type "type") := by kernel_rfl
theorem pe_zdinit {pl : Sem Bool} (hg : Gl X "ZeroDivisionError") (hm : X.mg "ZeroDivisionError" = none) (vV : PySem.W.findCls X.K (.type "ZeroDivisionError") (.type "type") "__init__" = some (.val (.builtin "ZeroDivisionError.__init__"))) (ha : PA X (e :: es) ta)
    (hc : eval (.Call (.Attribute (.Name "ZeroDivisionError" p1) "__init__" p2) (e :: es) [] pos) X.env = (do
      let ov ← eval (.Name "ZeroDivisionError" p1) X.env
      standAt p2.atName
      let (f, first) ← holding [ov] (getMethod ov "__init__" pl)
      callWith pos f first (backTo pos (starEach (e :: es) X.env)) (backToKw pos (keywordEach [] X.env))) := by rfl)
    (he : starEach (e :: es) X.env = (false, eval e X.env) :: starEach es X.env := by rfl) (hpl : (backTo pos (starEach es X.env)).any (·.1) = false := by rfl) :
    PE X (.Call (.Attribute (.Name "ZeroDivisionError" p1) "__init__" p2) (e :: es) [] pos) (tExI X.K "ZeroDivisionError.__new__" [.type "ZeroDivisionError", .type "ArithmeticError", .type "Exception", .type "BaseException", .type "object"] ta) := by
  refine ⟨fun pins s σ H Q I h => ?_⟩
  refine PySem.W.methodCall_KW (ld_blt I hg hm PyProof.Rows.Boot.«ZeroDivisionError» ?_ (by decide) (by decide)) hc
  obtain ⟨m, fr⟩ := I.fr
  refine PySem.W.method_type fr I.ok.mod.kin typ_ZD (by decide +kernel) vV (by decide +kernel) ?_
  show wpAny _ _ (callWith pos (Value.builtin "ZeroDivisionError.__init__") [] (backTo pos (starEach (e :: es) X.env)) []) _ _ _
  refine PyProof.Rows.callWith_method1 (thn (ha.run pos pins _ σ H _ (I.tok _) h) fun us s1 ⟨vs, H1, I1, r1, a, C, ws, ev, hl, T, ea, q⟩ => ?_) he hpl
  subst ev
  cases r1 with
  | @cons _ u0 _ ur ra rw' =>
    obtain rfl : u0 = Value.ref a := ra
    have hlen : ur.length ≤ sizeLine := by
      rw [← Paired.length rw', sizeLine_eq]
      omega
    exact einit_ok PySem.F.excBase_ZeroDivisionError T I1 ea hlen fun s' J => ⟨.non, H1, J, rfl, q⟩
/-- the end of C(..), no field: the exception is let go -/
theorem mk_endN {pins : List (Addr × Obj)} {σ : L2.St} {H1 H2 : Hp} {Q : XK} {hp hp2 h2 : Heap} {g1 g2 : Array GenState} {d1 d2 : Drawn} {t1 t2 : Nat} {os1 os2 : OsState} {a C : Addr} (T : Raises X (.ref C)) (I1 : Inv X pins σ H1 ⟨hp, g1, d1, t1, os1⟩)
    (ha : hp.objs.size ≤ a) (k : ∀ b o, hp.get? b = some o → hp2.get? b = some o) (un : Un (frs X.stack) [] (upd H1 a (exo a C none)) H2 hp2 h2) (hok : HOk X.prog X.w H2 h2) (ho : os2 = os1) (hb : AllBare g2)
    (ea : H2 a = some (exo a C none)) (q : Q (.ref C) none (del H2 a)) : MkP X pins σ Q (.ref a) ⟨h2, g2, d2, t2, os2⟩ := by
  obtain ⟨t0, hoe⟩ := exo_at hok ea
  have hn : H1 a = none := I1.hok.fresh ha
  obtain ⟨G, g1', g2'⟩ := restrict h2 fun b => decide (b ≠ a)
  have gk : ∀ b, b ≠ a → G.get? b = h2.get? b := fun b hb => g1' b (decide_eq_true hb)
  have ge : G.get? a = none := g2' a (by simp)
  have nha : ∀ {b : Addr} {o : Obj}, hp.get? b = some o → b ≠ a := fun {b o} z => Nat.ne_of_lt (Nat.lt_of_lt_of_le (Heap.lt_size z) ha)
  have up : ∀ {b : Addr}, b ≠ a → H1 b = none → upd H1 a (exo a C none) b = none := fun {b} hb n => by rw [upd_ne hb]; exact n
  have U : Un (frs X.stack) [] H1 (del H2 a) hp G := {
    keep := fun b o z n hf hx => by
      rw [gk b (nha z)]
      exact un.keep b o (k b o z) (up (nha z) n) hf hx
    slot := fun b o z n hf hx => by
      rw [gk b (nha z)]
      exact un.slot b o (k b o z) (up (nha z) n) hf hx
    free := fun b o z n hx => by
      rw [del_ne (nha z)]
      exact un.free b o (k b o z) (up (nha z) n) hx
    there := fun b o z hx => by
      rw [gk b (nha z)]
      exact un.there b o (k b o z) hx
    tups := fun b xs z => by
      rw [del_ne (ne_of_none z hn)]
      exact un.tups b xs (by rw [upd_ne (ne_of_none z hn)]; exact z)
    frzs := fun b o v z => by
      rw [del_ne (ne_of_none z hn)]
      exact un.frzs b o v (by rw [upd_ne (ne_of_none z hn)]; exact z)
    tbls := fun b ps z => by
      rw [del_ne (ne_of_none z hn)]
      exact un.tbls b ps (by rw [upd_ne (ne_of_none z hn)]; exact z) }
  have hok3 : HOk X.prog X.w (del H2 a) G := fun b o z => by
    have hba : b ≠ a := fun e => by
      rw [e, del_same] at z
      cases z
    rw [del_ne hba] at z
    have noa : ∀ {c : Addr}, H2 c = some (.own b) → c ≠ a := fun {c} hc => at_ne ea hc exo_own
    exact (hok b o z).stay (fun c v hc y => by
        have hca : c ≠ a := by
          rcases hc with hc | hc
          · rw [hc]
            exact hba
          · exact noa hc
        rw [gk c hca]
        exact y)
      (fun c hc => by rw [del_ne (noa hc)]; exact hc) (fun c xs hc => by rw [del_ne (at_ne ea hc exo_tup)]; exact hc)
  have J : Inv X pins σ (del H2 a) ⟨G, g2, d2, t2, os2⟩ := I1.call' (ch := []) ho U hok3 hb (fun b z => absurd z (by simp))
  refine ⟨a, _, _, ⟨G, g2, d2, t2, os2⟩, _, .ref C, none, rfl, J, fun b o z => ?_, ge, hoe, ⟨rfl, rfl⟩, rfl, rfl, del_same, rfl, hb, T, q⟩
  by_cases hba : b = a
  · have z' : G.get? b = some o := z
    rw [hba, ge] at z'
    cases z'
  · exact (gk b hba).symm.trans z
/-- the promise of an __init__ that makes no field -/
def spEi (C : Addr) : Sp := fun vs H Q _ => ∃ a, vs = [.ref a] ∧ H a = some (exo a C none) ∧ Q .non H
/-- C(), C's __init__ making no field -/
theorem pmk_exN {x : Str} {C fI : Addr} {k : Nat} {fd : FuncData} {ps : List Str} (Fb : ExcBaseFacts B newId initId bmB) (T : ExC X.K C newId bmB) (iC : PySem.W.findIn X.K (.ref C) "__init__" = some (some (.ref fI))) (tI : PySem.W.typeIn X.K (.ref fI) = some (.type "function"))
    (F1 : FnOk X.prog X.w X.K X.mg X.base CX0 k fI fd ps (spEi C)) (hr : Room (k + 1) X.A) (hb : Binds X.K fd ps []) (hg : Gl X x) (hm : X.mg x = some (.ref C))
    (hdb : (x == ("__debug__" : Str)) = false := by decide) :
    PMk X (.Call (.Name x p) [] [] pos) (fun _ H Q => Q (.ref C) none H) := by
  intro pins s σ H Q I h
  obtain ⟨nm, q, N, bs, sn, sub, ab, col, dd, k0, k1, k2, k3, k5, hC⟩ := T.cls
  refine wpAny_Call_Name_kw (ld_glob I hg hm ?_ hdb)
  refine PySem.W.callWith_K0 I.kIn T.kC ?_
  show wpAny _ _ (call (.ref C) []) _ _ _
  obtain ⟨hp, g, dr, tk, os⟩ := s
  have hsz : hp.objs.size ≤ hp.objs.size + 1 := Nat.le_succ _
  have hn : H (hp.objs.size + 1) = none := I.hok.fresh hsz
  have kk : ∀ b o, hp.get? b = some o → ((hp.push (PySem.W.kdv_tup [])).push (PySem.HandSPX.excO C hp.objs.size)).get? b = some o := fun b o e => Heap.get?_push_of_some _ (Heap.get?_push_of_some _ e)
  have hget : ((hp.push (PySem.W.kdv_tup [])).push (PySem.HandSPX.excO C hp.objs.size)).get? (hp.objs.size + 1) = some (PySem.HandSPX.excO C hp.objs.size) := by heap_get
  have I2 : Inv X pins σ (upd H (hp.objs.size + 1) (exo (hp.objs.size + 1) C none)) ⟨(hp.push (PySem.W.kdv_tup [])).push (PySem.HandSPX.excO C hp.objs.size), g, dr, tk, os⟩ :=
    I.laid (t' := tk) (a := hp.objs.size + 1) (o := exo (hp.objs.size + 1) C none) (h' := (hp.push (PySem.W.kdv_tup [])).push (PySem.HandSPX.excO C hp.objs.size)) kk hsz (exo_ok hget)
  have r2 : Vals [V.ref (hp.objs.size + 1)] [Value.ref (hp.objs.size + 1)] := .cons rfl .nil
  have hq : spEi C [V.ref (hp.objs.size + 1)] (upd H (hp.objs.size + 1) (exo (hp.objs.size + 1) C none)) (fun v H2 => v = .non ∧ H2 = upd H (hp.objs.size + 1) (exo (hp.objs.size + 1) C none)) (fun _ _ _ => False) :=
    ⟨_, rfl, upd_same, rfl, rfl⟩
  have hl : ([Value.ref (hp.objs.size + 1)] ++ []).length = ps.length := by
    have e := r2.length
    rw [F1.len _ _ _ _ hq] at e
    exact e.symm
  refine wpAny_call (PySem.HandSPX.call_own Fb (fun Y => rfl) (I.kIn _ _ hC) (PySem.W.looks_findIn I.kIn iC) (fun self => PySem.W.bind_fn I.kIn self tI) (Nat.zero_le _)
    (codeAny_mono (F1.run _ X.stack _ _ ⟨[Value.ref (hp.objs.size + 1)], []⟩ [Value.ref (hp.objs.size + 1)] _ _ (fun _ _ _ => False) (hr.make C [] []) (I2.env0.make C [] []) (hb _ [Value.ref (hp.objs.size + 1)] I2.kIn hl) r2 hq) fun r s' hq' => ?_))
  cases r with
  | error er => exact False.elim hq'
  | ok fl =>
    cases fl with
    | ret u =>
      obtain ⟨v, H2, os2, bare2, un2, hok2, rv, ev, eH⟩ := hq'
      subst ev
      subst eH
      obtain ⟨h2, g2, d2, t2, os'⟩ := s'
      refine ⟨rv, mk_endN (raises_own T.exC T.tyC) I hsz kk un2 hok2 os2 bare2 upd_same ?_⟩
      have eD : del (upd H (hp.objs.size + 1) (exo (hp.objs.size + 1) C none)) (hp.objs.size + 1) = H := by
        funext b
        by_cases hb : b = hp.objs.size + 1
        · rw [hb, del_same]
          exact hn.symm
        · rw [del_ne hb, upd_ne hb]
      rw [eD]
      exact h
    | next => exact False.elim hq'
    | brk => exact False.elim hq'
    | cont => exact False.elim hq'
end
/-! ### an own error over ValueError with one field -/
/-- the promise of an __init__ that makes the field f -/
def spE1 (C : Addr) (f : Str) : Sp := fun vs H Q _ => ∃ a v, vs = [.ref a, v] ∧ H a = some (exo a C none) ∧ ∀ dx, H dx = none → dx ≠ a → Q .non (upd (upd H dx (exd dx [(f, v)])) a (exo a C (some dx)))
/-- the same of two fields -/
def spE2 (C : Addr) (f g : Str) : Sp := fun vs H Q _ => ∃ a v u, vs = [.ref a, v, u] ∧ H a = some (exo a C none) ∧ ∀ dx, H dx = none → dx ≠ a → Q .non (upd (upd H dx (exd dx [(g, u), (f, v)])) a (exo a C (some dx)))
theorem heap_out {H : Hp} {a dx C : Addr} {fs : List (Str × V)} (ha : H a = none) (hd : dx ≠ a) : upd (del (upd (upd (upd H a (exo a C none)) dx (exd dx fs)) a (exo a C (some dx))) a) dx (.xd fs) = upd H dx (.xd fs) := by
  funext b
  by_cases h1 : b = dx
  · rw [h1, upd_same, upd_same]
  · rw [upd_ne h1, upd_ne h1]
    by_cases h2 : b = a
    · rw [h2, del_same, ha]
    · rw [del_ne h2, upd_ne h2, upd_ne h1, upd_ne h2]
theorem mk1 {C : Addr} {f : Str} {H : Hp} {v : V} {Q : XK} (h : ∀ dx, H dx = none → Q (.ref C) (some dx) (upd H dx (.xd [(f, v)]))) :
    [v].length ≤ 1000 ∧ ∀ a, H a = none → spE1 C f (.ref a :: ([v] ++ [])) (upd H a (exo a C none)) (fun v H2 => v = .non ∧ ∃ (d : Addr) (fs : List (Str × V)), H2 a = some (exo a C (some d)) ∧ H2 d = some (exd d fs) ∧ H d = none ∧ Q (.ref C) (some d) (upd (del H2 a) d (.xd fs))) (fun _ _ _ => False) := by
  refine ⟨by show 1 ≤ 1000; decide, fun a ha => ⟨a, v, rfl, upd_same, fun dx hdx hne => ?_⟩⟩
  have h0 : H dx = none := by rw [upd_ne hne] at hdx; exact hdx
  refine ⟨rfl, dx, [(f, v)], upd_same, by rw [upd_ne hne, upd_same], h0, ?_⟩
  rw [heap_out ha hne]
  exact h dx h0
theorem mk2 {C : Addr} {f g : Str} {H : Hp} {v u : V} {Q : XK} (h : ∀ dx, H dx = none → Q (.ref C) (some dx) (upd H dx (.xd [(g, u), (f, v)]))) :
    [v, u].length ≤ 1000 ∧ ∀ a, H a = none → spE2 C f g (.ref a :: ([v, u] ++ [])) (upd H a (exo a C none)) (fun v H2 => v = .non ∧ ∃ (d : Addr) (fs : List (Str × V)), H2 a = some (exo a C (some d)) ∧ H2 d = some (exd d fs) ∧ H d = none ∧ Q (.ref C) (some d) (upd (del H2 a) d (.xd fs))) (fun _ _ _ => False) := by
  refine ⟨by show 2 ≤ 1000; decide, fun a ha => ⟨a, v, u, rfl, upd_same, fun dx hdx hne => ?_⟩⟩
  have h0 : H dx = none := by rw [upd_ne hne] at hdx; exact hdx
  refine ⟨rfl, dx, [(g, u), (f, v)], upd_same, by rw [upd_ne hne, upd_same], h0, ?_⟩
  rw [heap_out ha hne]
  exact h dx h0
end EXB

set_option Elab.async false
set_option linter.all false
set_option maxRecDepth 100000
set_option maxHeartbeats 4000000
namespace BX
open PySem PySem.Spec PyProof.Rows L2
section
variable {X : Cx} {CX : CXT} {k : Nat} {f : Addr} {fd : FuncData} {ps ks : List Str} {sp : Sp} {E : L2.St → XK} {x : Str} {p pos : Pos} {e : Expr} {es : List Expr} {kws : List Keyword} {t tk : TA} {ds : List Value} {dvs : List V}
/-- a call with any arguments, what it raises being wished for at the caller's slots -/
theorem run_any {pins : List (Addr × Obj)} {σ : L2.St} {H : Hp} {s : Shared} {Q : VK} {us bs : List Value} {kw : List (Str × Value)} {vs : List V} (F : FnOkG X.prog X.w X.K X.mg X.base CX k f fd ps sp) (hr : Room k X.A) (hgd : X.A.guards = some []) (hx : PassesAt CX X σ (E σ))
    (I : Inv X pins σ H s) (hb : BindsTo s fd ⟨us, kw⟩ (ps.zip bs)) (r : Vals vs bs) (h : sp vs H Q (E σ)) : wpAny (model X.prog X.w) X.A (call (.ref f) us kw) (EP X pins σ Q) X.xe s := by
  refine wpAny_call (codeAny_mono (F.run X.A X.stack s H ⟨us, kw⟩ bs vs Q (E σ) hr hgd I.env0 hb r h) fun r s' hq => ?_)
  cases r with
  | error e => exact hx pins H s e s' I hq
  | ok fl =>
    cases fl with
    | ret u => exact I.after hq
    | next => exact False.elim hq
    | brk => exact False.elim hq
    | cont => exact False.elim hq
def tCallD (sp : Sp) (dvs : List V) (E : L2.St → XK) (t : TA) : TE := fun σ H Q => t σ H fun vs H1 => sp (vs ++ dvs) H1 Q (E σ)
/-- f(e, ..), the defaults behind them -/
theorem pe_callD (F : FnOkG X.prog X.w X.K X.mg X.base CX k f fd ps sp) (hr : Room k X.A) (hgd : X.A.guards = some []) (hg : Gl X x) (hm : X.mg x = some (.ref f)) (hk : PySem.W.keepIn X.K (.ref f) = true) (hb : Binds X.K fd ps ds) (hd : Vals dvs ds) (hx : ∀ σ, PassesAt CX X σ (E σ))
    (ha : PA X (e :: es) t) (hdb : (x == ("__debug__" : Str)) = false := by decide) (he : starEach (e :: es) X.env = (false, eval e X.env) :: starEach es X.env := by rfl) (hpl : (backTo pos (starEach es X.env)).any (·.1) = false := by rfl) :
    PE X (.Call (.Name x p) (e :: es) [] pos) (tCallD sp dvs E t) := by
  refine ⟨fun pins s σ H Q I h => ?_⟩
  refine wpAny_Call_Name_kw (ld_glob I hg hm ?_ hdb)
  refine PySem.W.callWith_K (h₀ := X.base) I.ok.mod.kin hk (thn (ha.run pos pins s σ H _ I h) fun us s1 ⟨vs, H1, I1, r, q⟩ => ⟨I1.kIn, ?_⟩) he hpl
  have r2 : Vals (vs ++ dvs) (us ++ ds) := r.append hd
  exact run_any F hr hgd (hx σ) I1 (hb s1 us I1.kIn (by rw [← r2.length]; exact F.len _ _ _ _ q)) r2 q
def tCallW (sp : Sp) (E : L2.St → XK) (tk : TA) : TE := fun σ H Q => tk σ H fun zs H1 => sp zs H1 Q (E σ)
/-- f(k = v, ..), all parameters by their names, in their order -/
theorem pe_callW (F : FnOkG X.prog X.w X.K X.mg X.base CX k f fd ps sp) (hr : Room k X.A) (hgd : X.A.guards = some []) (hg : Gl X x) (hm : X.mg x = some (.ref f)) (hk : PySem.W.keepIn X.K (.ref f) = true)
    (hb : ∀ (s : Shared) (ws : List Value), X.K.In s.heap → ws.length = ps.length → BindsTo s fd ⟨[], ps.zip ws⟩ (ps.zip ws)) (hx : ∀ σ, PassesAt CX X σ (E σ))
    (hkw : PK X kws tk) (hall : (backToKw pos (keywordEach kws X.env)).all (·.1.isSome) = true := by rfl) (hks : (backToKw pos (keywordEach kws X.env)).filterMap (·.1) = ps := by rfl)
    (hdb : (x == ("__debug__" : Str)) = false := by decide) (hpl : ((backTo pos (starEach [] X.env)).any (·.1) || (backToKw pos (keywordEach kws X.env)).any (·.1.isNone)) = false := by rfl) :
    PE X (.Call (.Name x p) [] kws pos) (tCallW sp E tk) := by
  refine ⟨fun pins s σ H Q I h => ?_⟩
  refine wpAny_Call_Name_kw (ld_glob I hg hm ?_ hdb)
  refine PySem.W.callWith_KW0 (h₀ := X.base) I.ok.mod.kin hk hall (thn (hkw.run pos pins s σ H _ I h) fun ws s2 ⟨zs, H2, I2, rz, q2⟩ => ⟨I2.kIn, ?_⟩) hpl
  rw [hks]
  exact run_any F hr hgd (hx σ) I2 (hb s2 ws I2.kIn (by rw [← rz.length]; exact F.len _ _ _ _ q2)) rz q2
end
end BX

set_option Elab.async false
set_option linter.all false
set_option maxRecDepth 100000
set_option maxHeartbeats 4000000
namespace BX
open PySem PySem.Spec PyProof.Rows L2
/-- the law's call, of a promise that holds where nothing is being shown -/
theorem law_callG {P : Program} {w : World} {K : PySem.W.Frag} {mg mb : Str → Option Value} {CX : CXT} {k : Nat} {fa a : Addr} {fd : FuncData} {x : Str} {sp : Sp} {s₁ : Shared} {vs : List Value} {ns : List Int}
    (KX : K.In s₁.heap) (hns : s₁.heap.Ns mainGlobals mg) (hb : s₁.heap.Ns builtinsNs mb) (hbb : ∀ x : Str, x ≠ "__name__" → mb x = bootBuiltins x) (hlim : s₁.heap.NoLimit) (hg : s₁.gens = #[])
    (ha : s₁.heap.get? a = some { cls := .type "list", data := .seq vs.toArray }) (hi : IntsAre vs ns) (hl : ns.length ≤ sizeLine) (hr : Room k callerA)
    (F : ∀ base : Heap, K.In base → base.Ns mainGlobals mg → FnOkG P w K mg base CX k fa fd [x] sp) (hbind : ∀ (s : Shared) (u : Value), BindsTo s fd ⟨[u], []⟩ [(x, u)])
    (hsp : ∀ H : Hp, Only H → SqL K H a (ns.map V.int) → sp [.ref a] H (fun v _ => v = .bl true) fun _ _ _ => False)
    (hCX : ∀ H e s', CX [] H s₁ (fun _ _ _ => False) e s' → False) :
    codeAny (model P w) callerA (.call (.ref fa) ⟨[.ref a], []⟩) (fun r s' => r = .ok (.ret (.bool true)) ∧ OldK s₁.heap s'.heap ∧ s'.os = s₁.os ∧ AllBare s'.gens) s₁ := by
  have rv := vals_ints hi
  have lenV := hi.length
  have core : ∀ H : Hp, Only H → SqL K H a (ns.map V.int) → HOk P w H s₁.heap → (∀ b, H b ≠ none → b = a) → (H a ≠ none → K.lookup a = none) →
      codeAny (model P w) callerA (.call (.ref fa) ⟨[.ref a], []⟩) (fun r s' => r = .ok (.ret (.bool true)) ∧ OldK s₁.heap s'.heap ∧ s'.os = s₁.os ∧ AllBare s'.gens) s₁ := by
    intro H hO hS hok hA hK
    have noA : ∀ {b : Addr} {o : Obj} {es : Array DictEntry} {ep : Nat}, s₁.heap.get? b = some o → o.data = .dict es ep → H b = none := fun {b o es ep} e dd => by
      cases q : H b with
      | none => rfl
      | some u =>
        have e' : b = a := hA b (by rw [q]; simp)
        rw [e', ha] at e
        cases e
        cases dd
    have nsK : ∀ {b : Addr} {m : Str → Option Value}, s₁.heap.Ns b m → (hidT s₁.heap H).Ns b m := fun {b m} ⟨o, es, ep, e, dd, r⟩ => ⟨o, es, ep, hidT_get e (noA e dd), dd, r⟩
    have hKb : K.In (hidT s₁.heap H) := fun b o e => hidT_get (KX b o e) (by
      cases q : H b with
      | none => rfl
      | some u =>
        have e' : b = a := hA b (by rw [q]; simp)
        rw [e'] at e q
        rw [hK (by rw [q]; simp)] at e
        cases e)
    have hM : Mod K mg (hidT s₁.heap H) := ⟨hKb, nsK hns, ⟨mb, nsK hb, hbb⟩, let ⟨mc, h1, h2⟩ := hlim; ⟨mc, nsK h1, h2⟩⟩
    have e0 : Env0 P w K mg (hidT s₁.heap H) callerA [] s₁ H := ⟨rfl, hM, fun b o e => of_hidT e, Nat.le_of_eq (hidT_size _ _), trivial, fun b hb => absurd (show b ∈ ([] : List Addr) from hb) (by simp), hok, .of_eq hg⟩
    refine codeAny_mono ((F _ hKb (nsK hns)).run callerA [] s₁ H ⟨[.ref a], []⟩ [.ref a] [.ref a] _ _ hr rfl e0 (hbind s₁ (.ref a)) (.cons rfl .nil) (hsp H hO hS)) fun r s' h => ?_
    cases r with
    | error e => exact (hCX H e s' h).elim
    | ok fl =>
      cases fl with
      | next => exact False.elim h
      | brk => exact False.elim h
      | cont => exact False.elim h
      | ret u =>
        obtain ⟨v, H', os, bare, un, hok', r', q⟩ := h
        have q' : v = .bl true := q
        subst q'
        obtain rfl : u = Value.bool true := r'
        refine ⟨rfl, OldK.of_keep fun b o e => ?_, os, bare⟩
        cases q : H b with
        | none => exact un.keep b o e q (by intro z; exact absurd (show b ∈ ([] : List Addr) from z) (by simp)) (by simp)
        | some u =>
          rcases hO b with z | ⟨ob, xs, z⟩
          · rw [q] at z; cases z
          · obtain ⟨e1, _⟩ := hok b _ z
            obtain ⟨e2, _⟩ := hok' b _ (un.frzs b ob _ z)
            rw [e] at e1; cases e1
            exact e2
  cases hk : K.lookup a with
  | some o =>
    have e := KX a o hk
    rw [ha] at e
    cases e
    refine core (fun _ => none) (fun _ => .inl rfl) (.inr ⟨_, vs.toArray, _, hk, rfl, rfl, rfl, by rw [List.size_toArray, lenV]; exact hl, by simpa using rv⟩) (fun b u z => by have z' : (none : Option HO) = some u := z; cases z') (fun b z => absurd rfl z) fun z => absurd rfl z
  | none =>
    refine core (fun b => if b = a then some (.frz { cls := .type "list", data := .seq vs.toArray } (.lst (ns.map V.int))) else none) (fun b => ?_) (.inl (.inr ⟨{ cls := .type "list", data := .seq vs.toArray }, if_pos rfl⟩)) (fun b u z => ?_) (fun b z => ?_) fun _ => hk
    · by_cases hb : b = a
      · exact .inr ⟨_, _, if_pos hb⟩
      · exact .inl (if_neg hb)
    · by_cases hb : b = a
      · have z' := (if_pos hb).symm.trans z
        cases z'
        subst hb
        exact ⟨ha, by rw [List.length_map]; exact hl, vs, _, rv, ha⟩
      · have z' := (if_neg hb).symm.trans z
        cases z'
    · by_cases hb : b = a
      · exact hb
      · exact absurd (if_neg hb) z
theorem walk_ofG {l : PySem.W.OpenLaw} {n k : Nat} {q : Program} {loose : List Str} {XP : (Str → Option Value) → Heap → Prop} {YP : World → Heap → Prop} {d : DefRec} {K : Params → PySem.W.Frag} {CX : World → CXT} {sp : World → Sp} {x : Str}
    (hn : l.most = some n) (hn2 : n ≤ sizeLine) (hdf : d.params.defaults = []) (hr : Room k callerA) (hY : ∀ (w : World) (h : Heap), YP w h → (K w.params).In h)
    (F : ∀ (w : World) (mg : Str → Option Value) (fa : Addr) (h : Heap), (K w.params).In h → h.Ns mainGlobals mg → mg d.name = some (.ref fa) →
      ∃ fd : FuncData, (∀ (s : Shared) (u : Value), BindsTo s fd ⟨[u], []⟩ [(x, u)]) ∧
        ∀ base : Heap, (K w.params).In base → base.Ns mainGlobals mg → FnOkG l.prog w (K w.params) mg base (CX w) k fa fd [x] (sp w))
    (hsp : ∀ (w : World) (H : Hp) (a : Addr) (ns : List Int), ns.length ≤ n → Only H → SqL (K w.params) H a (ns.map V.int) → sp w [.ref a] H (fun v _ => v = .bl true) fun _ _ _ => False)
    (hCX : ∀ (w : World) (H : Hp) (s : Shared) (e : Value) (s' : Shared), CX w [] H s (fun _ _ _ => False) e s' → False) :
    PySem.W.WalkO q loose XP YP l.row.toRowW d [] (fun f vs => PySem.call f vs) := by
  refine Att.attach_call hn hdf fun w s₀ s₁ mg mb fa o pm cd doc a vs ns G Y ho hd hcd hmg hobj hints hlen hg => ?_
  have KX := hY w _ Y
  obtain ⟨fd, hb, hF⟩ := F w mg fa _ KX G.T.g hmg
  exact law_callG KX G.T.g G.T.b G.T.builtins G.T.nolimit hg hobj hints (Nat.le_trans hlen hn2) hr hF hb (fun H hO hS => hsp w H a ns hlen hO hS) fun H e s' => hCX w H s₁ e s'
end BX

set_option Elab.async false
set_option linter.all false
set_option maxRecDepth 100000
set_option maxHeartbeats 4000000
namespace BX
open PySem PySem.Spec PyProof.Rows L2
def tMakeD (C : Addr) (sp : Sp) (dvs : List V) (E : L2.St → XK) (t : TA) : TE := fun σ H Q => t σ H fun vs H1 => ∀ x dx, H1 x = none → H1 dx = none → dx ≠ x → sp (.ref x :: (vs ++ dvs)) (upd (upd H1 dx (.own x)) x (.ins C dx [])) (fun v H2 => v = .non ∧ Q (.ref x) H2) (E σ)
section
variable {X : Cx} {CX : CXT} {k : Nat} {f C : Addr} {fd : FuncData} {ps : List Str} {sp : Sp} {E : L2.St → XK} {x : Str} {p pos : Pos} {e : Expr} {es : List Expr} {t : TA} {ds : List Value} {dvs : List V}
/-- C(e, ..), what its __init__ raises being wished for at the caller's slots -/
theorem pe_makeD (M : Mk X.K C f) (F : FnOk X.prog X.w X.K X.mg X.base CX k f fd ps sp) (hr : Room (k + 1) X.A) (hg : Gl X x) (hm : X.mg x = some (.ref C)) (hb : Binds X.K fd ps ds) (hd : Vals dvs ds) (hx : ∀ σ, PassesAt CX X σ (E σ))
    (ha : PA X (e :: es) t) (hdb : (x == ("__debug__" : Str)) = false := by decide) (he : starEach (e :: es) X.env = (false, eval e X.env) :: starEach es X.env := by rfl) (hpl : (backTo pos (starEach es X.env)).any (·.1) = false := by rfl) :
    PE X (.Call (.Name x p) (e :: es) [] pos) (tMakeD C sp dvs E t) := by
  refine ⟨fun pins s σ H Q I h => ?_⟩
  refine wpAny_Call_Name_kw (ld_glob I hg hm ?_ hdb)
  refine PySem.W.callWith_K (h₀ := X.base) I.ok.mod.kin M.kp (thn (ha.run pos pins s σ H _ I h) fun us s1 ⟨vs, H1, I1, r, q⟩ => ⟨I1.kIn, ?_⟩) he hpl
  have hq := q (s1.heap.objs.size + 1) s1.heap.objs.size (I1.hok.fresh (Nat.le_succ _)) (I1.hok.fresh (Nat.le_refl _)) (Nat.ne_of_lt (Nat.lt_succ_self _))
  have I2 := Inv.made (C := C) I1
  have r2 : Vals (V.ref (s1.heap.objs.size + 1) :: (vs ++ dvs)) (Value.ref (s1.heap.objs.size + 1) :: (us ++ ds)) := .cons rfl (r.append hd)
  have hl : (Value.ref (s1.heap.objs.size + 1) :: us ++ ds).length = ps.length := by
    have z := r2.length
    rw [F.len _ _ _ _ hq] at z
    exact z.symm
  refine wpAny_call (make_map (f := f) I1.kIn M.makes M.init (beq_iff_eq.mp M.fn) (codeAny_mono (F.run _ X.stack _ _ ⟨Value.ref (s1.heap.objs.size + 1) :: us, []⟩ (Value.ref (s1.heap.objs.size + 1) :: (us ++ ds)) _ _ (E σ) (hr.make C us [])
    (I2.env0.make C us []) (hb _ (Value.ref (s1.heap.objs.size + 1) :: us) I2.kIn hl) r2 hq) fun r s' hq' => ?_))
  cases r with
  | error er => exact hx σ pins _ _ er s' I2 hq'
  | ok fl =>
    cases fl with
    | ret u =>
      obtain ⟨v, H', I3, rv, ev, q3⟩ := I2.after hq'
      subst ev
      exact ⟨rv, ⟨V.ref (s1.heap.objs.size + 1), H', I3, rfl, q3⟩⟩
    | next => exact False.elim hq'
    | brk => exact False.elim hq'
    | cont => exact False.elim hq'
end
end BX

set_option Elab.async false
set_option linter.all false
set_option maxRecDepth 100000
set_option maxHeartbeats 4000000
namespace Ru
open PySem PySem.Spec PyProof.Rows L2 BX EXB Co
open Fr (Bd)
/-! ### rows of fractions -/
/-- cells and what they are worth, below 2 ^ n -/
structure FrN (K : PySem.W.Frag) (H : Hp) (n : Nat) (cs : List V) (qs : List Rat) : Prop where
  len : cs.length = qs.length
  at_ : ∀ (i : Nat) (v : V), cs[i]? = some v → ∃ (a : Addr) (q : Rat), qs[i]? = some q ∧ v = .ref a ∧ SqT K H a (rp q) ∧ Bd n q
section
variable {K : PySem.W.Frag} {H H' : Hp} {n : Nat} {cs : List V} {qs : List Rat}
theorem FrN.keep (h : FrN K H n cs qs) (k : ∀ a xs, SqT K H a xs → SqT K H' a xs) : FrN K H' n cs qs :=
  ⟨h.len, fun i v e => let ⟨a, q, e1, e2, e3, e4⟩ := h.at_ i v e; ⟨a, q, e1, e2, k _ _ e3, e4⟩⟩
theorem FrN.same (h : FrN K H n cs qs) (e : Same H H') : FrN K H' n cs qs := h.keep fun _ _ => seqT e
theorem FrN.mono {m : Nat} (h : FrN K H n cs qs) (l : n ≤ m) : FrN K H m cs qs :=
  ⟨h.len, fun i v e => let ⟨a, q, e1, e2, e3, e4⟩ := h.at_ i v e; ⟨a, q, e1, e2, e3, e4.mono l⟩⟩
theorem FrN.nil : FrN K H n [] [] := ⟨rfl, fun i v e => by simp at e⟩
theorem FrN.snoc {a : Addr} {q : Rat} (h : FrN K H n cs qs) (ha : SqT K H a (rp q)) (hb : Bd n q) : FrN K H n (cs ++ [.ref a]) (qs ++ [q]) := by
  refine ⟨by rw [List.length_append, List.length_append, h.len]; rfl, fun i v e => ?_⟩
  by_cases hi : i < cs.length
  · rw [List.getElem?_append_left hi] at e
    obtain ⟨a', q', e1, e2, e3, e4⟩ := h.at_ i v e
    exact ⟨a', q', by rw [List.getElem?_append_left (by rw [← h.len]; exact hi)]; exact e1, e2, e3, e4⟩
  · rw [List.getElem?_append_right (by omega)] at e
    have e0 : i - cs.length = 0 := by
      cases z : i - cs.length with
      | zero => rfl
      | succ j => rw [z] at e; simp at e
    rw [e0] at e
    have ev : (V.ref a) = v := Option.some.inj e
    refine ⟨a, q, ?_, ev.symm, ha, hb⟩
    rw [List.getElem?_append_right (by rw [← h.len]; omega), ← h.len, e0]
    rfl
theorem FrN.set {a : Addr} {q : Rat} {j : Nat} (h : FrN K H n cs qs) (ha : SqT K H a (rp q)) (hb : Bd n q) : FrN K H n (cs.set j (.ref a)) (qs.set j q) := by
  refine ⟨by rw [List.length_set, List.length_set, h.len], fun i v e => ?_⟩
  by_cases hij : j = i
  · subst hij
    have hj : j < cs.length := by
      have := (List.getElem?_eq_some_iff.mp e).1
      rw [List.length_set] at this
      exact this
    rw [List.getElem?_set_self hj] at e
    exact ⟨a, q, List.getElem?_set_self (by rw [← h.len]; exact hj), (Option.some.inj e).symm, ha, hb⟩
  · rw [List.getElem?_set_ne hij] at e
    obtain ⟨a', q', e1, e2, e3, e4⟩ := h.at_ i v e
    exact ⟨a', q', by rw [List.getElem?_set_ne hij]; exact e1, e2, e3, e4⟩
theorem FrN.dp : ∀ {cs : List V} {qs : List Rat}, FrN K H n cs qs → DpAll K H cs (qs.map dR)
  | [], [], _ => .nil
  | [], _ :: _, h => by have := h.len; simp at this
  | _ :: _, [], h => by have := h.len; simp at this
  | v :: cs, q :: qs, h => by
    obtain ⟨a, q', e1, rfl, e3, _⟩ := h.at_ 0 v rfl
    have e : q = q' := Option.some.inj e1
    subst e
    exact .cons (dp_r e3) (FrN.dp ⟨by have := h.len; simpa using this, fun i v e => h.at_ (i + 1) v e⟩)
end
/-- all but ex stays -/
def SameB (ex : Addr) (H H' : Hp) : Prop := ∀ b o, b ≠ ex → H b = some o → H' b = some o
theorem SameB.of {ex : Addr} {H H' : Hp} (h : Same H H') : SameB ex H H' := fun b o _ e => h b o e
theorem SameB.trans {ex : Addr} {H H1 H2 : Hp} (a : SameB ex H H1) (b : SameB ex H1 H2) : SameB ex H H2 := fun c o hc h => b c o hc (a c o hc h)
theorem SameB.upd {ex : Addr} {H : Hp} {o : HO} : SameB ex H (upd H ex o) := fun b u hb e => by rw [upd_ne hb]; exact e
theorem SameB.tup {K : PySem.W.Frag} {ex : Addr} {H H' : Hp} {ys : List V} (h : SameB ex H H') (hx : H ex = some (.lst ys)) : ∀ a xs, SqT K H a xs → SqT K H' a xs := fun a xs z => by
  rcases z with (z | ⟨o, z⟩) | z
  · exact .inl (.inl (h _ _ (ne_of z hx (by intro w; cases w)) z))
  · exact .inl (.inr ⟨o, h _ _ (ne_of z hx (by intro w; cases w)) z⟩)
  · exact .inr z
/-- what stands in the rows rs is worth rss -/
def RowsAt (K : PySem.W.Frag) (H : Hp) (n : Nat) (rs : List Addr) (rss : List (List Rat)) : Prop := rs.length = rss.length ∧ ∀ (j : Nat) (r : Addr), rs[j]? = some r → ∃ cs qs, rss[j]? = some qs ∧ H r = some (.lst cs) ∧ FrN K H n cs qs
theorem RowsAt.keep {K : PySem.W.Frag} {H H' : Hp} {n : Nat} {rs : List Addr} {rss : List (List Rat)} {ex : Addr} {ys : List V} (h : RowsAt K H n rs rss) (s : SameB ex H H') (hx : H ex = some (.lst ys)) (hn : ex ∉ rs) : RowsAt K H' n rs rss := by
  refine ⟨h.1, fun j r e => ?_⟩
  obtain ⟨cs, qs, e1, e2, e3⟩ := h.2 j r e
  exact ⟨cs, qs, e1, s r _ (fun z => hn (by rw [← z]; exact List.mem_of_getElem? e)) e2, e3.keep (s.tup hx)⟩
theorem RowsAt.same {K : PySem.W.Frag} {H H' : Hp} {n : Nat} {rs : List Addr} {rss : List (List Rat)} (h : RowsAt K H n rs rss) (s : Same H H') : RowsAt K H' n rs rss := by
  refine ⟨h.1, fun j r e => ?_⟩
  obtain ⟨cs, qs, e1, e2, e3⟩ := h.2 j r e
  exact ⟨cs, qs, e1, s r _ e2, e3.same s⟩
theorem RowsAt.nil {K : PySem.W.Frag} {H : Hp} {n : Nat} : RowsAt K H n [] [] := ⟨rfl, fun j r e => by simp at e⟩
theorem RowsAt.snoc {K : PySem.W.Frag} {H : Hp} {n : Nat} {rs : List Addr} {rss : List (List Rat)} {r : Addr} {cs : List V} {qs : List Rat} (h : RowsAt K H n rs rss) (hr : H r = some (.lst cs)) (hf : FrN K H n cs qs) : RowsAt K H n (rs ++ [r]) (rss ++ [qs]) := by
  refine ⟨by rw [List.length_append, List.length_append, h.1]; rfl, fun j x e => ?_⟩
  by_cases hj : j < rs.length
  · rw [List.getElem?_append_left hj] at e
    obtain ⟨cs', qs', e1, e2, e3⟩ := h.2 j x e
    exact ⟨cs', qs', by rw [List.getElem?_append_left (by rw [← h.1]; exact hj)]; exact e1, e2, e3⟩
  · rw [List.getElem?_append_right (by omega)] at e
    have e0 : j - rs.length = 0 := by
      cases z : j - rs.length with
      | zero => rfl
      | succ i => rw [z] at e; simp at e
    rw [e0] at e
    have ev : r = x := Option.some.inj e
    subst ev
    refine ⟨cs, qs, ?_, hr, hf⟩
    rw [List.getElem?_append_right (by rw [← h.1]; omega), ← h.1, e0]
    rfl
theorem RowsAt.dp {K : PySem.W.Frag} {H : Hp} {n : Nat} : ∀ {rs : List Addr} {rss : List (List Rat)}, RowsAt K H n rs rss → DpAll K H (rs.map V.ref) (rss.map fun qs => PyData.list (qs.map dR))
  | [], [], _ => .nil
  | [], _ :: _, h => by have := h.1; simp at this
  | _ :: _, [], h => by have := h.1; simp at this
  | r :: rs, q :: rss, h => by
    obtain ⟨cs, qs, e1, e2, e3⟩ := h.2 0 r rfl
    have e : q = qs := Option.some.inj e1
    subst e
    exact .cons (.lst (SqL.of e2) e3.dp) (RowsAt.dp ⟨by have := h.1; simpa using this, fun j x e => h.2 (j + 1) x e⟩)
/-- rows as data -/
def dRows (rss : List (List Rat)) : PyData := .list (rss.map fun qs => PyData.list (qs.map dR))
theorem rows_lays : ∀ rss : List (List Rat), PyData.canLayAll0 (rss.map fun qs => PyData.list (qs.map dR)) = true
  | [] => rfl
  | q :: rss => by
    show (PyData.canLayAll0 (q.map dR) && PyData.canLayAll0 (rss.map fun qs => PyData.list (qs.map dR))) = true
    rw [rows_lays rss, lays q]
    rfl
theorem rows_deps : ∀ rss : List (List Rat), PyData.depthAll (rss.map fun qs => PyData.list (qs.map dR)) ≤ 2
  | [] => by decide
  | q :: rss => by
    have h1 := rows_deps rss
    have h2 := deps q
    show max (PyData.depthAll (q.map dR) + 1) (PyData.depthAll (rss.map fun qs => PyData.list (qs.map dR))) ≤ 2
    omega
theorem dRows_lay (rss : List (List Rat)) : (dRows rss).canLay0 = true := rows_lays rss
theorem dRows_shaped (rss : List (List Rat)) : SeqAt.shaped (dRows rss) = true := by
  unfold SeqAt.shaped
  rw [dRows_lay, Bool.true_and]
  refine decide_eq_true ?_
  have := rows_deps rss
  show PyData.depthAll (rss.map fun qs => PyData.list (qs.map dR)) + 1 ≤ 64
  omega
/-- a new list of new rows, beside what stood in H0 (but ex) -/
structure New (K : PySem.W.Frag) (H0 H : Hp) (ex D : Addr) (rs : List Addr) (rss : List (List Rat)) (n : Nat) : Prop where
  at_ : H D = some (.lst (rs.map V.ref))
  nd : rs.Nodup
  ne : D ∉ rs
  fresh : ∀ x ∈ rs, H0 x = none
  fD : H0 D = none
  nx : ex ∉ rs
  keep : SameB ex H0 H
  rows : RowsAt K H n rs rss
theorem New.start {K : PySem.W.Frag} {H : Hp} {ex D : Addr} {n : Nat} (hD : H D = none) : New K H (upd H D (.lst [])) ex D [] [] n :=
  ⟨upd_same, List.nodup_nil, by simp, fun x hx => by simp at hx, hD, by simp, SameB.of (same_new hD _), RowsAt.nil⟩
/-- a step beside the list: what is new is laid, ex may change -/
theorem New.step {K : PySem.W.Frag} {H0 H H1 : Hp} {ex D : Addr} {rs : List Addr} {rss : List (List Rat)} {n : Nat} {ys : List V} (h : New K H0 H ex D rs rss n) (s : SameB ex H H1) (hx : H ex = some (.lst ys)) (hDx : D ≠ ex) : New K H0 H1 ex D rs rss n :=
  ⟨s D _ hDx h.at_, h.nd, h.ne, h.fresh, h.fD, h.nx, h.keep.trans s, h.rows.keep s hx h.nx⟩
theorem New.stepS {K : PySem.W.Frag} {H0 H H1 : Hp} {ex D : Addr} {rs : List Addr} {rss : List (List Rat)} {n : Nat} (h : New K H0 H ex D rs rss n) (s : Same H H1) : New K H0 H1 ex D rs rss n :=
  ⟨s D _ h.at_, h.nd, h.ne, h.fresh, h.fD, h.nx, h.keep.trans (SameB.of s), h.rows.same s⟩
/-- one row more -/
theorem New.push {K : PySem.W.Frag} {H0 H H1 : Hp} {ex D l : Addr} {rs : List Addr} {rss : List (List Rat)} {n : Nat} {cs : List V} {qs : List Rat} (h0 : New K H0 H ex D rs rss n) (h : New K H0 H1 ex D rs rss n) (hl0 : H l = none) (hl : H1 l = some (.lst cs)) (hf : FrN K H1 n cs qs) (hle : l ≠ ex) :
    New K H0 (upd H1 D (.lst (rs.map V.ref ++ [V.ref l]))) ex D (rs ++ [l]) (rss ++ [qs]) n := by
  have hlD : l ≠ D := fun e => by
    rw [e, h0.at_] at hl0
    cases hl0
  have hlr : l ∉ rs := fun hm => by
    obtain ⟨j, hj, e⟩ := List.getElem_of_mem hm
    obtain ⟨cs', qs', _, e2, _⟩ := h0.rows.2 j l (by rw [List.getElem?_eq_getElem hj, e])
    rw [hl0] at e2
    cases e2
  have hl00 : H0 l = none := by
    cases e : H0 l with
    | none => rfl
    | some o =>
      rw [h0.keep l o hle e] at hl0
      cases hl0
  have sD : SameB D H1 (upd H1 D (.lst (rs.map V.ref ++ [V.ref l]))) := SameB.upd
  refine ⟨by rw [upd_same, List.map_append]; rfl, ?_, ?_, ?_, h.fD, ?_, ?_, ?_⟩
  · rw [List.nodup_append]
    refine ⟨h.nd, by simp, fun a ha b hb => ?_⟩
    have : b = l := by simpa using hb
    rw [this]
    exact fun e => hlr (by rw [← e]; exact ha)
  · intro hm
    rcases List.mem_append.mp hm with hm | hm
    · exact h.ne hm
    · have : D = l := by simpa using hm
      exact hlD this.symm
  · intro x hx
    rcases List.mem_append.mp hx with hx | hx
    · exact h.fresh x hx
    · have : x = l := by simpa using hx
      rw [this]
      exact hl00
  · intro hm
    rcases List.mem_append.mp hm with hm | hm
    · exact h.nx hm
    · have : ex = l := by simpa using hm
      exact hle this.symm
  · intro b o hb e
    rw [upd_ne (ne_of_none e h.fD)]
    exact h.keep b o hb e
  · exact (h.rows.keep sD h.at_ h.ne).snoc (by rw [upd_ne hlD]; exact hl) (hf.keep (sD.tup h.at_))
/-- list(x), by values -/
def rListOf (K : PySem.W.Frag) : List V → Hp → VK → Prop := fun xs H Q => ∃ p ys, xs = [V.ref p] ∧ (SqL K H p ys ∨ SqT K H p ys) ∧ ∀ l : Addr, H l = none → Q (V.ref l) (upd H l (.lst ys))
/-! ### rules -/
def RowOk (m : Nat) (qs : List Rat) : Prop := qs.length = m ∧ (∀ q ∈ qs, 0 ≤ q) ∧ qs.sum = 1
structure Good (rss : List (List Rat)) (m : Nat) : Prop where
  w1 : 1 ≤ rss.length
  w5 : rss.length ≤ 5
  m1 : 1 ≤ m
  m30 : m ≤ 30
  row : ∀ qs ∈ rss, RowOk m qs
/-- a list of rows that stands -/
def RwL (K : PySem.W.Frag) (H : Hp) (a : Addr) (rs : List Addr) (rss : List (List Rat)) (n : Nat) : Prop := H a = some (.lst (rs.map V.ref)) ∧ RowsAt K H n rs rss
theorem RwL.same {K : PySem.W.Frag} {H H' : Hp} {a : Addr} {rs : List Addr} {rss : List (List Rat)} {n : Nat} (h : RwL K H a rs rss n) (s : Same H H') : RwL K H' a rs rss n := ⟨s _ _ h.1, h.2.same s⟩
theorem RwL.dp {K : PySem.W.Frag} {H : Hp} {a : Addr} {rs : List Addr} {rss : List (List Rat)} {n : Nat} (h : RwL K H a rs rss n) : Dp K H (.ref a) (dRows rss) := .lst (SqL.of h.1) h.2.dp
theorem New.rwl {K : PySem.W.Frag} {H0 H : Hp} {ex D : Addr} {rs : List Addr} {rss : List (List Rat)} {n : Nat} (h : New K H0 H ex D rs rss n) : RwL K H D rs rss n := ⟨h.at_, h.rows⟩
/-- a new list of new rows -/
def Fresh (K : PySem.W.Frag) (H H' : Hp) (D : Addr) (rs : List Addr) (rss : List (List Rat)) (n : Nat) : Prop := RwL K H' D rs rss n ∧ rs.Nodup ∧ D ∉ rs ∧ H D = none ∧ (∀ x ∈ rs, H x = none) ∧ Same H H'
/-- an instance of the class at C, of these rows -/
def IsRule (K : PySem.W.Frag) (H : Hp) (C x : Addr) (rss : List (List Rat)) (n : Nat) : Prop := ∃ dx ra rs, H x = some (.ins C dx [("own_rows", .ref ra)]) ∧ RwL K H ra rs rss n
theorem IsRule.same {K : PySem.W.Frag} {H H' : Hp} {C x : Addr} {rss : List (List Rat)} {n : Nat} (h : IsRule K H C x rss n) (s : Same H H') : IsRule K H' C x rss n :=
  let ⟨dx, ra, rs, e1, e2⟩ := h; ⟨dx, ra, rs, s _ _ e1, e2.same s⟩
theorem New.toFresh {K : PySem.W.Frag} {H0 H : Hp} {D : Addr} {rs : List Addr} {rss : List (List Rat)} {n : Nat} (h : New K H0 H D D rs rss n) : Fresh K H0 H D rs rss n :=
  ⟨h.rwl, h.nd, h.ne, h.fD, h.fresh, fun b o e => h.keep b o (ne_of_none e h.fD) e⟩
/-! ### the mathematics of rules -/
theorem sum_nonneg' : ∀ {qs : List Rat}, (∀ q ∈ qs, 0 ≤ q) → 0 ≤ qs.sum
  | [], _ => by rw [List.sum_nil]; exact Rat.le_refl
  | q :: qs, h => by
    rw [List.sum_cons]
    exact Rat.add_nonneg (h q (List.mem_cons_self ..)) (sum_nonneg' fun x hx => h x (List.mem_cons_of_mem _ hx))
/-- shares of two rows side by side -/
def rowB (row second : List Rat) : List Rat := row.flatMap fun s => second.map fun o => s * o
theorem sum_map_mul (s : Rat) : ∀ l : List Rat, (l.map fun o => s * o).sum = s * l.sum
  | [] => by rw [List.map_nil, List.sum_nil, Rat.mul_zero]
  | x :: l => by rw [List.map_cons, List.sum_cons, List.sum_cons, sum_map_mul s l, Rat.mul_add]
theorem rowB_sum : ∀ (row second : List Rat), (rowB row second).sum = row.sum * second.sum
  | [], second => by show ([] : List Rat).sum = _; rw [List.sum_nil, Rat.zero_mul]
  | s :: row, second => by
    show ((second.map fun o => s * o) ++ rowB row second).sum = _
    rw [List.sum_append, sum_map_mul, rowB_sum row second, List.sum_cons, Rat.add_mul]
theorem rowB_len : ∀ (row second : List Rat), (rowB row second).length = row.length * second.length
  | [], second => by show 0 = _; rw [List.length_nil, Nat.zero_mul]
  | s :: row, second => by
    show ((second.map fun o => s * o) ++ rowB row second).length = _
    rw [List.length_append, List.length_map, rowB_len row second, List.length_cons, Nat.succ_mul, Nat.add_comm]
theorem rowB_ok {m k : Nat} {row second : List Rat} (h1 : RowOk m row) (h2 : RowOk k second) : RowOk (m * k) (rowB row second) := by
  refine ⟨by rw [rowB_len, h1.1, h2.1], fun q hq => ?_, by rw [rowB_sum, h1.2.2, h2.2.2, Rat.mul_one]⟩
  obtain ⟨s, hs, hq⟩ := List.mem_flatMap.mp hq
  obtain ⟨o, ho, rfl⟩ := List.mem_map.mp hq
  exact Rat.mul_nonneg (h1.2.1 s hs) (h2.2.1 o ho)
/-- words of one group are one -/
def grp : List Rat → List Nat → List Rat → List Rat
  | s :: row, g :: gs, told => grp row gs (told.set g (told.getD g 0 + s))
  | _, _, told => told
theorem grp_len : ∀ (row : List Rat) (gs : List Nat) (told : List Rat), (grp row gs told).length = told.length
  | [], _, _ => by rw [grp] <;> simp
  | _ :: _, [], _ => by rw [grp] <;> simp
  | s :: row, g :: gs, told => by rw [grp, grp_len row gs, List.length_set]
theorem set_sum : ∀ (l : List Rat) (g : Nat) (s : Rat), g < l.length → (l.set g (l.getD g 0 + s)).sum = l.sum + s
  | [], g, s, h => by simp at h
  | x :: l, 0, s, h => by
    show ((x + s) :: l).sum = _
    rw [List.sum_cons, List.sum_cons, Rat.add_assoc, Rat.add_assoc, Rat.add_comm s]
  | x :: l, g + 1, s, h => by
    show (x :: l.set g (l.getD g 0 + s)).sum = _
    rw [List.sum_cons, List.sum_cons, set_sum l g s (by simpa using h), Rat.add_assoc]
theorem grp_sum : ∀ (row : List Rat) (gs : List Nat) (told : List Rat), row.length = gs.length → (∀ g ∈ gs, g < told.length) → (grp row gs told).sum = told.sum + row.sum
  | [], [], told, _, _ => by show told.sum = _; rw [List.sum_nil, Rat.add_zero]
  | [], _ :: _, _, h, _ => by simp at h
  | _ :: _, [], _, h, _ => by simp at h
  | s :: row, g :: gs, told, h, hg => by
    rw [grp, grp_sum row gs _ (by simpa using h) (fun x hx => by rw [List.length_set]; exact hg x (List.mem_cons_of_mem _ hx)), set_sum told g s (hg g (List.mem_cons_self ..)), List.sum_cons, Rat.add_assoc]
theorem grp_nonneg : ∀ (row : List Rat) (gs : List Nat) (told : List Rat), (∀ q ∈ row, 0 ≤ q) → (∀ q ∈ told, 0 ≤ q) → ∀ q ∈ grp row gs told, 0 ≤ q
  | [], _, _, _, ht => by rw [grp]; exact ht; simp
  | _ :: _, [], _, _, ht => by rw [grp]; exact ht; simp
  | s :: row, g :: gs, told, hr, ht => by
    rw [grp]
    refine grp_nonneg row gs _ (fun q hq => hr q (List.mem_cons_of_mem _ hq)) fun q hq => ?_
    have hx : 0 ≤ told.getD g 0 := by
      by_cases h : g < told.length
      · rw [List.getD_eq_getElem?_getD, List.getElem?_eq_getElem h]
        exact ht _ (List.getElem_mem h)
      · rw [List.getD_eq_getElem?_getD, List.getElem?_eq_none (by omega)]
        exact Rat.le_refl
    rcases List.mem_or_eq_of_mem_set hq with hq | rfl
    · exact ht q hq
    · exact Rat.add_nonneg hx (hr s (List.mem_cons_self ..))
theorem grp_ok {m many : Nat} {row : List Rat} {gs : List Nat} (h : RowOk m row) (hl : gs.length = m) (hg : ∀ g ∈ gs, g < many) : RowOk many (grp row gs (List.replicate many 0)) := by
  have z : ∀ k : Nat, (List.replicate k (0 : Rat)).sum = 0 := fun k => by
    induction k with
    | zero => rfl
    | succ k ih => rw [List.replicate_succ, List.sum_cons, ih, Rat.add_zero]
  refine ⟨by rw [grp_len, List.length_replicate], grp_nonneg row gs _ h.2.1 fun q hq => ?_, ?_⟩
  · rw [List.eq_of_mem_replicate hq]
    exact Rat.le_refl
  · rw [grp_sum row gs _ (by rw [h.1, hl]) (fun g hgm => by rw [List.length_replicate]; exact hg g hgm), z, Rat.zero_add]
    exact h.2.2
/-- the row of the world i among w -/
def unit (w i : Nat) : List Rat := (List.range w).map fun j => if j = i then 1 else 0
theorem unit_sum : ∀ (w i : Nat), (unit w i).sum = if i < w then 1 else 0
  | 0, i => rfl
  | w + 1, i => by
    unfold unit
    rw [List.range_succ, List.map_append, List.sum_append]
    have ih := unit_sum w i
    unfold unit at ih
    rw [ih]
    show _ + ([if w = i then (1 : Rat) else 0]).sum = _
    rw [List.sum_cons, List.sum_nil, Rat.add_zero]
    by_cases h1 : i < w
    · rw [if_pos h1, if_neg (by omega), if_pos (by omega), Rat.add_zero]
    · by_cases h2 : w = i
      · rw [if_neg h1, if_pos h2, if_pos (by omega), Rat.zero_add]
      · rw [if_neg h1, if_neg h2, if_neg (by omega), Rat.zero_add]
theorem unit_ok {w i : Nat} (h : i < w) : RowOk w (unit w i) := by
  refine ⟨by unfold unit; rw [List.length_map, List.length_range], fun q hq => ?_, by rw [unit_sum, if_pos h]⟩
  obtain ⟨j, _, rfl⟩ := List.mem_map.mp hq
  split
  · decide
  · exact Rat.le_refl
end Ru

set_option Elab.async false
set_option linter.all false
set_option maxRecDepth 100000
set_option maxHeartbeats 4000000
namespace Rs
open PySem PySem.Spec PyProof.Rows L2 BX EXB Co Ru
open Fr (Bd)
theorem upd_swap {H : Hp} {a dx : Addr} {A B A' : HO} (h : dx ≠ a) : upd (upd (upd H dx A) a B) dx A' = upd (upd H dx A') a B := by
  funext b
  by_cases h1 : b = dx
  · rw [h1, upd_same, upd_ne h, upd_same]
  · rw [upd_ne h1]
    by_cases h2 : b = a
    · rw [h2, upd_same, upd_same]
    · rw [upd_ne h2, upd_ne h2, upd_ne h1, upd_ne h1]
abbrev Rsp := Option (List V)
def Rv (H : Hp) (v : V) : Rsp → Prop
  | none => v = .non
  | some ws => ∃ p, v = .ref p ∧ H p = some (.lst ws)
def Ret (Q : VK) (H : Hp) (r : Rsp) : Prop := ∀ v H', Same H H' → Rv H' v r → Q v H'
theorem Rv.same {H H' : Hp} {v : V} {r : Rsp} (h : Rv H v r) (s : Same H H') : Rv H' v r := by
  cases r with
  | none => exact h
  | some ws => obtain ⟨p, e1, e2⟩ := h; exact ⟨p, e1, s _ _ e2⟩
theorem tYes_of {σ : L2.St} {H : Hp} {A B : Hp → Prop} (h : A H) : tYes σ H (fun b H3 => if b = true then A H3 else B H3) := by
  show (if true = true then A H else B H)
  rw [if_pos rfl]
  exact h
def dV : V → PyData
  | .str s => .str s
  | .int i => .int i
  | .bl b => .bool b
  | _ => .none
def datR : Rsp → PyData
  | none => .none
  | some ws => .list (ws.map dV)
def Flat (v : V) : Prop := ((∃ s, v = .str s) ∨ (∃ i, v = .int i) ∨ (∃ b, v = .bl b) ∨ v = .non) ∧ (dV v).canLay0 = true
def Okr : Rsp → Prop
  | none => True
  | some ws => ∀ v ∈ ws, Flat v
theorem flat_dp {K : PySem.W.Frag} {H : Hp} {v : V} (h : Flat v) : Dp K H v (dV v) := by
  rcases h.1 with ⟨s, rfl⟩ | ⟨i, rfl⟩ | ⟨b, rfl⟩ | rfl
  · exact .str _
  · exact .int _
  · exact .bl _
  · exact .non
theorem flats_dp {K : PySem.W.Frag} {H : Hp} : ∀ ws : List V, (∀ v ∈ ws, Flat v) → DpAll K H ws (ws.map dV)
  | [], _ => .nil
  | v :: ws, h => .cons (flat_dp (h v (List.mem_cons_self ..))) (flats_dp ws fun x hx => h x (List.mem_cons_of_mem _ hx))
theorem flats_lay : ∀ ws : List V, (∀ v ∈ ws, Flat v) → PyData.canLayAll0 (ws.map dV) = true
  | [], _ => rfl
  | v :: ws, h => by
    show (PyData.canLay0 (dV v) && PyData.canLayAll0 (ws.map dV)) = true
    rw [(h v (List.mem_cons_self ..)).2, flats_lay ws fun x hx => h x (List.mem_cons_of_mem _ hx)]
    rfl
theorem flats_dep : ∀ ws : List V, PyData.depthAll (ws.map dV) ≤ 1
  | [] => by decide
  | v :: ws => by
    have h := flats_dep ws
    show max (PyData.depth (dV v)) (PyData.depthAll (ws.map dV)) ≤ 1
    have : PyData.depth (dV v) = 0 := by cases v <;> rfl
    omega
theorem Rv.dp {K : PySem.W.Frag} {H : Hp} {v : V} {r : Rsp} (ok : Okr r) (h : Rv H v r) : Dp K H v (datR r) := by
  cases r with
  | none => cases (show v = .non from h); exact .non
  | some ws =>
    obtain ⟨p, rfl, hp⟩ := h
    exact .lst (SqL.of hp) (flats_dp ws ok)
theorem datR_lay {r : Rsp} (ok : Okr r) : (datR r).canLay0 = true := by
  cases r with
  | none => rfl
  | some ws => exact flats_lay ws ok
theorem datR_sh {r : Rsp} (ok : Okr r) : SeqAt.shaped (datR r) = true := by
  unfold SeqAt.shaped
  rw [datR_lay ok, Bool.true_and]
  refine decide_eq_true ?_
  cases r with
  | none => decide
  | some ws =>
    have := flats_dep ws
    show PyData.depthAll (ws.map dV) + 1 ≤ 64
    omega
theorem fl_str {s : Str} (h : (PyData.str s).canLay0 = true) : Flat (.str s) := ⟨.inl ⟨s, rfl⟩, h⟩
theorem fl_int (i : Int) : Flat (.int i) := ⟨.inr (.inl ⟨i, rfl⟩), rfl⟩
theorem fl_bl (b : Bool) : Flat (.bl b) := ⟨.inr (.inr (.inl ⟨b, rfl⟩)), rfl⟩
theorem fl_non : Flat .non := ⟨.inr (.inr (.inr rfl)), rfl⟩
theorem okr3 {a b c : V} (ha : Flat a) (hb : Flat b) (hc : Flat c) : Okr (some [a, b, c]) := by
  intro v hv
  rcases List.mem_cons.mp hv with rfl | hv
  · exact ha
  rcases List.mem_cons.mp hv with rfl | hv
  · exact hb
  rw [List.mem_singleton.mp hv]
  exact hc
theorem cut_len {xs : List V} {n : Nat} {lo hi : Option Int} (h : xs.length ≤ n) : (cutV xs lo hi).length ≤ n := Nat.le_trans (cutV_length xs lo hi) h
/-- the law's shares: of m words, small -/
def spShares (K : PySem.W.Frag) : Sp := fun vs H Q _ => ∃ (l : Addr) (z : Int) (m : Nat), vs = [.ref l, .int (m : Int)] ∧ H l = some (.lst [.int z]) ∧ 1 ≤ m ∧ m ≤ 30 ∧
  ∀ D cs qs z' H', SameB l H H' → H' l = some (.lst [.int z']) → H D = none → D ≠ l → H' D = some (.lst cs) → FrN K H' 8 cs qs → RowOk m qs → Q (.ref D) H'
def spRowsL (K : PySem.W.Frag) : Sp := fun vs H Q _ => ∃ (l : Addr) (z : Int) (ww up : Nat), vs = [.ref l, .int (ww : Int), .int (up : Int)] ∧ H l = some (.lst [.int z]) ∧ 1 ≤ ww ∧ ww ≤ 5 ∧ 1 ≤ up ∧ up ≤ 30 ∧
  ∀ D rs rss m z' H', New K H H' l D rs rss 8 → D ≠ l → H' l = some (.lst [.int z']) → Good rss m → rss.length = ww → m ≤ up → Q (.ref D) H'
/-- xs[i] by values, i from 0 on -/
def rGet0 (K : PySem.W.Frag) : V → V → Hp → VK → Prop := fun o i H Q => ∃ (p : Addr) (xs : List V) (j : Nat) (v : V), o = .ref p ∧ i = .int (j : Int) ∧ SqL K H p xs ∧ xs[j]? = some v ∧ Q v H
theorem pget_list {X : Cx} : PGet X (rGet0 X.K) := by
  intro pins s σ H o i ov iv Q I ro ri h
  obtain ⟨p, xs, j, z, rfl, rfl, hq, he, q⟩ := h
  cases ro
  obtain ⟨t, rfl⟩ := ri
  obtain ⟨its, r, pl, hz⟩ := I.list hq
  obtain ⟨w, ew, rw'⟩ := r.get he
  have hj : j < xs.length := (List.getElem?_eq_some_iff.mp he).1
  have hn := line63
  exact wpAny_getItem_list pl.isList (by omega) (by omega) (by rw [Int.toNat_natCast]; simpa using ew) ⟨z, H, I, rw', q⟩
def shq (ns : List Int) : List Rat := ns.map fun x => Rat.divInt x ns.sum
theorem sum_divInt (S : Int) : ∀ ns : List Int, (ns.map fun x => Rat.divInt x S).sum = Rat.divInt ns.sum S
  | [] => by rw [List.map_nil, List.sum_nil, List.sum_nil, Rat.zero_divInt]
  | x :: ns => by
    rw [List.map_cons, List.sum_cons, List.sum_cons, sum_divInt S ns]
    by_cases h : S = 0
    · subst h
      rw [Rat.divInt_zero, Rat.divInt_zero, Rat.divInt_zero, Rat.add_zero]
    · rw [Rat.divInt_add_divInt _ _ h h, ← Int.add_mul, Rat.divInt_mul_right h]
theorem divInt_nn {x S : Int} (hx : 0 ≤ x) (hS : 0 < S) : 0 ≤ Rat.divInt x S := by
  rw [← Rat.num_nonneg, ← Fr.low_num hS]
  exact Int.fdiv_nonneg hx (by omega)
theorem divInt_one {S : Int} (hS : 0 < S) : Rat.divInt S S = 1 := by
  have h := Rat.divInt_mul_right (n := 1) (d := 1) (a := S) (by omega)
  rw [Int.one_mul] at h
  rw [h]
  rfl
theorem shq_ok {ns : List Int} {m : Nat} (hl : ns.length = m) (h0 : ∀ x ∈ ns, 0 ≤ x) (hS : 0 < ns.sum) : RowOk m (shq ns) := by
  refine ⟨by unfold shq; rw [List.length_map, hl], fun q hq => ?_, ?_⟩
  · obtain ⟨x, hx, rfl⟩ := List.mem_map.mp hq
    exact divInt_nn (h0 x hx) hS
  · unfold shq
    rw [sum_divInt, divInt_one hS]
theorem sum_le : ∀ (ns : List Int) (b : Int), (∀ x ∈ ns, x ≤ b) → ns.sum ≤ b * ns.length
  | [], b, _ => by simp
  | x :: ns, b, h => by
    have h1 := sum_le ns b fun y hy => h y (List.mem_cons_of_mem _ hy)
    have h2 := h x (List.mem_cons_self ..)
    rw [List.sum_cons, List.length_cons, Int.natCast_succ, Int.mul_add]
    omega
theorem sum_nn : ∀ (ns : List Int), (∀ x ∈ ns, 0 ≤ x) → 0 ≤ ns.sum
  | [], _ => by simp
  | x :: ns, h => by
    have h1 := sum_nn ns fun y hy => h y (List.mem_cons_of_mem _ hy)
    have h2 := h x (List.mem_cons_self ..)
    rw [List.sum_cons]
    omega
theorem set_sumI : ∀ (l : List Int) (g : Nat) (x : Int), l[g]? = some x → (l.set g (x + 1)).sum = l.sum + 1
  | [], g, x, h => by simp at h
  | y :: l, 0, x, h => by
    have e : y = x := Option.some.inj h
    subst e
    show ((y + 1) :: l).sum = _
    rw [List.sum_cons, List.sum_cons]
    omega
  | y :: l, g + 1, x, h => by
    show (y :: l.set g (x + 1)).sum = _
    rw [List.sum_cons, List.sum_cons, set_sumI l g x h]
    omega
theorem tab_at {d : Int} (h0 : 0 ≤ d) (h6 : d < 6) : ∃ v : Int, atI [V.int 0, V.int 1, V.int 1, V.int 2, V.int 3, V.int 5] d = some (V.int v) ∧ 0 ≤ v ∧ v ≤ 5 := by
  have : d = 0 ∨ d = 1 ∨ d = 2 ∨ d = 3 ∨ d = 4 ∨ d = 5 := by omega
  rcases this with rfl | rfl | rfl | rfl | rfl | rfl
  · exact ⟨_, atI_nat (j := 0) rfl, by decide, by decide⟩
  · exact ⟨_, atI_nat (j := 1) rfl, by decide, by decide⟩
  · exact ⟨_, atI_nat (j := 2) rfl, by decide, by decide⟩
  · exact ⟨_, atI_nat (j := 3) rfl, by decide, by decide⟩
  · exact ⟨_, atI_nat (j := 4) rfl, by decide, by decide⟩
  · exact ⟨_, atI_nat (j := 5) rfl, by decide, by decide⟩
theorem ne_num {K : PySem.W.Frag} {H : Hp} {l : Addr} {z : Int} {a : Addr} {rs : List Addr} {rss : List (List Rat)} {n : Nat} (hl : H l = some (.lst [.int z])) (h : RwL K H a rs rss n) : a ≠ l := fun e => by
  have := h.1
  rw [e, hl] at this
  cases rs with
  | nil => cases this
  | cons r rs => cases this
theorem nr_num {K : PySem.W.Frag} {H : Hp} {l : Addr} {z : Int} {rs : List Addr} {rss : List (List Rat)} {n : Nat} (hl : H l = some (.lst [.int z])) (h : RowsAt K H n rs rss) : l ∉ rs := fun hm => by
  obtain ⟨j, hj, e⟩ := List.getElem_of_mem hm
  obtain ⟨cs, qs, e1, e2, e3⟩ := h.2 j l (by rw [List.getElem?_eq_getElem hj, e])
  rw [hl] at e2
  cases e2
  obtain ⟨a, q, _, e, _⟩ := e3.at_ 0 _ rfl
  cases e
theorem RwL.keepB {K : PySem.W.Frag} {H H' : Hp} {l : Addr} {z : Int} {a : Addr} {rs : List Addr} {rss : List (List Rat)} {n : Nat} (h : RwL K H a rs rss n) (hl : H l = some (.lst [.int z])) (s : SameB l H H') : RwL K H' a rs rss n :=
  ⟨s _ _ (ne_num hl h) h.1, h.2.keep s hl (nr_num hl h.2)⟩
theorem IsRule.keepB {K : PySem.W.Frag} {H H' : Hp} {C x l : Addr} {z : Int} {rss : List (List Rat)} {n : Nat} (h : IsRule K H C x rss n) (hl : H l = some (.lst [.int z])) (s : SameB l H H') : IsRule K H' C x rss n := by
  obtain ⟨dx, ra, rs, e1, e2⟩ := h
  exact ⟨dx, ra, rs, s _ _ (ne_of e1 hl (by intro w; cases w)) e1, RwL.keepB e2 hl s⟩
theorem New.pre {K : PySem.W.Frag} {H00 H0 H : Hp} {ex D : Addr} {rs : List Addr} {rss : List (List Rat)} {n : Nat} (h : New K H0 H ex D rs rss n) (s : SameB ex H00 H0) (hD : D ≠ ex) : New K H00 H ex D rs rss n := by
  refine ⟨h.at_, h.nd, h.ne, fun x hx => ?_, ?_, h.nx, s.trans h.keep, h.rows⟩
  · cases e : H00 x with
    | none => rfl
    | some o =>
      have := s x o (fun z => h.nx (by rw [← z]; exact hx)) e
      rw [h.fresh x hx] at this
      cases this
  · cases e : H00 D with
    | none => rfl
    | some o =>
      have := s D o hD e
      rw [h.fD] at this
      cases this
theorem RwL.ins {K : PySem.W.Frag} {H : Hp} {a x C dx : Addr} {fs gs : List (Str × V)} {rs : List Addr} {rss : List (List Rat)} {n : Nat} (h : RwL K H a rs rss n) (hx : H x = some (.ins C dx fs)) : RwL K (upd H x (.ins C dx gs)) a rs rss n := by
  have st : ∀ b xs, SqT K H b xs → SqT K (upd H x (.ins C dx gs)) b xs := fun b xs z => by
    rcases z with (z | ⟨o, z⟩) | z
    · exact .inl (.inl (by rw [upd_ne (ne_of z hx (by intro w; cases w))]; exact z))
    · exact .inl (.inr ⟨o, by rw [upd_ne (ne_of z hx (by intro w; cases w))]; exact z⟩)
    · exact .inr z
  refine ⟨by rw [upd_ne (ne_of h.1 hx (by intro w; cases w))]; exact h.1, h.2.1, fun j r e => ?_⟩
  obtain ⟨cs, qs, e1, e2, e3⟩ := h.2.2 j r e
  exact ⟨cs, qs, e1, by rw [upd_ne (ne_of e2 hx (by intro w; cases w))]; exact e2, e3.keep st⟩
/-- len(o), o an instance with its own __len__ -/
def rLenO (C : Addr) (sp : Sp) : List V → Hp → VK → Prop := fun xs H Q => ∃ (x dx : Addr) (fs : List (Str × V)), xs = [.ref x] ∧ H x = some (.ins C dx fs) ∧ sp [.ref x] H (fun v H' => ∃ n : Nat, v = .int (n : Int) ∧ n < 1000 ∧ Q (.int (n : Int)) H') (fun _ _ _ => False)
theorem call_lenO {X : Cx} {C f : Addr} {fd : FuncData} {k : Nat} {sp : Sp} (hs : PySem.W.findIn X.K (.ref C) "__len__" = some (some (.ref f))) (hf : PySem.W.isFn X.K (.ref f) = true) (F : FnOk X.prog X.w X.K X.mg X.base CX0 k f fd ["self"] sp) (hr : Room (k + 1) X.A) (hb : Binds X.K fd ["self"] []) : CallR X (.builtin "len") (rLenO C sp) := by
  intro pins s σ H xs us Q I r h
  obtain ⟨x, dx, fs, rfl, hx, hq⟩ := h
  cases r with
  | @cons _ u _ _ ru rn =>
    cases rn
    cases (show u = Value.ref x from ru)
    obtain ⟨mA, J, _⟩ := ins_get I.hok hx
    obtain ⟨od, J, _⟩ := J.look
    obtain ⟨m, hF⟩ := I.fr
    refine PySem.W.len_K hF I.ok.mod.kin J hs hf ?_
    have e0 : Env0 X.prog X.w X.K X.mg X.base X.A.in1 X.stack s H := by
      have e := I.env0
      exact ⟨e.frames, e.mod, e.bs, e.bsz, e.funs, e.frf, e.hok, e.bare⟩
    have r2 : Vals [V.ref x] [Value.ref x] := .cons rfl .nil
    refine wpAny_call (codeAny_mono (F.run X.A.in1 X.stack s H ⟨[.ref x], []⟩ [.ref x] [.ref x] _ (fun _ _ _ => False) hr.in1 e0 (by
      have := hb s [.ref x] I.kIn rfl
      simpa using this) r2 hq) fun r s' hq' => ?_)
    cases r with
    | error e => exact False.elim hq'
    | ok fl =>
      cases fl with
      | ret u =>
        obtain ⟨z, H', I', rz, n, ez, hn, q⟩ := I.after hq'
        subst ez
        obtain ⟨t, rfl⟩ := (show ∃ t, u = Value.int (n : Int) t from rz)
        exact ⟨⟨by omega, by omega⟩, .int (n : Int), H', I'.tok _, ⟨_, rfl⟩, q⟩
      | next => exact False.elim hq'
      | brk => exact False.elim hq'
      | cont => exact False.elim hq'
theorem sum_snoc' {qs : List Rat} {i : Nat} {q : Rat} (h : qs[i]? = some q) : (qs.take (i + 1)).sum = (qs.take i).sum + q := Co.sum_snoc h
def spTotal (K : PySem.W.Frag) : Sp := fun vs H Q _ => ∃ (l : Addr) (cs : List V) (qs : List Rat) (n : Nat), vs = [.ref l, .non] ∧ SqL K H l cs ∧ FrN K H n cs qs ∧ (n + 1) * qs.length + 1 ≤ 8700 ∧ ∀ r H', Same H H' → SqT K H' r (rp qs.sum) → Q (.ref r) H'
def spCopied (K : PySem.W.Frag) : Sp := fun vs H Q _ => ∃ (a : Addr) (rs : List Addr) (rss : List (List Rat)) (n : Nat), vs = [.ref a] ∧ RwL K H a rs rss n ∧ rss.length ≤ 100 ∧ ∀ D rs' H', Fresh K H H' D rs' rss n → Q (.ref D) H'
theorem eqv_dR (a b : Rat) : PyData.eqv (dR a) (dR b) = decide (a = b) := by
  show PyData.eqv (.tuple [.int a.num, .int (a.den : Int)]) (.tuple [.int b.num, .int (b.den : Int)]) = _
  simp only [PyData.eqv, PyData.eqvAll, Bool.and_true]
  by_cases h : a = b
  · subst h
    simp
  · rw [decide_eq_false h, Bool.and_eq_false_iff]
    by_cases h1 : a.num = b.num
    · refine .inr ?_
      have h2 : a.den ≠ b.den := fun e => h (Rat.ext h1 e)
      simp only [beq_eq_false_iff_ne, ne_eq]
      omega
    · refine .inl ?_
      simp only [beq_eq_false_iff_ne, ne_eq]
      exact h1
def rLenS (K : PySem.W.Frag) : List V → Hp → VK → Prop := fun xs H Q => ∃ p ys, xs = [V.ref p] ∧ (SqL K H p ys ∨ SqT K H p ys) ∧ Q (.int ys.length) H
def rStrI : List V → Hp → VK → Prop := fun xs H Q => ∃ i : Int, xs = [V.int i] ∧ i.natAbs.log2 < 1920 ∧ Q (.str (toString i)) H
def rInt1 : List V → Hp → VK → Prop := fun xs H Q => (∃ i, xs = [V.int i] ∧ Q (.int i) H) ∨ ∃ k, xs = [V.bl k] ∧ Q (.int (if k then 1 else 0)) H
def rTupOf (K : PySem.W.Frag) : List V → Hp → VK → Prop := fun xs H Q => ∃ p ys, xs = [V.ref p] ∧ ((SqL K H p ys ∧ ∀ l, H l = none → Q (.ref l) (upd H l (.tup ys))) ∨ (SqT K H p ys ∧ Q (.ref p) H))
/-- a def that may raise, where it does not -/
theorem quiet {P : Program} {w : World} {K : PySem.W.Frag} {mg : Str → Option Value} {base : Heap} {k : Nat} {f : Addr} {fd : FuncData} {ps : List Str} {sp : Sp} (F : FnOk P w K mg base (L2.CX P w) k f fd ps sp) : FnOk P w K mg base CX0 k f fd ps (fun vs H Q _ => sp vs H Q E0) := by
  refine ⟨fun vs H Q E h => F.len vs H Q E0 h, fun A outer s H args us vs Q E hr e b r h => codeAny_mono (F.run A outer s H args us vs Q E0 hr e b r h) fun r s' hq => ?_⟩
  cases r with
  | error e =>
    obtain ⟨_, _, _, _, _, _, _, _, _, _, _, _, z⟩ := hq
    exact z.elim
  | ok fl =>
    cases fl <;> exact hq
end Rs

set_option Elab.async false
set_option linter.all false
set_option maxRecDepth 100000
set_option maxHeartbeats 4000000
namespace Dz
open PySem PySem.Spec PyProof.Rows L2 BX EXB Co Ru
open Fr (Bd)
/-! ### things of any kind, none of whose lists stands where ex says -/
mutual
inductive Dz (K : PySem.W.Frag) (H : Hp) (ex : Addr → Prop) : V → PyData → Prop
  | non : Dz K H ex .non .none
  | bl (b : Bool) : Dz K H ex (.bl b) (.bool b)
  | int (i : Int) : Dz K H ex (.int i) (.int i)
  | str (x : Str) : Dz K H ex (.str x) (.str x)
  | lst {a : Addr} {xs : List V} {ds : List PyData} (h : H a = some (.lst xs)) (hn : ¬ ex a) (t : DzA K H ex xs ds) : Dz K H ex (.ref a) (.list ds)
  | tup {a : Addr} {xs : List V} {ds : List PyData} (h : SqT K H a xs) (t : DzA K H ex xs ds) : Dz K H ex (.ref a) (.tuple ds)
  | dct {a : Addr} (h : H a = some (.dK [])) (hn : ¬ ex a) : Dz K H ex (.ref a) (.dict [])
inductive DzA (K : PySem.W.Frag) (H : Hp) (ex : Addr → Prop) : List V → List PyData → Prop
  | nil : DzA K H ex [] []
  | cons {v : V} {vs : List V} {d : PyData} {ds : List PyData} (h : Dz K H ex v d) (t : DzA K H ex vs ds) : DzA K H ex (v :: vs) (d :: ds)
end
/-- what changes leaves such things -/
structure Ch (K : PySem.W.Frag) (ex : Addr → Prop) (H H' : Hp) : Prop where
  tp : ∀ a xs, SqT K H a xs → SqT K H' a xs
  ob : ∀ b o, ¬ ex b → H b = some o → H' b = some o
section
variable {K : PySem.W.Frag} {ex ex' : Addr → Prop} {H H' H2 : Hp}
theorem Ch.of (s : Same H H') : Ch K ex H H' := ⟨fun _ _ => seqT s, fun b o _ e => s b o e⟩
theorem Ch.trans (a : Ch K ex H H') (b : Ch K ex H' H2) : Ch K ex H H2 := ⟨fun x y h => b.tp x y (a.tp x y h), fun x y n h => b.ob x y n (a.ob x y n h)⟩
theorem Ch.put {p : Addr} {ys zs : List V} (hp : H p = some (.lst ys)) (h : ex p) : Ch K ex H (upd H p (.lst zs)) := ⟨SameB.tup SameB.upd hp, fun b o n e => by rw [upd_ne (fun z => n (by rw [z]; exact h))]; exact e⟩
theorem Ch.but {l : Addr} {ys : List V} (hl : H l = some (.lst ys)) (s : SameB l H H') (h : ex l) : Ch K ex H H' := ⟨s.tup hl, fun b o n e => s b o (fun z => n (by rw [z]; exact h)) e⟩
mutual
theorem Dz.ch (c : Ch K ex H H') : ∀ (d : PyData) (v : V), Dz K H ex v d → Dz K H' ex v d
  | .none, _, h => by cases h; exact .non
  | .bool b, _, h => by cases h; exact .bl _
  | .int i, _, h => by cases h; exact .int _
  | .str x, _, h => by cases h; exact .str _
  | .list ds, _, h => by
    cases h with
    | lst h hn t => exact .lst (c.ob _ _ hn h) hn (DzA.ch c ds _ t)
  | .tuple ds, _, h => by
    cases h with
    | tup h t => exact .tup (c.tp _ _ h) (DzA.ch c ds _ t)
  | .dict ds, _, h => by
    cases h with
    | dct h hn => exact .dct (c.ob _ _ hn h) hn
theorem DzA.ch (c : Ch K ex H H') : ∀ (ds : List PyData) (vs : List V), DzA K H ex vs ds → DzA K H' ex vs ds
  | [], _, h => by cases h; exact .nil
  | d :: ds, _, h => by
    cases h with
    | cons h t => exact .cons (Dz.ch c d _ h) (DzA.ch c ds _ t)
end
mutual
theorem Dz.sub (s : ∀ a, ex' a → ex a) : ∀ (d : PyData) (v : V), Dz K H ex v d → Dz K H ex' v d
  | .none, _, h => by cases h; exact .non
  | .bool b, _, h => by cases h; exact .bl _
  | .int i, _, h => by cases h; exact .int _
  | .str x, _, h => by cases h; exact .str _
  | .list ds, _, h => by
    cases h with
    | lst h hn t => exact .lst h (fun z => hn (s _ z)) (DzA.sub s ds _ t)
  | .tuple ds, _, h => by
    cases h with
    | tup h t => exact .tup h (DzA.sub s ds _ t)
  | .dict ds, _, h => by
    cases h with
    | dct h hn => exact .dct h fun z => hn (s _ z)
theorem DzA.sub (s : ∀ a, ex' a → ex a) : ∀ (ds : List PyData) (vs : List V), DzA K H ex vs ds → DzA K H ex' vs ds
  | [], _, h => by cases h; exact .nil
  | d :: ds, _, h => by
    cases h with
    | cons h t => exact .cons (Dz.sub s d _ h) (DzA.sub s ds _ t)
end
mutual
theorem Dz.dp : ∀ (d : PyData) (v : V), Dz K H ex v d → d.hasDict = false → Dp K H v d
  | .none, _, h, _ => by cases h; exact .non
  | .bool b, _, h, _ => by cases h; exact .bl _
  | .int i, _, h, _ => by cases h; exact .int _
  | .str x, _, h, _ => by cases h; exact .str _
  | .list ds, _, h, e => by
    cases h with
    | lst h hn t => exact .lst (SqL.of h) (DzA.dp ds _ t (by simpa only [PyData.hasDict] using e))
  | .tuple ds, _, h, e => by
    cases h with
    | tup h t => exact .tup h (DzA.dp ds _ t (by simpa only [PyData.hasDict] using e))
  | .dict ds, _, h, e => by simp only [PyData.hasDict] at e; cases e
theorem DzA.dp : ∀ (ds : List PyData) (vs : List V), DzA K H ex vs ds → PyData.hasDictAll ds = false → DpAll K H vs ds
  | [], _, h, _ => by cases h; exact .nil
  | d :: ds, _, h, e => by
    cases h with
    | cons h t =>
      simp only [PyData.hasDictAll, Bool.or_eq_false_iff] at e
      exact .cons (Dz.dp d _ h e.1) (DzA.dp ds _ t e.2)
end
theorem Dz.same {d : PyData} {v : V} (h : Dz K H ex v d) (s : Same H H') : Dz K H' ex v d := Dz.ch (.of s) d v h
theorem DzA.same {d : List PyData} {v : List V} (h : DzA K H ex v d) (s : Same H H') : DzA K H' ex v d := DzA.ch (.of s) d v h
theorem Dz.cc {d : PyData} {v : V} (h : Dz K H ex v d) (c : Ch K ex H H') : Dz K H' ex v d := Dz.ch c d v h
theorem DzA.cc {d : List PyData} {v : List V} (h : DzA K H ex v d) (c : Ch K ex H H') : DzA K H' ex v d := DzA.ch c d v h
variable {vs us : List V} {ds es : List PyData}
theorem DzA.len (h : DzA K H ex vs ds) : vs.length = ds.length := by
  induction ds generalizing vs with
  | nil => cases h; rfl
  | cons d ds ih => cases h with | cons h t => rw [List.length_cons, List.length_cons, ih t]
theorem DzA.at_ (h : DzA K H ex vs ds) : ∀ {i : Nat} {v : V}, vs[i]? = some v → ∃ d, ds[i]? = some d ∧ Dz K H ex v d := by
  induction ds generalizing vs with
  | nil => cases h; intro i v e; simp at e
  | cons d ds ih =>
    cases h with
    | cons h t =>
      intro i v e
      cases i with
      | zero => cases (Option.some.inj e); exact ⟨_, rfl, h⟩
      | succ i => exact ih t e
theorem DzA.app (h : DzA K H ex vs ds) (g : DzA K H ex us es) : DzA K H ex (vs ++ us) (ds ++ es) := by
  induction ds generalizing vs with
  | nil => cases h; exact g
  | cons d ds ih => cases h with | cons h t => exact .cons h (ih t)
theorem DzA.drop (h : DzA K H ex vs ds) (n : Nat) : DzA K H ex (vs.drop n) (ds.drop n) := by
  induction ds generalizing vs n with
  | nil => cases h; rw [List.drop_nil, List.drop_nil]; exact .nil
  | cons d ds ih =>
    cases h with
    | cons h t =>
      cases n with
      | zero => exact .cons h t
      | succ n => exact ih t n
theorem DzA.take (h : DzA K H ex vs ds) (n : Nat) : DzA K H ex (vs.take n) (ds.take n) := by
  induction ds generalizing vs n with
  | nil => cases h; rw [List.take_nil, List.take_nil]; exact .nil
  | cons d ds ih =>
    cases h with
    | cons h t =>
      cases n with
      | zero => exact .nil
      | succ n => exact .cons h (ih t n)
theorem DzA.set {v : V} {d : PyData} (h : DzA K H ex vs ds) (j : Nat) (g : Dz K H ex v d) : DzA K H ex (vs.set j v) (ds.set j d) := by
  induction ds generalizing vs j with
  | nil => cases h; exact .nil
  | cons d ds ih =>
    cases h with
    | cons h t =>
      cases j with
      | zero => exact .cons g t
      | succ j => exact .cons h (ih t j)
theorem DzA.rep (h : DzA K H ex vs ds) : ∀ k : Nat, DzA K H ex (List.replicate k vs).flatten (List.replicate k ds).flatten
  | 0 => .nil
  | k + 1 => by
    rw [List.replicate_succ, List.replicate_succ, List.flatten_cons, List.flatten_cons]
    exact h.app (DzA.rep h k)
theorem DzA.of_mem : ∀ {vs : List V}, (∀ v ∈ vs, ∃ d, Dz K H ex v d) → ∃ ds, DzA K H ex vs ds
  | [], _ => ⟨[], .nil⟩
  | v :: vs, h => by
    obtain ⟨d, c⟩ := h v (List.mem_cons_self ..)
    obtain ⟨ds, t⟩ := DzA.of_mem fun x hx => h x (List.mem_cons_of_mem _ hx)
    exact ⟨d :: ds, .cons c t⟩
/-! ### kinds -/
def tyD : PyData → String
  | .none => "NoneType"
  | .bool _ => "bool"
  | .int _ => "int"
  | .str _ => "str"
  | .list _ => "list"
  | .tuple _ => "tuple"
  | .dict _ => "dict"
theorem Dz.ty {v : V} {d : PyData} (h : Dz K H ex v d) : TyX K H v (.type (tyD d)) := by
  cases h with
  | non => exact .base .non
  | bl b => exact .base (.bl _)
  | int i => exact .base (.int _)
  | str x => exact .base (.str _)
  | lst h hn t => exact .base (.lst h)
  | tup h t => exact tyT h
  | dct h hn => exact .base (.dK h)
def isL : PyData → Bool
  | .list _ => true
  | _ => false
def isT : PyData → Bool
  | .tuple _ => true
  | _ => false
def isI : PyData → Bool
  | .int _ => true
  | _ => false
def isIB : PyData → Bool
  | .int _ => true
  | .bool _ => true
  | _ => false
def isB : PyData → Bool
  | .bool _ => true
  | _ => false
def isS : PyData → Bool
  | .str _ => true
  | _ => false
theorem kit_isL (d : PyData) : kitB (tyD d) "list" = some (isL d) := by
  cases d with
  | none => show kitB "NoneType" "list" = some false; decide +kernel
  | bool x => show kitB "bool" "list" = some false; decide +kernel
  | int x => show kitB "int" "list" = some false; decide +kernel
  | str x => show kitB "str" "list" = some false; decide +kernel
  | list x => show kitB "list" "list" = some true; decide +kernel
  | tuple x => show kitB "tuple" "list" = some false; decide +kernel
  | dict x => show kitB "dict" "list" = some false; decide +kernel
theorem kit_isT (d : PyData) : kitB (tyD d) "tuple" = some (isT d) := by
  cases d with
  | none => show kitB "NoneType" "tuple" = some false; decide +kernel
  | bool x => show kitB "bool" "tuple" = some false; decide +kernel
  | int x => show kitB "int" "tuple" = some false; decide +kernel
  | str x => show kitB "str" "tuple" = some false; decide +kernel
  | list x => show kitB "list" "tuple" = some false; decide +kernel
  | tuple x => show kitB "tuple" "tuple" = some true; decide +kernel
  | dict x => show kitB "dict" "tuple" = some false; decide +kernel
theorem kit_isIB (d : PyData) : kitB (tyD d) "int" = some (isIB d) := by
  cases d with
  | none => show kitB "NoneType" "int" = some false; decide +kernel
  | bool x => show kitB "bool" "int" = some true; decide +kernel
  | int x => show kitB "int" "int" = some true; decide +kernel
  | str x => show kitB "str" "int" = some false; decide +kernel
  | list x => show kitB "list" "int" = some false; decide +kernel
  | tuple x => show kitB "tuple" "int" = some false; decide +kernel
  | dict x => show kitB "dict" "int" = some false; decide +kernel
theorem kit_isB (d : PyData) : kitB (tyD d) "bool" = some (isB d) := by
  cases d with
  | none => show kitB "NoneType" "bool" = some false; decide +kernel
  | bool x => show kitB "bool" "bool" = some true; decide +kernel
  | int x => show kitB "int" "bool" = some false; decide +kernel
  | str x => show kitB "str" "bool" = some false; decide +kernel
  | list x => show kitB "list" "bool" = some false; decide +kernel
  | tuple x => show kitB "tuple" "bool" = some false; decide +kernel
  | dict x => show kitB "dict" "bool" = some false; decide +kernel
theorem kit_isS (d : PyData) : kitB (tyD d) "str" = some (isS d) := by
  cases d with
  | none => show kitB "NoneType" "str" = some false; decide +kernel
  | bool x => show kitB "bool" "str" = some false; decide +kernel
  | int x => show kitB "int" "str" = some false; decide +kernel
  | str x => show kitB "str" "str" = some true; decide +kernel
  | list x => show kitB "list" "str" = some false; decide +kernel
  | tuple x => show kitB "tuple" "str" = some false; decide +kernel
  | dict x => show kitB "dict" "str" = some false; decide +kernel
/-- how many things a list has -/
def lenD : PyData → Option Nat
  | .list ds => some ds.length
  | _ => none
def lenOk : Option Nat → Int → Int → Bool
  | some n, lo, hi => decide (lo ≤ (n : Int)) && decide ((n : Int) ≤ hi)
  | none, _, _ => false
/-- the fraction that a thing is -/
def ratD : PyData → Option Rat
  | .tuple [.int t, .int b] => if 1 ≤ b ∧ Int.gcd t b = 1 then some (Rat.divInt t b) else none
  | _ => none
theorem ratD_num {t b : Int} (h1 : 1 ≤ b) (hg : Int.gcd t b = 1) : (Rat.divInt t b).num = t ∧ ((Rat.divInt t b).den : Int) = b := by
  have e1 := Fr.low_num (t := t) (b := b) (by omega)
  have e2 := Fr.low_den (t := t) (b := b) (by omega)
  rw [hg] at e1 e2
  rw [← e1, ← e2]
  exact ⟨Int.fdiv_one _, Int.fdiv_one _⟩
theorem Dz.rat {v : V} {d : PyData} {q : Rat} (h : Dz K H ex v d) (e : ratD d = some q) : ∃ a, v = .ref a ∧ SqT K H a (rp q) ∧ d = dR q := by
  unfold ratD at e
  split at e
  · rename_i t b
    split at e
    · rename_i c
      obtain ⟨e1, e2⟩ := ratD_num c.1 c.2
      cases e
      cases h with
      | @tup a xs _ h ts =>
        cases ts with
        | cons h1 ts =>
          cases ts with
          | cons h2 ts =>
            cases ts
            cases h1
            cases h2
            refine ⟨a, rfl, ?_, ?_⟩
            · unfold rp
              rw [e1, e2]
              exact h
            · unfold dR
              rw [e1, e2]
    · cases e
  · cases e
theorem ratD_dR (q : Rat) : ratD (dR q) = some q := by
  show (if 1 ≤ (q.den : Int) ∧ Int.gcd q.num q.den = 1 then some (Rat.divInt q.num q.den) else none) = some q
  have := Fr.den_pos q
  rw [if_pos ⟨by omega, Fr.ratio_gcd q⟩, Rat.num_divInt_den]
theorem dz_dR {a : Addr} {q : Rat} (h : SqT K H a (rp q)) : Dz K H ex (.ref a) (dR q) := .tup h (.cons (.int _) (.cons (.int _) .nil))
def shD (d : PyData) : Bool := match ratD d with
  | some q => decide (0 ≤ q.num)
  | none => false
def sumD (ds : List PyData) : Rat := (ds.map fun d => (ratD d).getD 0).sum
/-- things that are all fractions -/
theorem DzA.rats {n : Nat} (h : DzA K H ex vs ds) (hb : ∀ d ∈ ds, ∀ q, ratD d = some q → Bd n q) (g : ds.all (fun d => (ratD d).isSome) = true) : ∃ qs, ds = qs.map dR ∧ FrN K H n vs qs := by
  induction ds generalizing vs with
  | nil => cases h; exact ⟨[], rfl, FrN.nil⟩
  | cons d ds ih =>
    cases h with
    | @cons v vs _ _ h t =>
      rw [List.all_cons, Bool.and_eq_true] at g
      obtain ⟨qs, e1, e2⟩ := ih t (fun x hx => hb x (List.mem_cons_of_mem _ hx)) g.2
      obtain ⟨q, eq⟩ := Option.isSome_iff_exists.mp g.1
      obtain ⟨a, rfl, e3, e4⟩ := h.rat eq
      refine ⟨q :: qs, by rw [e4, e1]; rfl, ⟨by rw [List.length_cons, List.length_cons, e2.len], fun i x e => ?_⟩⟩
      cases i with
      | zero => cases (Option.some.inj e); exact ⟨a, q, rfl, rfl, e3, hb d (List.mem_cons_self ..) q eq⟩
      | succ i => exact e2.at_ i x e
theorem frn_dz : ∀ {vs : List V} {qs : List Rat} {n : Nat}, FrN K H n vs qs → DzA K H ex vs (qs.map dR)
  | [], [], _, _ => .nil
  | [], _ :: _, _, h => by have := h.len; simp at this
  | _ :: _, [], _, h => by have := h.len; simp at this
  | v :: vs, q :: qs, n, h => by
    obtain ⟨a, q', e1, rfl, e3, e4⟩ := h.at_ 0 v rfl
    cases (Option.some.inj e1)
    exact .cons (dz_dR e3) (frn_dz (n := n) ⟨by have := h.len; simpa using this, fun i v e => h.at_ (i + 1) v e⟩)
theorem rows_dz : ∀ {rs : List Addr} {rss : List (List Rat)} {n : Nat}, RowsAt K H n rs rss → (∀ r ∈ rs, ¬ ex r) → DzA K H ex (rs.map V.ref) (rss.map fun qs => .list (qs.map dR))
  | [], [], _, _, _ => .nil
  | [], _ :: _, _, h, _ => by have := h.1; simp at this
  | _ :: _, [], _, h, _ => by have := h.1; simp at this
  | r :: rs, q :: rss, n, h, hn => by
    obtain ⟨cs, qs, e1, e2, e3⟩ := h.2 0 r rfl
    have e : q = qs := Option.some.inj e1
    subst e
    exact .cons (.lst e2 (hn r (List.mem_cons_self ..)) (frn_dz e3)) (rows_dz (n := n) ⟨by have := h.1; simpa using this, fun j x e => h.2 (j + 1) x e⟩ fun r hr => hn r (List.mem_cons_of_mem _ hr))
end
/-! ### shown -/
section
variable {X : Cx} {pins : List (Addr × Obj)} {σ : L2.St} {H : Hp} {s : Shared} {ex : Addr → Prop}
mutual
theorem Dz.repk (I : Inv X pins σ H s) : ∀ (d : PyData) (v : V) (u : Value), Dz X.K H ex v d → RelV v u → d.showable = true → d.shown.length ≤ sizeLine → ∃ as bs, Reads s.heap u d as ∧ ReadAtMost s.heap d.depth bs ∧ ReprK X.prog X.w bs s.heap d.depth u d.shown
  | .none, _, _, h, r, _, _ => by
    cases h
    cases r
    exact ⟨[], [], .none, fun _ z => (nomatch z), ReprK.of_is ReprIs.none [] _ _⟩
  | .bool b, _, _, h, r, _, _ => by
    cases h
    cases r
    exact ⟨[], [], .bool b, fun _ z => (nomatch z), ReprK.of_is (ReprIs.bool b) [] _ _⟩
  | .int i, _, _, h, r, hs, _ => by
    cases h
    obtain ⟨t, rfl⟩ := r
    exact ⟨[], [], .int i t, fun _ z => (nomatch z), ReprK.of_is (ReprIs.int t (of_decide_eq_true hs)) [] _ _⟩
  | .str x, _, _, h, r, _, hz => by
    cases h
    obtain ⟨t, rfl⟩ := r
    exact ⟨[], [], .str x t, fun _ z => (nomatch z), ReprK.of_is (ReprIs.str x t hz) [] _ _⟩
  | .list ds, _, _, h, r, hs, hz => by
    cases h with
    | @lst a xs _ h hn t =>
      cases r
      obtain ⟨_, its, n, rv, e⟩ := (show ObjOk X.prog X.w H s.heap a (.lst xs) from I.hok a _ h)
      have hz1 : (listText (PyData.shownAll ds)).length ≤ sizeLine := hz
      obtain ⟨as, bs, h1, h2, h3⟩ := DzA.repk I ds xs its t rv hs fun y hy => Nat.le_trans (listText_mem_le hy) hz1
      have rd : Reads s.heap (.ref a) (.list ds) (a :: as) := .list e rfl rfl h1
      have na : a ∉ bs := not_mem_of_deeper rd (Nat.lt_succ_self _) h2
      refine ⟨_, a :: bs, rd, ReadAtMost.cons rd (Nat.le_succ _) h2, ?_⟩
      cases its with
      | nil =>
        cases h1
        exact ReprK.listEmpty e rfl rfl
      | cons x l => exact ReprK.list e rfl rfl na (by simpa using h3.length_eq) fun i y z => h3.item i y (by simpa using z)
  | .tuple ds, _, _, h, r, hs, hz => by
    cases h with
    | @tup a xs _ h t =>
      cases r
      obtain ⟨its, rv, ⟨o, ho, hc, n, hd⟩, _⟩ := I.tuple h
      have hz1 : (tupleText (PyData.shownAll ds)).length ≤ sizeLine := hz
      obtain ⟨as, bs, h1, h2, h3⟩ := DzA.repk I ds xs its t rv hs fun y hy => Nat.le_trans (tupleText_mem_le hy) hz1
      have rd : Reads s.heap (.ref a) (.tuple ds) as := .tuple ho hc hd h1
      exact ⟨_, a :: bs, rd, ReadAtMost.cons rd (Nat.le_succ _) h2, ReprK.tuple ho hc hd (not_mem_of_deeper rd (Nat.lt_succ_self _) h2) h3⟩
  | .dict ds, _, _, h, r, _, _ => by
    cases h with
    | @dct a h hn =>
      cases r
      obtain ⟨_, hns, vs, hkv, o, es, ep, h1, h2, h3, h4, h5, _⟩ := (show ObjOk X.prog X.w H s.heap a (.dK []) from I.hok a _ h)
      cases hkv
      have he : es.toList = [] := List.eq_nil_of_length_eq_zero h5.length
      have rd : Reads s.heap (.ref a) (.dict []) (a :: [] ++ []) := .dict h1 h2.1 h3 (by rw [he]; exact .nil) (by rw [he]; exact .nil)
      refine ⟨_, [a], rd, ReadAtMost.cons (n := 0) (bs := []) rd (Nat.zero_le _) (fun _ z => (nomatch z)), ReprK.dict (d := 0) (ps := []) h1 h2.1 h3 hns (by simp) (by rw [he]; exact .nil)⟩
theorem DzA.repk (I : Inv X pins σ H s) : ∀ (ds : List PyData) (vs : List V) (us : List Value), DzA X.K H ex vs ds → Vals vs us → PyData.showableAll ds = true → (∀ t ∈ PyData.shownAll ds, t.length ≤ sizeLine) → ∃ as bs, ReadsAll s.heap us ds as ∧ ReadAtMost s.heap (PyData.depthAll ds) bs ∧ ReprAllK X.prog X.w bs s.heap (PyData.depthAll ds) us (PyData.shownAll ds)
  | [], _, _, h, r, _, _ => by
    cases h
    cases r
    exact ⟨[], [], .nil, fun _ z => (nomatch z), .nil⟩
  | d :: ds, _, _, h, r, hs, hz => by
    cases h with
    | cons h t =>
      cases r with
      | cons r1 r2 =>
        have hs' : d.showable = true ∧ PyData.showableAll ds = true := Bool.and_eq_true _ _ ▸ (show (d.showable && PyData.showableAll ds) = true from hs)
        obtain ⟨as, bs, a1, a2, a3⟩ := Dz.repk I d _ _ h r1 hs'.1 (hz _ (List.mem_cons_self ..))
        obtain ⟨cs, es, b1, b2, b3⟩ := DzA.repk I ds _ _ t r2 hs'.2 fun y hy => hz y (List.mem_cons_of_mem _ hy)
        refine ⟨as ++ cs, bs ++ es, .cons a1 b1, fun b hb => ?_, .cons ((a3.more fun b hb => List.mem_append_left _ hb).level_le (Nat.le_max_left _ _)) (b3.more_le (fun b hb => List.mem_append_right _ hb) (Nat.le_max_right _ _))⟩
        rcases List.mem_append.mp hb with hb | hb
        · obtain ⟨x, y, z1, z2⟩ := a2 b hb
          exact ⟨x, y, z1, Nat.le_trans z2 (Nat.le_max_left _ _)⟩
        · obtain ⟨x, y, z1, z2⟩ := b2 b hb
          exact ⟨x, y, z1, Nat.le_trans z2 (Nat.le_max_right _ _)⟩
end
/-- repr of a list that is not empty -/
def rReprZ (K : PySem.W.Frag) : List V → Hp → VK → Prop := fun xs H Q => ∃ (ex : Addr → Prop) (x : V) (d : PyData) (ds : List PyData), xs = [x] ∧ Dz K H ex x (.list (d :: ds)) ∧ (PyData.list (d :: ds)).showable = true ∧ (PyData.list (d :: ds)).depth ≤ 64 ∧ (PyData.list (d :: ds)).shown.length ≤ sizeLine ∧ Q (.str (PyData.list (d :: ds)).shown) H
theorem call_reprZ {X : Cx} (hgd : X.A.guards = some []) (hu : X.A.units + 80 < cLine) : CallR X (.builtin "repr") (rReprZ X.K) := by
  intro pins s σ H xs us Q I r h
  obtain ⟨ex, x, d, ds, rfl, hd, hs, hdp, hsz, q⟩ := h
  cases r with
  | @cons _ u _ _ ru rn =>
    cases rn
    cases hd with
    | @lst a xs _ h hn t =>
      cases ru
      obtain ⟨_, its, n, rv, e⟩ := (show ObjOk X.prog X.w H s.heap a (.lst xs) from I.hok a _ h)
      have hz1 : (listText (PyData.shownAll (d :: ds))).length ≤ sizeLine := hsz
      obtain ⟨as, bs, h1, h2, h3⟩ := DzA.repk I (d :: ds) xs its t rv hs fun y hy => Nat.le_trans (listText_mem_le hy) hz1
      have rd : Reads s.heap (.ref a) (.list (d :: ds)) (a :: as) := .list e rfl rfl h1
      have na : a ∉ bs := not_mem_of_deeper rd (Nat.lt_succ_self _) h2
      have hdp' : PyData.depthAll (d :: ds) + 1 ≤ 64 := hdp
      cases its with
      | nil => cases h1
      | cons x l =>
        refine call_repr_slot (by omega) ⟨_, e, rfl⟩ F.slot_list_repr.toG (call_list_reprK e rfl rfl na (by simpa using h3.length_eq) (fun i y z => h3.item i y (by simpa using z)) hgd (fun b _ => Clear.nil b) (by show X.A.units + 1 + (_ + 1) < cLine; omega) (fun _ _ z => z) (fun h' u tk hk => ⟨_, _, rfl, ?_⟩) hz1)
        exact ⟨.str (PyData.list (d :: ds)).shown, H, I.kept (t' := tk) hk, ⟨_, rfl⟩, q⟩
end
/-! ### how long what is shown is -/
theorem textFrom_le : ∀ (ts : List Str) (k : Nat) (acc : Str), (textFrom k acc ts).length ≤ acc.length + piled ts
  | [], k, acc => Nat.le_add_right _ _
  | t :: ts, k, acc => by
    have h := textFrom_le ts (k + 1) (acc ++ (if k > 0 then ", " else "" : String) ++ t)
    rw [strLen_append, strLen_append] at h
    rw [piled_cons]
    have e : textFrom k acc (t :: ts) = textFrom (k + 1) (acc ++ (if k > 0 then ", " else "" : String) ++ t) ts := rfl
    rw [e]
    have hc : (((if k > 0 then ", " else "" : String) : Str)).length ≤ 2 := by split <;> decide
    omega
theorem listText_le (ts : List Str) : (listText ts).length ≤ 2 + piled ts := by
  have h := textFrom_le ts 0 "["
  unfold listText
  rw [strLen_append]
  have h1 : (("[" : String) : Str).length = 1 := by decide
  have h2 : (("]" : String) : Str).length = 1 := by decide
  omega
theorem tupleText_le (ts : List Str) : (tupleText ts).length ≤ 3 + piled ts := by
  unfold tupleText
  rw [strLen_append, strLen_append]
  have h1 : (("(" : String) : Str).length = 1 := by decide
  have h2 : (((if ts.length == 1 then ",)" else ")" : String) : Str)).length ≤ 2 := by split <;> decide
  cases ts with
  | nil =>
    have h3 : (Str.join ", " []).length = 0 := by decide
    omega
  | cons t ts =>
    have h3 := join_length_add (t :: ts) (by simp)
    omega
theorem piled_le {ts : List Str} {b : Nat} (h : ∀ t ∈ ts, t.length ≤ b) : piled ts ≤ ts.length * (b + 2) := by
  induction ts with
  | nil => exact Nat.zero_le _
  | cons t ts ih =>
    rw [piled_cons, List.length_cons, Nat.succ_mul]
    have h1 := h t (List.mem_cons_self ..)
    have h2 := ih fun x hx => h x (List.mem_cons_of_mem _ hx)
    omega
/-- data that can be shown, of so many levels, no longer than b -/
structure Sm (d : PyData) (k b : Nat) : Prop where
  sh : d.showable = true
  dp : d.depth ≤ k
  sz : d.shown.length ≤ b
  ly : d.canLay0 = true
theorem Sm.mono {d : PyData} {k b k' b' : Nat} (h : Sm d k b) (hk : k ≤ k') (hb : b ≤ b') : Sm d k' b' := ⟨h.sh, Nat.le_trans h.dp hk, Nat.le_trans h.sz hb, h.ly⟩
theorem shownAll_len : ∀ ds : List PyData, (PyData.shownAll ds).length = ds.length
  | [] => by simp only [PyData.shownAll, List.length_nil]
  | d :: ds => by simp only [PyData.shownAll, List.length_cons, shownAll_len ds]
theorem shownAll_mem : ∀ {ds : List PyData} {t : Str}, t ∈ PyData.shownAll ds → ∃ d ∈ ds, t = d.shown
  | [], t, h => by simp only [PyData.shownAll] at h; exact nomatch h
  | d :: ds, t, h => by
    simp only [PyData.shownAll, List.mem_cons] at h
    rcases h with rfl | h
    · exact ⟨d, List.mem_cons_self .., rfl⟩
    · obtain ⟨x, hx, e⟩ := shownAll_mem h
      exact ⟨x, List.mem_cons_of_mem _ hx, e⟩
theorem sm_piled {ds : List PyData} {k b n : Nat} (h : ∀ d ∈ ds, Sm d k b) (hn : ds.length ≤ n) : piled (PyData.shownAll ds) ≤ n * (b + 2) := by
  have h1 := piled_le (ts := PyData.shownAll ds) (b := b) fun t ht => by
    obtain ⟨d, hd, rfl⟩ := shownAll_mem ht
    exact (h d hd).sz
  rw [shownAll_len] at h1
  exact Nat.le_trans h1 (Nat.mul_le_mul_right _ hn)
theorem sm_shs : ∀ {ds : List PyData} {k b : Nat}, (∀ d ∈ ds, Sm d k b) → PyData.showableAll ds = true
  | [], _, _, _ => by simp only [PyData.showableAll]
  | d :: ds, k, b, h => by simp only [PyData.showableAll, (h d (List.mem_cons_self ..)).sh, sm_shs fun x hx => h x (List.mem_cons_of_mem _ hx), Bool.and_self]
theorem sm_lys : ∀ {ds : List PyData} {k b : Nat}, (∀ d ∈ ds, Sm d k b) → PyData.canLayAll0 ds = true
  | [], _, _, _ => rfl
  | d :: ds, k, b, h => by
    show (PyData.canLay0 d && PyData.canLayAll0 ds) = true
    rw [(h d (List.mem_cons_self ..)).ly, sm_lys fun x hx => h x (List.mem_cons_of_mem _ hx)]
    rfl
theorem sm_dps : ∀ {ds : List PyData} {k b : Nat}, (∀ d ∈ ds, Sm d k b) → PyData.depthAll ds ≤ k
  | [], _, _, _ => Nat.zero_le _
  | d :: ds, k, b, h => by
    show max (PyData.depth d) (PyData.depthAll ds) ≤ k
    have h1 := (h d (List.mem_cons_self ..)).dp
    have h2 := sm_dps fun x hx => h x (List.mem_cons_of_mem _ hx)
    omega
theorem sm_list {ds : List PyData} {k b n c : Nat} (h : ∀ d ∈ ds, Sm d k b) (hn : ds.length ≤ n) (hc : 3 + n * (b + 2) ≤ c) : Sm (.list ds) (k + 1) c := by
  refine ⟨by simp only [PyData.showable]; exact sm_shs h, ?_, ?_, sm_lys h⟩
  · have := sm_dps h
    show PyData.depthAll ds + 1 ≤ k + 1
    omega
  · have h1 := listText_le (PyData.shownAll ds)
    have h2 := sm_piled h hn
    simp only [PyData.shown]
    omega
theorem sm_tup {ds : List PyData} {k b n c : Nat} (h : ∀ d ∈ ds, Sm d k b) (hn : ds.length ≤ n) (hc : 3 + n * (b + 2) ≤ c) : Sm (.tuple ds) (k + 1) c := by
  refine ⟨by simp only [PyData.showable]; exact sm_shs h, ?_, ?_, sm_lys h⟩
  · have := sm_dps h
    show PyData.depthAll ds + 1 ≤ k + 1
    omega
  · have h1 := tupleText_le (PyData.shownAll ds)
    have h2 := sm_piled h hn
    simp only [PyData.shown]
    omega
end Dz

set_option Elab.async false
set_option linter.all false
set_option maxRecDepth 100000
set_option maxHeartbeats 4000000
namespace Cs
open PySem PySem.Spec PyProof.Rows L2 BX EXB Co Ru
open Dz
open Fr (Bd)
def itemsD : PyData → List PyData
  | .list ds => ds
  | _ => []
def spWholeZ (K : PySem.W.Frag) : Sp := fun vs H Q _ => ∃ (ex : Addr → Prop) (v : V) (d : PyData), vs = [v] ∧ Dz.Dz K H ex v d ∧ Q (.bl (isI d)) H
def spIsRZ (K : PySem.W.Frag) : Sp := fun vs H Q _ => ∃ (ex : Addr → Prop) (v : V) (d : PyData), vs = [v] ∧ Dz.Dz K H ex v d ∧ Q (.bl (ratD d).isSome) H
def spShareZ (K : PySem.W.Frag) : Sp := fun vs H Q _ => ∃ (ex : Addr → Prop) (v : V) (d : PyData), vs = [v] ∧ Dz.Dz K H ex v d ∧ Q (.bl (shD d)) H
def spListOfZ (K : PySem.W.Frag) : Sp := fun vs H Q _ => ∃ (ex : Addr → Prop) (v : V) (d : PyData) (lo hi : Int), vs = [v, .int lo, .int hi] ∧ Dz.Dz K H ex v d ∧ Q (.bl (lenOk (lenD d) lo hi)) H
def rowOkZ (d : PyData) (lo hi : Int) : Bool := lenOk (lenD d) lo hi && (itemsD d).all fun e => (ratD e).isSome
def firstWrongZ : List PyData → Nat → Int → Int → Option Nat
  | [], _, _, _ => none
  | d :: ds, j, lo, hi => if rowOkZ d lo hi = true then firstWrongZ ds (j + 1) ((itemsD d).length : Int) ((itemsD d).length : Int) else some j
theorem firstWrongZ_drop {ds : List PyData} {i : Nat} {d : PyData} {lo hi : Int} (h : ds[i]? = some d) : firstWrongZ (ds.drop i) i lo hi = if rowOkZ d lo hi = true then firstWrongZ (ds.drop (i + 1)) (i + 1) ((itemsD d).length : Int) ((itemsD d).length : Int) else some i := by
  have hi' : i < ds.length := (List.getElem?_eq_some_iff.mp h).1
  have e : ds[i] = d := (List.getElem?_eq_some_iff.mp h).2
  rw [List.drop_eq_getElem_cons hi', e, firstWrongZ]
def spRowZ (K : PySem.W.Frag) : Sp := fun vs H Q _ => ∃ (ex : Addr → Prop) (v : V) (d : PyData) (lo hi : Int), vs = [v, .int lo, .int hi] ∧ Dz.Dz K H ex v d ∧ hi ≤ 6 ∧ ∀ H', Same H H' → Q (.bl (rowOkZ d lo hi)) H'
def optI : Option Nat → V
  | none => .non
  | some j => .int (j : Nat)
def spWrongZ (K : PySem.W.Frag) (fR : Addr) : Sp := fun vs H Q _ => ∃ (ex : Addr → Prop) (a : Addr) (rs : List V) (ds : List PyData) (lo hi : Int), vs = [.ref a, .ref fR, .int lo, .int hi] ∧ H a = some (.lst rs) ∧ DzA K H ex rs ds ∧ hi ≤ 6 ∧ ∀ H', Same H H' → Q (optI (firstWrongZ ds 0 lo hi)) H'
def firstNot (p : PyData → Bool) : List PyData → Nat → Option Nat
  | [], _ => none
  | d :: ds, j => if p d = true then firstNot p ds (j + 1) else some j
theorem firstNot_drop {p : PyData → Bool} {ds : List PyData} {i : Nat} {d : PyData} (h : ds[i]? = some d) : firstNot p (ds.drop i) i = if p d = true then firstNot p (ds.drop (i + 1)) (i + 1) else some i := by
  have hi' : i < ds.length := (List.getElem?_eq_some_iff.mp h).1
  have e : ds[i] = d := (List.getElem?_eq_some_iff.mp h).2
  rw [List.drop_eq_getElem_cons hi', e, firstNot]
theorem firstNot_all {p : PyData → Bool} : ∀ {ds : List PyData} {j : Nat}, firstNot p ds j = none → ds.all p = true
  | [], _, _ => rfl
  | d :: ds, j, h => by
    rw [firstNot] at h
    split at h
    · rename_i c
      rw [List.all_cons, c, firstNot_all h]
      rfl
    · cases h
def numS : Option Nat → Rat → Option V
  | some j, _ => some (.int (j : Nat))
  | none, s => if s = 1 then none else some .non
/-- what is wrong with shares: its number -/
def badS (d : PyData) : Option V := if lenOk (lenD d) 1 5 = true then numS (firstNot shD (itemsD d) 0) (sumD (itemsD d)) else some .non
def badG (d : PyData) (ww lo hi : Int) : Option V := if lenOk (lenD d) ww ww = true then (firstWrongZ (itemsD d) 0 lo hi).map fun j => V.int (j : Nat) else some .non
def deedsD (d : PyData) : Nat := (itemsD ((itemsD d).headD .none)).length
def orP (p : Str) (o : Option V) (r : Option (Str × V)) : Option (Str × V) :=
  match o with
  | some n => some (p, n)
  | none => r
def badC (ds dh dt : PyData) : Option (Str × V) := orP "shares" (badS ds) (orP "hearer" (badG dh ((itemsD ds).length : Int) 1 6) (orP "teller" (badG dt ((itemsD ds).length : Int) (deedsD dh : Int) (deedsD dh : Int)) none))
/-- fractions of few figures -/
def Few (n : Nat) (ds : List PyData) : Prop := ∀ d ∈ ds, ∀ q, ratD d = some q → Bd n q
def spChkS (K : PySem.W.Frag) (CN : Addr) : Sp := fun vs H Q E => ∃ (ex : Addr → Prop) (v : V) (d : PyData), vs = [v] ∧ Dz.Dz K H ex v d ∧ Few 1000 (itemsD d) ∧
  (∀ r, badS d = some r → ∀ H' dd, Same H H' → H' dd = some (.xd [("number", r), ("part", .str "shares")]) → E (.ref CN) (some dd) H') ∧ (badS d = none → ∀ H', Same H H' → Q .non H')
def spChkG (K : PySem.W.Frag) (CN : Addr) : Sp := fun vs H Q E => ∃ (ex : Addr → Prop) (pt : Str) (v : V) (d : PyData) (ww lo hi : Int), vs = [.str pt, v, .int ww, .int lo, .int hi] ∧ Dz.Dz K H ex v d ∧ hi ≤ 6 ∧
  (∀ r, badG d ww lo hi = some r → ∀ H' dd, Same H H' → H' dd = some (.xd [("number", r), ("part", .str pt)]) → E (.ref CN) (some dd) H') ∧ (badG d ww lo hi = none → ∀ H', Same H H' → Q .non H')
/-- a case that stands -/
def IsCase (K : PySem.W.Frag) (H : Hp) (C x : Addr) (qs : List Rat) (hss tss : List (List Rat)) (n : Nat) : Prop := ∃ (dx sa ha ta : Addr) (cs : List V) (rh rt : List Addr), H x = some (.ins C dx [("own_shares", .ref sa), ("own_hearer", .ref ha), ("own_teller", .ref ta)]) ∧ H sa = some (.lst cs) ∧ FrN K H n cs qs ∧ RwL K H ha rh hss n ∧ RwL K H ta rt tss n
theorem IsCase.same {K : PySem.W.Frag} {H H' : Hp} {C x : Addr} {qs : List Rat} {hss tss : List (List Rat)} {n : Nat} (h : IsCase K H C x qs hss tss n) (s : Same H H') : IsCase K H' C x qs hss tss n :=
  let ⟨dx, sa, ha, ta, cs, rh, rt, e1, e2, e3, e4, e5⟩ := h; ⟨dx, sa, ha, ta, cs, rh, rt, s _ _ e1, s _ _ e2, e3.same s, e4.same s, e5.same s⟩
abbrev dS (qs : List Rat) : PyData := .list (qs.map dR)
/-- good parts of a case -/
structure GoodC (qs : List Rat) (hss tss : List (List Rat)) (ww dd : Nat) : Prop where
  w1 : 1 ≤ ww
  w5 : ww ≤ 5
  d1 : 1 ≤ dd
  d6 : dd ≤ 6
  sh : RowOk ww qs
  hl : hss.length = ww
  tl : tss.length = ww
  hr : ∀ r ∈ hss, r.length = dd
  tr : ∀ r ∈ tss, r.length = dd
theorem lenOk_iff {n : Nat} {lo hi : Int} : lenOk (some n) lo hi = true ↔ lo ≤ (n : Int) ∧ (n : Int) ≤ hi := by
  show (decide _ && decide _) = true ↔ _
  rw [Bool.and_eq_true, decide_eq_true_eq, decide_eq_true_eq]
theorem lenOk_list {d : PyData} {lo hi : Int} (h : lenOk (lenD d) lo hi = true) : ∃ ds, d = .list ds ∧ lo ≤ (ds.length : Int) ∧ (ds.length : Int) ≤ hi := by
  cases d with
  | list ds => exact ⟨ds, rfl, lenOk_iff.mp h⟩
  | _ => cases h
theorem all_dR (qs : List Rat) : (qs.map dR).all (fun e => (ratD e).isSome) = true := by
  rw [List.all_eq_true]
  intro d hd
  obtain ⟨q, _, rfl⟩ := List.mem_map.mp hd
  rw [ratD_dR]
  rfl
theorem shD_dR (q : Rat) : shD (dR q) = decide (0 ≤ q.num) := by
  unfold shD
  rw [ratD_dR]
theorem sumD_dR (qs : List Rat) : sumD (qs.map dR) = qs.sum := by
  unfold sumD
  rw [List.map_map]
  congr 1
  have : ((fun d => (ratD d).getD 0) ∘ dR) = id := by
    funext q
    show (ratD (dR q)).getD 0 = q
    rw [ratD_dR]
    rfl
  rw [this, List.map_id]
theorem firstNot_good {qs : List Rat} (h : ∀ q ∈ qs, 0 ≤ q) : ∀ {j : Nat}, firstNot shD (qs.map dR) j = none := by
  induction qs with
  | nil => intro j; rfl
  | cons q qs ih =>
    intro j
    show firstNot shD (dR q :: qs.map dR) j = none
    rw [firstNot, if_pos (by rw [shD_dR]; exact decide_eq_true (Rat.num_nonneg.mpr (h q (List.mem_cons_self ..))))]
    exact ih fun x hx => h x (List.mem_cons_of_mem _ hx)
theorem badS_good {qs : List Rat} {ww : Nat} (h : RowOk ww qs) (h1 : 1 ≤ ww) (h5 : ww ≤ 5) : badS (dS qs) = none := by
  unfold badS
  have e : lenOk (lenD (dS qs)) 1 5 = true := lenOk_iff.mpr (by rw [List.length_map, h.1]; omega)
  rw [if_pos e]
  show numS (firstNot shD (qs.map dR) 0) (sumD (qs.map dR)) = none
  rw [firstNot_good h.2.1, sumD_dR, h.2.2]
  rfl
theorem fwz_good {dd : Nat} : ∀ (rss : List (List Rat)) (j : Nat) (lo hi : Int), (∀ r ∈ rss, r.length = dd) → lo ≤ (dd : Int) → (dd : Int) ≤ hi → firstWrongZ (rss.map fun qs => .list (qs.map dR)) j lo hi = none
  | [], _, _, _, _, _, _ => rfl
  | q :: rss, j, lo, hi, h, h1, h2 => by
    have hq := h q (List.mem_cons_self ..)
    have c : rowOkZ (.list (q.map dR)) lo hi = true := by
      unfold rowOkZ
      have e : lenOk (lenD (.list (q.map dR))) lo hi = true := lenOk_iff.mpr (by rw [List.length_map, hq]; exact ⟨h1, h2⟩)
      rw [e]
      exact all_dR q
    show firstWrongZ (.list (q.map dR) :: rss.map fun qs => .list (qs.map dR)) j lo hi = none
    rw [firstWrongZ, if_pos c]
    have e : ((itemsD (.list (q.map dR))).length : Int) = (dd : Int) := by
      show ((q.map dR).length : Int) = _
      rw [List.length_map, hq]
    rw [e]
    exact fwz_good rss _ _ _ (fun r hr => h r (List.mem_cons_of_mem _ hr)) (Int.le_refl _) (Int.le_refl _)
theorem badG_good {rss : List (List Rat)} {ww dd : Nat} {lo hi : Int} (hl : rss.length = ww) (hr : ∀ r ∈ rss, r.length = dd) (h1 : lo ≤ (dd : Int)) (h2 : (dd : Int) ≤ hi) : badG (dRows rss) (ww : Int) lo hi = none := by
  unfold badG
  have e : lenOk (lenD (dRows rss)) (ww : Int) (ww : Int) = true := lenOk_iff.mpr (by rw [List.length_map, hl]; omega)
  rw [if_pos e]
  show (firstWrongZ (rss.map fun qs => .list (qs.map dR)) 0 lo hi).map _ = none
  rw [fwz_good rss 0 lo hi hr h1 h2]
  rfl
theorem badC_good {qs : List Rat} {hss tss : List (List Rat)} {ww dd : Nat} (g : GoodC qs hss tss ww dd) : badC (dS qs) (dRows hss) (dRows tss) = none := by
  have e0 := badS_good g.sh g.w1 g.w5
  have el : ((itemsD (dS qs)).length : Int) = (ww : Int) := by
    show ((qs.map dR).length : Int) = _
    rw [List.length_map, g.sh.1]
  have ed : deedsD (dRows hss) = dd := by
    have := g.w1
    have := g.hl
    cases hss with
    | nil => simp at this; omega
    | cons r hss =>
      show (r.map dR).length = dd
      rw [List.length_map]
      exact g.hr r (List.mem_cons_self ..)
  have h1 := g.d1
  have h6 := g.d6
  unfold badC
  rw [e0]
  rw [el, badG_good g.hl g.hr (by omega) (by omega), ed, badG_good g.tl g.tr (Int.le_refl _) (Int.le_refl _)]
  rfl
/-- rows that are let by are rows of fractions -/
theorem rows_of {K : PySem.W.Frag} {H : Hp} {ex : Addr → Prop} {n : Nat} : ∀ {ds : List PyData} {vs : List V} {j : Nat} {lo hi : Int}, DzA K H ex vs ds → (∀ d ∈ ds, Few n (itemsD d)) → firstWrongZ ds j lo hi = none → ∃ rs rss, vs = rs.map V.ref ∧ ds = rss.map (fun qs => PyData.list (qs.map dR)) ∧ RowsAt K H n rs rss
  | [], _, _, _, _, h, _, _ => by cases h; exact ⟨[], [], rfl, rfl, RowsAt.nil⟩
  | d :: ds, _, j, lo, hi, h, hf, e => by
    cases h with
    | @cons v vs _ _ h t =>
      rw [firstWrongZ] at e
      split at e
      · rename_i c
        obtain ⟨rs, rss, e1, e2, e3⟩ := rows_of t (fun x hx => hf x (List.mem_cons_of_mem _ hx)) e
        unfold rowOkZ at c
        rw [Bool.and_eq_true] at c
        obtain ⟨es, rfl, _, _⟩ := lenOk_list c.1
        cases h with
        | @lst a cs _ h hn ts =>
          obtain ⟨qs, f1, f2⟩ := ts.rats (n := n) (hf _ (List.mem_cons_self ..)) c.2
          refine ⟨a :: rs, qs :: rss, by rw [e1]; rfl, by rw [e2, f1]; rfl, ⟨by rw [List.length_cons, List.length_cons, e3.1], fun j x e => ?_⟩⟩
          cases j with
          | zero => cases (Option.some.inj e); exact ⟨cs, qs, rfl, h, f2⟩
          | succ j => exact e3.2 j x e
      · cases e
/-- Case(shares, hearer, teller), of any things -/
def spCInit (K : PySem.W.Frag) (C CN : Addr) : Sp := fun vs H Q E => ∃ (ex : Addr → Prop) (n : Nat) (x dx : Addr) (vs0 vh vt : V) (ds dh dt : PyData), vs = [.ref x, vs0, vh, vt] ∧ H x = some (.ins C dx []) ∧ Dz.Dz K H ex vs0 ds ∧ Dz.Dz K H ex vh dh ∧ Dz.Dz K H ex vt dt ∧
  n ≤ 1000 ∧ Few n (itemsD ds) ∧ (∀ d ∈ itemsD dh, Few n (itemsD d)) ∧ (∀ d ∈ itemsD dt, Few n (itemsD d)) ∧
  (∀ p r, badC ds dh dt = some (p, r) → ∀ H' dd, Same H H' → H' dd = some (.xd [("number", r), ("part", .str p)]) → E (.ref CN) (some dd) H') ∧
  (badC ds dh dt = none → ∀ sa ha ta cs rh rt qs hss tss H', (∀ b ob, b ≠ x → H b = some ob → H' b = some ob) → H' x = some (.ins C dx [("own_shares", .ref sa), ("own_hearer", .ref ha), ("own_teller", .ref ta)]) → H' sa = some (.lst cs) → FrN K H' n cs qs → RwL K H' ha rh hss n → RwL K H' ta rt tss n →
    ds = dS qs → dh = dRows hss → dt = dRows tss → Q .non H')
end Cs

set_option Elab.async false
set_option linter.all false
set_option maxRecDepth 100000
set_option maxHeartbeats 4000000
namespace Lw
open PySem PySem.Spec PyProof.Rows L2 BX EXB Co Ru
open Dz Cs
open Fr (Bd)
def spGain (K : PySem.W.Frag) : Sp := fun vs H Q _ => ∃ (l : Addr) (z : Int), vs = [.ref l] ∧ H l = some (.lst [.int z]) ∧ ∀ p q z' H', SameB l H H' → H' l = some (.lst [.int z']) → SqT K H' p (rp q) → Bd 8 q → Q (.ref p) H'
def spGains (K : PySem.W.Frag) : Sp := fun vs H Q _ => ∃ (l : Addr) (z : Int) (ww dd : Nat), vs = [.ref l, .int (ww : Int), .int (dd : Int)] ∧ H l = some (.lst [.int z]) ∧ ww ≤ 5 ∧ dd ≤ 6 ∧
  ∀ D rs rss z' H', New K H H' l D rs rss 8 → D ≠ l → H' l = some (.lst [.int z']) → rss.length = ww → (∀ r ∈ rss, r.length = dd) → Q (.ref D) H'
/-- the law's parts of a case -/
def PartsAt (K : PySem.W.Frag) (H : Hp) (P : Addr) (qs : List Rat) (hss tss : List (List Rat)) : Prop := ∃ (A B C : Addr) (cs : List V) (rh rt : List Addr), H P = some (.lst [.ref A, .ref B, .ref C]) ∧ H A = some (.lst cs) ∧ FrN K H 8 cs qs ∧ RwL K H B rh hss 8 ∧ RwL K H C rt tss 8
theorem PartsAt.same {K : PySem.W.Frag} {H H' : Hp} {P : Addr} {qs : List Rat} {hss tss : List (List Rat)} (h : PartsAt K H P qs hss tss) (s : Same H H') : PartsAt K H' P qs hss tss :=
  let ⟨A, B, C, cs, rh, rt, e1, e2, e3, e4, e5⟩ := h; ⟨A, B, C, cs, rh, rt, s _ _ e1, s _ _ e2, e3.same s, e4.same s, e5.same s⟩
theorem frn_num {K : PySem.W.Frag} {H : Hp} {n : Nat} {z : Int} {qs : List Rat} (h : FrN K H n [.int z] qs) : False := by
  obtain ⟨a, q, _, e, _⟩ := h.at_ 0 _ rfl
  cases e
theorem PartsAt.but {K : PySem.W.Frag} {H H' : Hp} {P l : Addr} {z : Int} {qs : List Rat} {hss tss : List (List Rat)} (h : PartsAt K H P qs hss tss) (hl : H l = some (.lst [.int z])) (s : SameB l H H') : PartsAt K H' P qs hss tss := by
  obtain ⟨A, B, C, cs, rh, rt, e1, e2, e3, e4, e5⟩ := h
  refine ⟨A, B, C, cs, rh, rt, s _ _ (fun e => ?_) e1, s _ _ (fun e => ?_) e2, e3.keep (s.tup hl), Rs.RwL.keepB e4 hl s, Rs.RwL.keepB e5 hl s⟩
  · rw [e, hl] at e1
    cases e1
  · rw [e, hl] at e2
    cases e2
    exact frn_num e3
def spParts (K : PySem.W.Frag) : Sp := fun vs H Q _ => ∃ (l : Addr) (z : Int) (mw md : Nat), vs = [.ref l, .int (mw : Int), .int (md : Int)] ∧ H l = some (.lst [.int z]) ∧ 1 ≤ mw ∧ mw ≤ 5 ∧ 1 ≤ md ∧ md ≤ 6 ∧
  ∀ P qs hss tss ww dd z' H', SameB l H H' → H' l = some (.lst [.int z']) → PartsAt K H' P qs hss tss → GoodC qs hss tss ww dd → ww ≤ mw → dd ≤ md → H P = none → P ≠ l → Q (.ref P) H'
theorem bd_one : Bd 8 (1 : Rat) := ⟨by decide, by decide⟩
theorem bd_nul : Bd 8 (0 : Rat) := ⟨by decide, by decide⟩
theorem tab5 {d : Int} (h0 : 0 ≤ d) (h5 : d < 5) : ∃ v : Int, atI [V.int 1, V.int 1, V.int 1, V.int 2, V.int 3] d = some (V.int v) ∧ 1 ≤ v ∧ v ≤ 3 := by
  have : d = 0 ∨ d = 1 ∨ d = 2 ∨ d = 3 ∨ d = 4 := by omega
  rcases this with rfl | rfl | rfl | rfl | rfl
  · exact ⟨1, atI_nat (j := 0) rfl, by decide, by decide⟩
  · exact ⟨1, atI_nat (j := 1) rfl, by decide, by decide⟩
  · exact ⟨1, atI_nat (j := 2) rfl, by decide, by decide⟩
  · exact ⟨2, atI_nat (j := 3) rfl, by decide, by decide⟩
  · exact ⟨3, atI_nat (j := 4) rfl, by decide, by decide⟩
end Lw

set_option Elab.async false
set_option linter.all false
set_option maxRecDepth 100000
set_option maxHeartbeats 4000000
namespace BX
open PySem PySem.Spec PyProof.Rows L2
def tMethD (C : Addr) (m : Str) (sp : Sp) (dvs : List V) (E : L2.St → XK) (ta : TE) (t : TA) : TE := fun σ H Q => ta σ H fun x H1 => ∃ a dx fs, x = .ref a ∧ H1 a = some (.ins C dx fs) ∧ fs.lookup m = none ∧ t σ H1 fun vs H2 => sp (x :: (vs ++ dvs)) H2 Q (E σ)
section
variable {X : Cx} {CX : CXT} {k : Nat} {f C : Addr} {fd : FuncData} {ps : List Str} {sp : Sp} {E : L2.St → XK} {m : Str} {apos pos : Pos} {o e : Expr} {es : List Expr} {ta : TE} {t : TA} {ds : List Value} {dvs : List V}
/-- o.m(e, ..), what it raises being wished for at the caller's slots -/
theorem pe_methD {pl : Sem Bool} (c : Cls X.K C) (hm : Meth X.K C m f) (F : FnOk X.prog X.w X.K X.mg X.base CX k f fd ps sp) (hr : Room k X.A) (hb : Binds X.K fd ps ds) (hd : Vals dvs ds) (hx : ∀ σ, PassesAt CX X σ (E σ)) (he : PE X o ta) (ha : PA X (e :: es) t) (hst : starEach (e :: es) X.env = (false, eval e X.env) :: starEach es X.env := by rfl) (hpl : (backTo pos (starEach es X.env)).any (·.1) = false := by rfl)
    (ht : eval (.Call (.Attribute o m apos) (e :: es) [] pos) X.env = (do let ov ← eval o X.env; standAt apos.atName; let (f, first) ← holding [ov] (getMethod ov m pl); callWith pos f first (backTo pos (starEach (e :: es) X.env)) (backToKw pos (keywordEach [] X.env))) := by rfl) :
    PE X (.Call (.Attribute o m apos) (e :: es) [] pos) (tMethD C m sp dvs E ta t) := by
  refine ⟨fun pins s σ H Q I h => ?_⟩
  refine PySem.W.methodCall_KW (pl := pl) (thn (he.run pins s σ H _ I h) fun u s1 ⟨x, H1, I1, rx, a, dx, fs, ex, ea, l, q⟩ => ?_) ht
  subst ex
  obtain rfl : u = Value.ref a := rx
  refine getmeth_ok I1 ea c hm l ?_
  refine PySem.W.callWith_K (first := [.ref a]) (h₀ := X.base) I.ok.mod.kin hm.kp (thn (ha.run pos pins s1 σ H1 _ I1 q) fun us s2 ⟨vs, H2, I2, r, q2⟩ => ⟨I2.kIn, ?_⟩) hst hpl
  have r2 : Vals (V.ref a :: (vs ++ dvs)) (Value.ref a :: (us ++ ds)) := .cons rfl (r.append hd)
  have hl : (Value.ref a :: us ++ ds).length = ps.length := by
    have z := r2.length
    rw [F.len _ _ _ _ q2] at z
    exact z.symm
  refine wpAny_call (codeAny_mono (F.run X.A X.stack s2 H2 ⟨Value.ref a :: us, []⟩ (Value.ref a :: (us ++ ds)) _ Q (E σ) hr I2.env0 (hb s2 (Value.ref a :: us) I2.kIn hl) r2 q2) fun r s' hq => ?_)
  cases r with
  | error er => exact hx σ pins _ _ er s' I2 hq
  | ok fl =>
    cases fl with
    | ret u => exact I2.after hq
    | next => exact False.elim hq
    | brk => exact False.elim hq
    | cont => exact False.elim hq
end
end BX

set_option Elab.async false
set_option linter.all false
set_option maxRecDepth 100000
set_option maxHeartbeats 8000000
namespace K5
open PySem PySem.Spec PyProof.Rows L2 BX EXB Co Ru
open Dz Cs
open Rs (Rsp Rv Ret tYes_of dV datR Flat Okr spShares spRowsL spTotal spCopied eqv_dR)
open Fr (Bd)
def topS (i : Nat) : Stmt := PySem.Challenge.pw_besttelling_k05_what_makes_a_case.main.body.getD i (.Pass ⟨0, 0, 0, 0⟩)
abbrev sNcInit : Stmt := inClass (topS 1) 0
abbrev sWhole : Stmt := topS 3
abbrev sIsR : Stmt := topS 4
abbrev sPlus : Stmt := topS 5
abbrev sTotal : Stmt := topS 6
abbrev sLowest : Stmt := topS 7
abbrev sDiv : Stmt := topS 8
abbrev sListOf : Stmt := topS 12
abbrev sShare : Stmt := topS 13
abbrev sRRow : Stmt := topS 14
abbrev sWrong : Stmt := topS 15
abbrev sCopied : Stmt := topS 16
abbrev sCInit : Stmt := inClass (topS 18) 0
abbrev sCWorlds : Stmt := inClass (topS 18) 1
abbrev sCDeeds : Stmt := inClass (topS 18) 2
abbrev sCShares : Stmt := inClass (topS 18) 3
abbrev sCHearer : Stmt := inClass (topS 18) 4
abbrev sCTeller : Stmt := inClass (topS 18) 5
abbrev sCWith : Stmt := inClass (topS 18) 6
abbrev sCLen : Stmt := inClass (topS 18) 7
abbrev sCEq : Stmt := inClass (topS 18) 8
abbrev sCStr : Stmt := inClass (topS 18) 9
abbrev sCRepr : Stmt := inClass (topS 18) 10
abbrev sChkS : Stmt := topS 19
abbrev sChkG : Stmt := topS 20
abbrev sLeft : Stmt := topS 22
abbrev sDigit : Stmt := topS 23
abbrev sLow : Stmt := topS 24
abbrev sLPlus : Stmt := topS 25
abbrev sLLess : Stmt := topS 26
abbrev sLTimes : Stmt := topS 27
abbrev sLUnder : Stmt := topS 28
abbrev sShares : Stmt := topS 29
abbrev sGain : Stmt := topS 30
abbrev sGains : Stmt := topS 31
abbrev sParts : Stmt := topS 32
abbrev sLWhole : Stmt := topS 33
abbrev sLIsR : Stmt := topS 34
abbrev sShDue : Stmt := topS 35
abbrev sDue : Stmt := topS 36
abbrev sBent : Stmt := topS 37
abbrev sTold : Stmt := topS 38
abbrev sToldW : Stmt := topS 39
abbrev sLaw : Stmt := topS 40
structure NcT (K : PySem.W.Frag) (mg : Str → Option Value) (C fI : Addr) : Prop where
  g : mg "NoCase" = some (.ref C)
  i : PySem.W.findIn K (.ref C) "__init__" = some (some (.ref fI))
  t : PySem.W.typeIn K (.ref fI) = some (.type "function")
  xf : XfC K C
  ex : ExcC K C
  o : OexC K C
  n1 : PySem.W.findIn K (.ref C) "part" = some none
  n2 : PySem.W.findIn K (.ref C) "number" = some none
  vV : PySem.W.findCls K (.type "ValueError") (.type "type") "__init__" = some (.val (.builtin "ValueError.__init__"))
  nn : PySem.W.exmOne K (.ref C) (.ref C) = some true
  kV : PySem.W.kitOne K (.ref C) (.type "ValueError") = some true
structure CaT (K : PySem.W.Frag) (mg : Str → Option Value) (C fI : Addr) : Prop where
  cl : Cls K C
  gC : mg "Case" = some (.ref C)
  n1 : NoAttr K C "own_shares"
  n2 : NoAttr K C "own_hearer"
  n3 : NoAttr K C "own_teller"
  mkC : Mk K C fI
  g5 : ∃ t, mg "MOST_WORLDS" = some (.int 5 t)
  g6 : ∃ t, mg "MOST_DEEDS" = some (.int 6 t)
section
variable {P : Program} {w : World} {K : PySem.W.Frag} {mg : Str → Option Value} {base : Heap}
theorem scDiv : FnScope ["one", "other"] ["one", "other"] (defScope sDiv) := ⟨rfl, rfl, rfl, by decide +kernel, rfl, by decide +kernel, by decide +kernel⟩
theorem ok_div {f : Addr} {fd : FuncData} {k : Nat} (F : Fun K "divisor" "divisor" sDiv f fd) (B : Blt mg) : FnOk P w K mg base CX0 (k + 1) f fd ["one", "other"] spDiv := by
  refine F.ok scDiv (fun vs H Q E h => ?_) (fun cdv A outer s H vs Q E hr h => ?_)
  · obtain ⟨a, b, rfl, _⟩ := h
    rfl
  · obtain ⟨a, b, rfl, q⟩ := h
    refine ⟨_, pss_cons (ps_while PassesOwn.never (pt_cmpR op_ne (pv 1) pe_int (nomark _))
        (pss_one (ps_par (i := 0) (j := 1) (by rfl) scDiv.nd rfl rfl (by decide) rfl rfl (pa_cons (pv 1) (pa_cons (pe_op op_modN (pv 0) (pv 1)) pa_nil)) (by rfl))))
      (pss_one (ps_ret (pe_callB call_abs (by rfl) B.abs_ (by decide +kernel) (pa_cons (pv 0) pa_nil)))), ?_⟩
    refine ⟨fun m σ H' => ∃ x y : Int, σ = [some (.int x), some (.int y)] ∧ m = y.natAbs ∧ Int.gcd x y = Int.gcd a b ∧ H' = H, ⟨_, a, b, rfl, rfl, rfl, rfl⟩, ?_⟩
    rintro m σ H' ⟨x, y, rfl, rfl, hg, rfl⟩
    refine ⟨.int y, rfl, rfl, _, rfl, ite2 (fun c => ?_) (fun c => ?_)⟩
    · have hy : y ≠ 0 := fun e => by
        subst e
        exact absurd c (by decide)
      refine ⟨fun σ' H'' => ∃ x' y' : Int, σ' = [some (.int x'), some (.int y')] ∧ y'.natAbs < y.natAbs ∧ Int.gcd x' y' = Int.gcd a b ∧ H'' = H', ?_, ?_⟩
      · rintro σ' H'' ⟨x', y', e1, e2, e3, e4⟩
        exact ⟨y'.natAbs, e2, x', y', e1, rfl, e3, e4⟩
      · refine ⟨.int y, rfl, .int x, rfl, .int y, rfl, x, y, rfl, rfl, hy, _, _, rfl, y, _, rfl, Fr.fmod_abs x hy, ?_, rfl⟩
        rw [Fr.gcd_step]
        exact hg
    · have hy : y = 0 := by
        by_cases e : y = 0
        · exact e
        · exact absurd (by simp [e]) c
      subst hy
      rw [Int.gcd_zero_right] at hg
      refine ⟨.int x, rfl, x, rfl, ?_⟩
      have e : (if x < 0 then -x else x) = (Int.gcd a b : Int) := by
        rw [← hg]
        split <;> omega
      rw [e]
      exact q
theorem scLowest : FnScope ["top", "bottom", "by"] ["top", "bottom"] (defScope sLowest) := ⟨rfl, rfl, rfl, by decide +kernel, rfl, by decide +kernel, by decide +kernel⟩
theorem ok_lowest {f fD : Addr} {fd fdD : FuncData} {k : Nat} (F : Fun K "lowest" "lowest" sLowest f fd) (GD : FnOk P w K mg base CX0 k fD fdD ["one", "other"] spDiv) (kD : PySem.W.keepIn K (.ref fD) = true) (bD : Binds K fdD ["one", "other"] []) (gD : mg "divisor" = some (.ref fD)) : FnOk P w K mg base CX0 (k + 1) f fd ["top", "bottom"] spLow := by
  refine F.ok scLowest (fun vs H Q E h => ?_) (fun cdv A outer s H vs Q E hr h => ?_)
  · obtain ⟨a, b, n, rfl, _⟩ := h
    rfl
  · obtain ⟨t, b, n, rfl, ht, hb, h0, hn, q⟩ := h
    refine ⟨_, pss_cons (ps_set (i := 2) scLowest.nd rfl (.inl rfl) (pe_call GD hr (by rfl) gD kD bD .nil pass0 (pa_cons (pv 0) (pa_cons (pv 1) pa_nil))))
      (pss_cons (ps_if (pt_cmpR op_lt (pv 1) pe_int (nomark _)) (pss_one (ps_set (i := 2) scLowest.nd rfl (.inl rfl) (pe_un un_neg (pv 2)))) pss_nil)
      (pss_one (ps_ret (pe_tup (pa_cons (pe_op op_fdivZ (pv 0) (pv 2)) (pa_cons (pe_op op_fdivZ (pv 1) (pv 2)) pa_nil)))))), ?_⟩
    have hg := Fr.gcd_pos (t := t) h0
    have hgb := gcd_bd (t := t) h0 hb
    have hn0 : 0 < n := by
      cases n with
      | zero => simp at hb; omega
      | succ n => omega
    refine ⟨_, rfl, _, rfl, t, b, rfl, ?_⟩
    refine ⟨_, rfl, b, 0, rfl, rfl, _, rfl, ite2 (fun c => ?_) (fun c => ?_)⟩
    · have hb0 : b < 0 := of_decide_eq_true c
      refine ⟨_, rfl, _, rfl, ?_⟩
      have d : ∀ i : Int, CDivZ i (-(Int.gcd t b : Int)) := fun i => divZ (n := n) (by omega) (by rw [Int.natAbs_neg]; exact hgb) hn0 (by omega)
      refine ⟨_, rfl, _, rfl, t, _, rfl, rfl, d _, _, rfl, _, rfl, b, _, rfl, rfl, d _, (by show 2 ≤ sizeLine; decide), fun p hp => ?_⟩
      have z := q p hp
      rw [rp, ← Fr.lowN_num hb0, ← Fr.lowN_den hb0] at z
      exact z
    · have hb0 : 0 < b := by
        have : ¬ b < 0 := of_decide_eq_false (Bool.eq_false_iff.mpr c)
        omega
      have d : ∀ i : Int, CDivZ i (Int.gcd t b : Int) := fun i => divZ (n := n) (by omega) hgb hn0 (by omega)
      refine ⟨_, rfl, _, rfl, t, _, rfl, rfl, d _, _, rfl, _, rfl, b, _, rfl, rfl, d _, (by show 2 ≤ sizeLine; decide), fun p hp => ?_⟩
      have z := q p hp
      rw [rp, ← Fr.low_num hb0, ← Fr.low_den hb0] at z
      exact z

theorem scPlus : FnScope ["one", "other"] ["one", "other"] (defScope sPlus) := ⟨rfl, rfl, rfl, by decide +kernel, rfl, by decide +kernel, by decide +kernel⟩
theorem ok_Plus {f fC : Addr} {fd fdC : FuncData} {k : Nat} (F : Fun K "plus" "plus" sPlus f fd) (GC : FnOk P w K mg base CX0 k fC fdC ["top", "bottom"] spLow) (kC : PySem.W.keepIn K (.ref fC) = true) (bC : Binds K fdC ["top", "bottom"] []) (gC : mg "lowest" = some (.ref fC)) :
    FnOk P w K mg base CX0 (k + 1) f fd ["one", "other"] (spBin K (· + ·)) := by
  refine F.ok scPlus (fun vs H Q E h => ?_) (fun cdv A outer s H vs Q E hr h => ?_)
  · obtain ⟨a, b, x, y, n, m, rfl, _⟩ := h
    rfl
  · obtain ⟨a, b, x, y, n, m, rfl, hx, hy, bx, by_, hn, q⟩ := h
    refine ⟨_, pss_one (ps_ret (pe_call GC hr (by rfl) gC kC bC .nil pass0 (pa_cons (pe_op op_add (pe_op op_mulW (pe_ix ix_tup (pv 0) pe_int (fun _ _ => rfl)) (pe_ix ix_tup (pv 1) pe_int (fun _ _ => rfl))) (pe_op op_mulW (pe_ix ix_tup (pv 1) pe_int (fun _ _ => rfl)) (pe_ix ix_tup (pv 0) pe_int (fun _ _ => rfl)))) (pa_cons (pe_op op_mulW (pe_ix ix_tup (pv 0) pe_int (fun _ _ => rfl)) (pe_ix ix_tup (pv 1) pe_int (fun _ _ => rfl))) pa_nil)))), ?_⟩
    refine ⟨.ref a, rfl, a, rp x, 0, .int x.num, rfl, rfl, hx, at0 x, .ref b, rfl, b, rp y, 1, .int (y.den : Int), rfl, rfl, hy, at1 y, _, _, rfl, rfl, wmul bx.1 by_.dn (by omega), .ref b, rfl, b, rp y, 0, .int y.num, rfl, rfl, hy, at0 y, .ref a, rfl, a, rp x, 1, .int (x.den : Int), rfl, rfl, hx, at1 x, _, _, rfl, rfl, wmul by_.1 bx.dn (by omega), _, _, rfl, rfl, .ref a, rfl, a, rp x, 1, .int (x.den : Int), rfl, rfl, hx, at1 x, .ref b, rfl, b, rp y, 1, .int (y.den : Int), rfl, rfl, hy, at1 y, _, _, rfl, rfl, wmul bx.dn by_.dn (by omega), _, _, n + m + 1, rfl, Fr.add_bd (Fr.mul_bd bx.1 by_.dn) (by rw [Nat.add_comm n m]; exact Fr.mul_bd by_.1 bx.dn), Fr.up (Fr.mul_bd bx.dn by_.dn) (Nat.le_succ _), Fr.dd_ne x y, by omega, fun p hp => ?_⟩
    have z := q p hp
    rw [Fr.add_eq]
    exact z

theorem scTotal : FnScope ["some", "start", "whole", "one"] ["some", "start"] (defScope sTotal) := ⟨rfl, rfl, rfl, by decide +kernel, rfl, by decide +kernel, by decide +kernel⟩
theorem ok_Total {f fP : Addr} {fd fdP : FuncData} {k : Nat} (F : FunD K "total" "total" (defArgs sTotal) (defBody sTotal) (defScope sTotal) [.non] [] f fd) (GP : FnOk P w K mg base CX0 k fP fdP ["one", "other"] (spBin K (· + ·))) (kP : PySem.W.keepIn K (.ref fP) = true) (bP : Binds K fdP ["one", "other"] []) (gP : mg "plus" = some (.ref fP)) :
    FnOk P w K mg base CX0 (k + 1) f fd ["some", "start"] (spTotal K) := by
  refine F.ok scTotal (fun vs H Q E h => ?_) (fun cdv A outer s H vs Q E hr h => ?_)
  · obtain ⟨l, cs, qs, n, rfl, _⟩ := h
    rfl
  · obtain ⟨l, cs, qs, n, rfl, hl, hf, hn, q⟩ := h
    refine ⟨_, PSs.nox (pss_cons (ps_set (i := 2) scTotal.nd rfl (.inl rfl) (pe_ifExp (pt_cmpR op_isN (pv 1) pe_non (nomark _)) (pe_tup (pa_cons pe_int (pa_cons pe_int pa_nil))) (pv 1)))
      (pss_cons (ps_for PassesOwn.never rfl (pi_list (pv 0)) (pg_name (i := 3) scTotal.nd rfl (.inl rfl)) (pss_one (ps_set (i := 2) scTotal.nd rfl (.inl rfl) (pe_call GP hr (by rfl) gP kP bP .nil pass0 (pa_cons (pv 2) (pa_cons (pv 3) pa_nil))))))
      (pss_one (ps_ret (pv 2))))), ?_⟩
    refine ⟨_, rfl, rfl, _, rfl, iteT ⟨(by show 2 ≤ sizeLine; decide), fun p hp => ?_⟩⟩
    have s1 := same_new hp (.tup (rp 0))
    refine ⟨_, rfl, l, rfl, ⟨_, s1.seq hl⟩, for_list (K := K) (a := l) (xs := cs) (fun i σ H' => ∃ (c : Addr) (y : Option V), σ = [some (.ref l), some .non, some (.ref c), y] ∧ Same H H' ∧ SqT K H' c (rp (qs.take i).sum) ∧ Bd ((n + 1) * i + 1) (qs.take i).sum)
      ⟨p, none, rfl, s1, SqT.of upd_same, ⟨by show (0 : Int).natAbs < 2 ^ 1; decide, by show 1 < 2 ^ 1; decide⟩⟩ (fun i σ H' _ ⟨_, _, _, s5, _⟩ => s5.seq hl) ?_ ?_⟩
    · rintro i v σ H' hi ⟨c, y, rfl, s5, hc5, hb5⟩
      obtain ⟨a, z, e1, rfl, e3, e4⟩ := hf.at_ i v hi
      have hil : i < qs.length := by
        rw [← hf.len]
        exact (List.getElem?_eq_some_iff.mp hi).1
      have hm : (n + 1) * i + (n + 1) ≤ (n + 1) * qs.length := by
        have := Nat.mul_le_mul_left (n + 1) (Nat.succ_le_of_lt hil)
        rw [Nat.mul_succ] at this
        exact this
      refine ⟨_, rfl, _, rfl, c, a, _, z, _, n, rfl, hc5, seqT s5 e3, hb5, e4, by omega, fun p hp => ?_⟩
      refine ⟨p, _, rfl, s5.trans (same_new hp _), ?_, ?_⟩
      · rw [Rs.sum_snoc' e1]
        exact SqT.of upd_same
      · rw [Rs.sum_snoc' e1]
        exact (Fr.bd_add hb5 e4).mono (by rw [Nat.mul_succ]; omega)
    · rintro σ H' ⟨c, y, rfl, s5, hc5, _⟩
      rw [hf.len, List.take_length] at hc5
      exact ⟨_, rfl, q c H' s5 hc5⟩
theorem scWhole : FnScope ["thing"] ["thing"] (defScope sWhole) := ⟨rfl, rfl, rfl, by decide +kernel, rfl, by decide +kernel, by decide +kernel⟩
theorem ok_WholeZ {f  : Addr} {fd  : FuncData} {k : Nat} (F : Fun K "is_whole" "is_whole" sWhole f fd)  (B : Blt mg) : FnOk P w K mg base CX0 (k + 1) f fd ["thing"] (spWholeZ K) := by
  refine F.ok scWhole (fun vs H Q E h => ?_) (fun cdv A outer s H vs Q E hr h => ?_)
  · obtain ⟨ex, v, d, rfl, _⟩ := h
    rfl
  · obtain ⟨ex, v, d, rfl, hv, q⟩ := h
    refine ⟨_, (pss_one (ps_ret (pe_and (pe_callB call_isi (by rfl) B.isinstance_ (by decide +kernel) (pa_cons (pv 0) (pa_cons (pe_bltn (v := .ty "int") (by rfl) B.int_ (by decide +kernel) rfl) pa_nil))) (pe_one (pe_not (pe_callB call_isi (by rfl) B.isinstance_ (by decide +kernel) (pa_cons (pv 0) (pa_cons (pe_bltn (v := .ty "bool") (by rfl) B.bool_ (by decide +kernel) rfl) pa_nil)))))))), ?_⟩
    refine ⟨_, rfl, _, _, _, _, isIB d, rfl, .ty "int", hv.ty, kit_ty (kit_isIB d), _, rfl, ?_⟩
    cases d with
    | int i => exact iteT ⟨_, rfl, _, _, _, _, isB (.int i), rfl, .ty "bool", hv.ty, kit_ty (kit_isB _), _, rfl, q⟩
    | bool b => exact iteT ⟨_, rfl, _, _, _, _, isB (.bool b), rfl, .ty "bool", hv.ty, kit_ty (kit_isB _), _, rfl, q⟩
    | none => exact iteF q
    | str x => exact iteF q
    | list x => exact iteF q
    | tuple x => exact iteF q
    | dict x => exact iteF q
theorem scIsR : FnScope ["thing", "top", "bottom"] ["thing"] (defScope sIsR) := ⟨rfl, rfl, rfl, by decide +kernel, rfl, by decide +kernel, by decide +kernel⟩
theorem ok_IsRZ {f fW fD : Addr} {fd fdW fdD : FuncData} {k : Nat} (F : Fun K "is_ratio" "is_ratio" sIsR f fd) (GW : FnOk P w K mg base CX0 k fW fdW ["thing"] (spWholeZ K)) (kW : PySem.W.keepIn K (.ref fW) = true) (bW : Binds K fdW ["thing"] []) (gW : mg "is_whole" = some (.ref fW)) (GD : FnOk P w K mg base CX0 k fD fdD ["one", "other"] spDiv) (kD : PySem.W.keepIn K (.ref fD) = true) (bD : Binds K fdD ["one", "other"] []) (gD : mg "divisor" = some (.ref fD)) (B : Blt mg) : FnOk P w K mg base CX0 (k + 1) f fd ["thing"] (spIsRZ K) := by
  refine F.ok scIsR (fun vs H Q E h => ?_) (fun cdv A outer s H vs Q E hr h => ?_)
  · obtain ⟨ex, v, d, rfl, _⟩ := h
    rfl
  · obtain ⟨ex, v, d, rfl, hv, q⟩ := h
    refine ⟨_, (pss_cons (ps_if (PW.pt (pw_or (pt_not (pt_val (pe_callB call_isi (by rfl) B.isinstance_ (by decide +kernel) (pa_cons (pv 0) (pa_cons (pe_bltn (v := .ty "tuple") (by rfl) B.tuple_ (by decide +kernel) rfl) pa_nil))))) (pw_or1 (pt_cmpR op_ne (pe_callB call_len_seq (by rfl) B.len_ PySem.boot_len (pa_cons (pv 0) pa_nil)) pe_int (nomark _))))) (pss_one (ps_ret pe_bl)) pss_nil)
      (pss_cons (ps_asg (pv 0) (pg_tup (by rfl) (pgs_cons (pg_name (i := 1) scIsR.nd rfl (.inl rfl)) (pgs_cons (pg_name (i := 2) scIsR.nd rfl (.inl rfl)) pgs_nil))))
      (pss_cons (ps_if (PW.pt (pw_or (pt_not (pt_val (pe_call GW hr (by rfl) gW kW bW .nil pass0 (pa_cons (pv 1) pa_nil)))) (pw_or1 (pt_not (pt_val (pe_call GW hr (by rfl) gW kW bW .nil pass0 (pa_cons (pv 2) pa_nil))))))) (pss_one (ps_ret pe_bl)) pss_nil)
      (pss_one (ps_ret (pe_and (pe_cmpR op_ge (pv 2) pe_int (nomark _)) (pe_one (pe_cmpR op_eq (pe_call GD hr (by rfl) gD kD bD .nil pass0 (pa_cons (pv 1) (pa_cons (pv 2) pa_nil))) pe_int (nomark _))))))))), ?_⟩
    cases d with
    | none => exact ⟨_, rfl, _, _, _, _, isT _, rfl, .ty "tuple", hv.ty, kit_ty (kit_isT _), _, rfl, iteT (iteT q)⟩
    | bool b => exact ⟨_, rfl, _, _, _, _, isT _, rfl, .ty "tuple", hv.ty, kit_ty (kit_isT _), _, rfl, iteT (iteT q)⟩
    | int i => exact ⟨_, rfl, _, _, _, _, isT _, rfl, .ty "tuple", hv.ty, kit_ty (kit_isT _), _, rfl, iteT (iteT q)⟩
    | str x => exact ⟨_, rfl, _, _, _, _, isT _, rfl, .ty "tuple", hv.ty, kit_ty (kit_isT _), _, rfl, iteT (iteT q)⟩
    | list x => exact ⟨_, rfl, _, _, _, _, isT _, rfl, .ty "tuple", hv.ty, kit_ty (kit_isT _), _, rfl, iteT (iteT q)⟩
    | dict x => exact ⟨_, rfl, _, _, _, _, isT _, rfl, .ty "tuple", hv.ty, kit_ty (kit_isT _), _, rfl, iteT (iteT q)⟩
    | tuple ds =>
      refine ⟨_, rfl, _, _, _, _, isT (.tuple ds), rfl, .ty "tuple", hv.ty, kit_ty (kit_isT _), _, rfl, iteF ?_⟩
      cases hv with
      | @tup a xs _ ha ts =>
        have hl := ts.len
        refine ⟨_, rfl, a, xs, rfl, .inr ha, rfl, _, rfl, ?_⟩
        by_cases h2 : xs.length = 2
        rotate_left
        · rw [decide_eq_false (fun z => h2 (by have := V.int.inj z; omega))]
          refine iteT ?_
          have e : ratD (.tuple ds) = none := by
            unfold ratD
            split
            · rename_i heq
              injection heq with heq
              rw [heq] at hl
              exact absurd hl h2
            · rfl
          rw [e] at q
          exact q
        have e2 : V.int (xs.length : Int) = V.int 2 := by rw [h2]; rfl
        rw [decide_eq_true e2]
        refine iteF ?_
        obtain ⟨x, y, rfl⟩ : ∃ x y, xs = [x, y] := by
          match xs, h2 with
          | [x, y], _ => exact ⟨x, y, rfl⟩
        cases ts with
        | @cons _ _ dx _ hx ts =>
          cases ts with
          | @cons _ _ dy _ hy ts =>
            cases ts
            refine ⟨_, rfl, a, _, rfl, ha, rfl, _, _, rfl, _, _, rfl, rfl, ?_⟩
            refine ⟨_, rfl, ex, x, dx, rfl, hx, _, rfl, ?_⟩
            have no : ∀ {b : PyData}, isI dx = false → ratD (.tuple [dx, b]) = none := fun {b} h => by cases dx <;> first | rfl | cases h
            cases c1 : isI dx with
            | false =>
              rw [no c1] at q
              exact iteT (iteT q)
            | true =>
              refine iteF ?_
              refine ⟨_, rfl, ex, y, dy, rfl, hy, _, rfl, ?_⟩
              cases dx with
              | int t =>
                cases c2 : isI dy with
                | false =>
                  have e : ratD (.tuple [.int t, dy]) = none := by cases dy <;> first | rfl | cases c2
                  rw [e] at q
                  exact iteT q
                | true =>
                  refine iteF ?_
                  cases dy with
                  | int b =>
                    cases hx
                    cases hy
                    have e : ratD (.tuple [.int t, .int b]) = if 1 ≤ b ∧ Int.gcd t b = 1 then some (Rat.divInt t b) else none := rfl
                    refine ⟨_, rfl, _, _, rfl, rfl, _, rfl, ?_⟩
                    by_cases h1 : 1 ≤ b
                    · rw [if_pos (decide_eq_true h1)]
                      refine ⟨_, rfl, _, rfl, _, _, rfl, rfl, ?_⟩
                      by_cases hg : Int.gcd t b = 1
                      · rw [e, if_pos ⟨h1, hg⟩] at q
                        rw [hg]
                        exact q
                      · rw [e, if_neg (fun z => hg z.2)] at q
                        rw [decide_eq_false (fun z => hg (by have := V.int.inj z; omega))]
                        exact q
                    · rw [e, if_neg (fun z => h1 z.1)] at q
                      rw [if_neg (by rw [decide_eq_false h1]; decide)]
                      exact q
                  | _ => cases c2
              | _ => cases c1
theorem scShare : FnScope ["thing"] ["thing"] (defScope sShare) := ⟨rfl, rfl, rfl, by decide +kernel, rfl, by decide +kernel, by decide +kernel⟩
theorem ok_ShareZ {f fR : Addr} {fd fdR : FuncData} {k : Nat} (F : Fun K "is_share" "is_share" sShare f fd) (GR : FnOk P w K mg base CX0 k fR fdR ["thing"] (spIsRZ K)) (kR : PySem.W.keepIn K (.ref fR) = true) (bR : Binds K fdR ["thing"] []) (gR : mg "is_ratio" = some (.ref fR)) : FnOk P w K mg base CX0 (k + 1) f fd ["thing"] (spShareZ K) := by
  refine F.ok scShare (fun vs H Q E h => ?_) (fun cdv A outer s H vs Q E hr h => ?_)
  · obtain ⟨ex, v, d, rfl, _⟩ := h
    rfl
  · obtain ⟨ex, v, d, rfl, hv, q⟩ := h
    refine ⟨_, (pss_one (ps_ret (pe_and (pe_call GR hr (by rfl) gR kR bR .nil pass0 (pa_cons (pv 0) pa_nil)) (pe_one (pe_cmpR op_ge (pe_ix ix_tup (pv 0) pe_int (fun _ _ => rfl)) pe_int (nomark _)))))), ?_⟩
    refine ⟨_, rfl, ex, v, d, rfl, hv, _, rfl, ?_⟩
    unfold shD at q
    cases e : ratD d with
    | none =>
      rw [e] at q
      exact iteF q
    | some r =>
      rw [e] at q
      obtain ⟨a, rfl, ha, _⟩ := hv.rat e
      exact iteT ⟨_, rfl, a, rp r, 0, .int r.num, rfl, rfl, ha, at0 r, _, _, rfl, rfl, q⟩
theorem scListOf : FnScope ["thing", "least", "most"] ["thing", "least", "most"] (defScope sListOf) := ⟨rfl, rfl, rfl, by decide +kernel, rfl, by decide +kernel, by decide +kernel⟩
theorem ok_ListOfZ {f  : Addr} {fd  : FuncData} {k : Nat} (F : Fun K "is_list_of" "is_list_of" sListOf f fd)  (B : Blt mg) : FnOk P w K mg base CX0 (k + 1) f fd ["thing", "least", "most"] (spListOfZ K) := by
  refine F.ok scListOf (fun vs H Q E h => ?_) (fun cdv A outer s H vs Q E hr h => ?_)
  · obtain ⟨ex, v, d, lo, hi, rfl, _⟩ := h
    rfl
  · obtain ⟨ex, v, d, lo, hi, rfl, hv, q⟩ := h
    refine ⟨_, (pss_one (ps_ret (pe_and (pe_callB call_isi (by rfl) B.isinstance_ (by decide +kernel) (pa_cons (pv 0) (pa_cons (pe_bltn (v := .ty "list") (by rfl) B.list_ (by decide +kernel) rfl) pa_nil))) (pe_one (pe_chain op_le op_le (pv 1) (pe_callB call_len_seq (by rfl) B.len_ PySem.boot_len (pa_cons (pv 0) pa_nil)) (pv 2)))))), ?_⟩
    cases d with
    | none => exact ⟨_, rfl, _, _, _, _, isL _, rfl, .ty "list", hv.ty, kit_ty (kit_isL _), _, rfl, iteF q⟩
    | bool b => exact ⟨_, rfl, _, _, _, _, isL _, rfl, .ty "list", hv.ty, kit_ty (kit_isL _), _, rfl, iteF q⟩
    | int i => exact ⟨_, rfl, _, _, _, _, isL _, rfl, .ty "list", hv.ty, kit_ty (kit_isL _), _, rfl, iteF q⟩
    | str x => exact ⟨_, rfl, _, _, _, _, isL _, rfl, .ty "list", hv.ty, kit_ty (kit_isL _), _, rfl, iteF q⟩
    | tuple x => exact ⟨_, rfl, _, _, _, _, isL _, rfl, .ty "list", hv.ty, kit_ty (kit_isL _), _, rfl, iteF q⟩
    | dict x => exact ⟨_, rfl, _, _, _, _, isL _, rfl, .ty "list", hv.ty, kit_ty (kit_isL _), _, rfl, iteF q⟩
    | list ds =>
      refine ⟨_, rfl, _, _, _, _, isL (.list ds), rfl, .ty "list", hv.ty, kit_ty (kit_isL _), _, rfl, iteT ?_⟩
      cases hv with
      | @lst a xs _ ha hn ts =>
        have q' : Q (.bl (decide (lo ≤ (ds.length : Int)) && decide ((ds.length : Int) ≤ hi))) H := q
        rw [← ts.len] at q'
        refine ⟨_, rfl, _, rfl, a, xs, rfl, .inl (SqL.of ha), lo, _, rfl, rfl, _, rfl, ?_⟩
        by_cases h1 : lo ≤ (xs.length : Int)
        · rw [decide_eq_true h1] at q' ⊢
          refine iteT ⟨_, rfl, _, hi, rfl, rfl, ?_⟩
          rw [Bool.true_and] at q'
          exact q'
        · rw [decide_eq_false h1] at q' ⊢
          exact iteF q'
theorem scRRow : FnScope ["thing", "least", "most", "one"] ["thing", "least", "most"] (defScope sRRow) := ⟨rfl, rfl, rfl, by decide +kernel, rfl, by decide +kernel, by decide +kernel⟩
theorem all_mapZ (p : PyData → Bool) (os : List PyData) : (os.map p).all id = os.all p := by
  induction os with
  | nil => rfl
  | cons o os ih => rw [List.map_cons, List.all_cons, List.all_cons, ih]; rfl
theorem ok_RRowZ {f fL fR : Addr} {fd fdL fdR : FuncData} {k : Nat} (F : Fun K "is_ratio_row" "is_ratio_row" sRRow f fd) (GL : FnOk P w K mg base CX0 k fL fdL ["thing", "least", "most"] (spListOfZ K)) (kL : PySem.W.keepIn K (.ref fL) = true) (bL : Binds K fdL ["thing", "least", "most"] []) (gL : mg "is_list_of" = some (.ref fL)) (GR : FnOk P w K mg base CX0 k fR fdR ["thing"] (spIsRZ K)) (kR : PySem.W.keepIn K (.ref fR) = true) (bR : Binds K fdR ["thing"] []) (gR : mg "is_ratio" = some (.ref fR)) (B : Blt mg) : FnOk P w K mg base CX0 (k + 1) f fd ["thing", "least", "most"] (spRowZ K) := by
  refine F.ok scRRow (fun vs H Q E h => ?_) (fun cdv A outer s H vs Q E hr h => ?_)
  · obtain ⟨ex, v, d, lo, hi, rfl, _⟩ := h
    rfl
  · obtain ⟨ex, v, d, lo, hi, rfl, hv, h6, q⟩ := h
    refine ⟨_, (pss_one (ps_ret (pe_and (pe_call GL hr (by rfl) gL kL bL .nil pass0 (pa_cons (pv 0) (pa_cons (pv 1) (pa_cons (pv 2) pa_nil)))) (pe_one (pe_callB (cr_all rfl) (by rfl) B.all_ (by decide +kernel) (pa_cons (pe_lc (own := [("one", 3)]) (g := gName 3) (tt := tYes) (te := (tCall (spIsRZ K) [] E0 (tCons (tVar 3) tNil))) rfl scRRow.nd (pi_list (pv 0)) (blkOk_by (N := ["thing", "least", "most", "one"]) (sc := defScope sRRow) (by decide +kernel)) (fun _ _ _ _ _ => pg_name (i := 3) scRRow.nd rfl (Or.inl rfl)) (fun _ _ _ _ _ => pts_nil) (fun _ _ _ _ _ => (pe_call GR hr (by rfl) gR kR bR .nil pass0 (pa_cons (pv 3) pa_nil)))) pa_nil)))))), ?_⟩
    refine ⟨_, rfl, _, rfl, _, rfl, ex, v, d, lo, hi, rfl, hv, _, rfl, ?_⟩
    unfold rowOkZ at q
    cases c0 : lenOk (lenD d) lo hi with
    | false =>
      rw [c0] at q
      exact iteF (q _ (Same.refl _))
    | true =>
      rw [c0, Bool.true_and] at q
      refine iteT ?_
      obtain ⟨ds, rfl, l1, l2⟩ := lenOk_list c0
      cases hv with
      | @lst r cs _ hr0 hn hc =>
        refine ⟨_, rfl, r, rfl, ⟨_, SqL.of hr0⟩, fun D hD => lc_list (K := K) (a := r) (xs := cs) (fun i H' => H' = upd H D (.lst (((ds.take i).map fun e => (ratD e).isSome).map V.bl))) rfl (fun i H' _ e => by rw [e]; exact SqL.of (same_new hD _ _ _ hr0)) ?_ ?_⟩
        · rintro i v H' hi' rfl
          obtain ⟨d, e1, e2⟩ := hc.at_ hi'
          refine ⟨rfl, tYes_of ?_⟩
          refine ⟨_, rfl, ex, v, d, rfl, e2.same (same_new hD _), _, upd_same, ?_, ?_⟩
          · rw [List.length_map, List.length_map, List.length_take]
            exact small1000 (by omega)
          · rw [upd_upd, List.take_add_one, e1, List.map_append, List.map_append]
            rfl
        · rintro H' rfl
          rw [hc.len, List.take_length]
          refine ⟨D, ds.map fun e => (ratD e).isSome, rfl, SqL.of upd_same, ?_⟩
          rw [all_mapZ]
          exact q _ (same_new hD _)
theorem scWrong : FnScope ["rows", "is_row", "least", "most", "number", "row"] ["rows", "is_row", "least", "most"] (defScope sWrong) := ⟨rfl, rfl, rfl, by decide +kernel, rfl, by decide +kernel, by decide +kernel⟩
theorem ok_WrongZ {f fR : Addr} {fd fdR : FuncData} {k : Nat} (F : Fun K "wrong_row" "wrong_row" sWrong f fd) (GR : FnOk P w K mg base CX0 k fR fdR ["thing", "least", "most"] (spRowZ K)) (kR : PySem.W.keepIn K (.ref fR) = true) (bR : Binds K fdR ["thing", "least", "most"] []) (B : Blt mg) : FnOk P w K mg base CX0 (k + 1) f fd ["rows", "is_row", "least", "most"] (spWrongZ K fR) := by
  refine F.ok scWrong (fun vs H Q E h => ?_) (fun cdv A outer s H vs Q E hr h => ?_)
  · obtain ⟨ex, a, rs, ds, lo, hi, rfl, _⟩ := h
    rfl
  · obtain ⟨ex, a, rs, ds, lo, hi, rfl, ha, hw, h6, q⟩ := h
    refine ⟨_, (pss_cons (ps_for PassesOwn.never rfl (pi_enum (by rfl) B.enumerate_ (pa_cons (pv 0) pa_nil)) (pg_tup rfl (pgs_cons (pg_name (i := 4) scWrong.nd rfl (.inl rfl)) (pgs_cons (pg_name (i := 5) scWrong.nd rfl (.inl rfl)) pgs_nil))) (pss_cons (ps_if (pt_not (pt_val (pe_callL (i := 1) GR hr rfl (.inl rfl) kR bR .nil pass0 (pa_cons (pv 5) (pa_cons (pv 2) (pa_cons (pv 3) pa_nil)))))) (pss_one (ps_ret (pv 4))) pss_nil)
      (pss_one (ps_asg2 (pe_callB call_len_seq (by rfl) B.len_ PySem.boot_len (pa_cons (pv 5) pa_nil)) (pg_name (i := 2) scWrong.nd rfl (.inl rfl)) (pg_name (i := 3) scWrong.nd rfl (.inl rfl))))))
      (pss_one (ps_ret pe_non))), ?_⟩
    refine ⟨_, rfl, a, _, rfl, SqL.of ha, for_it (walk_enum (K := K) (a := a) (xs := rs)) (fun i σ H' => ∃ (lo' hi' : Int) (y4 y5 : Option V), σ = [some (.ref a), some (.ref fR), some (.int lo'), some (.int hi'), y4, y5] ∧ Same H H' ∧ hi' ≤ 6 ∧ firstWrongZ ds 0 lo hi = firstWrongZ (ds.drop i) i lo' hi')
      ⟨lo, hi, none, none, rfl, Same.refl _, h6, by rw [List.drop_zero]⟩ (fun i σ H' _ ⟨_, _, _, _, _, s5, _⟩ => SqL.of (s5 _ _ ha)) ?_ ?_⟩
    · rintro i x σ H1 H2 hi1 ⟨lo', hi', y4, y5, rfl, s5, h6', fw⟩ ⟨T, u, v, rfl, nT, rfl, e1, e2⟩
      have eu : u = .int (i : Nat) := (Option.some.inj e1).symm
      subst eu
      obtain ⟨d, f1, f2⟩ := hw.at_ e2
      have s6 := s5.trans (same_new nT (.tup [.int (i : Nat), v]))
      refine ⟨T, _, rfl, SqT.of upd_same, rfl, _, _, rfl, _, _, rfl, rfl, ?_⟩
      refine ⟨rfl, _, rfl, _, rfl, _, rfl, ex, v, d, lo', hi', rfl, f2.same s6, h6', fun H3 s7 => ?_⟩
      rw [firstWrongZ_drop f1] at fw
      cases c : rowOkZ d lo' hi' with
      | false =>
        rw [if_neg (by rw [c]; decide)] at fw
        rw [fw] at q
        exact ⟨_, rfl, iteT ⟨_, rfl, q _ (s6.trans s7)⟩⟩
      | true =>
        rw [if_pos c] at fw
        refine ⟨_, rfl, iteF ?_⟩
        unfold rowOkZ at c
        rw [Bool.and_eq_true] at c
        obtain ⟨es, rfl, l1, l2⟩ := lenOk_list c.1
        cases f2 with
        | @lst r cs _ hr0 hn hc =>
          refine ⟨_, rfl, r, cs, rfl, .inl (SqL.of ((s6.trans s7) _ _ hr0)), ?_⟩
          rw [hc.len]
          exact ⟨_, _, _, _, rfl, s6.trans s7, by omega, fw⟩
    · rintro σ H1 ⟨lo', hi', y4, y5, rfl, s5, _, fw⟩
      rw [hw.len, List.drop_length] at fw
      rw [fw] at q
      exact q H1 s5
theorem scCopied : FnScope ["rows", "row"] ["rows"] (defScope sCopied) := ⟨rfl, rfl, rfl, by decide +kernel, rfl, by decide +kernel, by decide +kernel⟩
theorem ok_Copied {f : Addr} {fd : FuncData} {k : Nat} (F : Fun K "copied_rows" "copied_rows" sCopied f fd) (B : Blt mg) : FnOk P w K mg base CX0 (k + 1) f fd ["rows"] (spCopied K) := by
  refine F.ok scCopied (fun vs H Q E h => ?_) (fun cdv A outer s H vs Q E hr h => ?_)
  · obtain ⟨a, rs, rss, n, rfl, _⟩ := h
    rfl
  · obtain ⟨a, rs, rss, n, rfl, hw, hlen, q⟩ := h
    refine ⟨_, pss_one (ps_ret (pe_lc (own := [("row", 1)]) (g := gName 1) (tt := tYes) (te := tCB (rListOf K) (tCons (tVar 1) tNil)) rfl scCopied.nd (pi_list (pv 0)) (blkOk_by (N := ["rows", "row"]) (sc := defScope sCopied) (by decide +kernel)) (fun _ _ _ _ _ => pg_name (i := 1) scCopied.nd rfl (Or.inl rfl)) (fun _ _ _ _ _ => pts_nil)
      (fun _ _ _ _ _ => pe_callTy (T := "list") call_list_of (by rfl) B.list_ (by decide +kernel) (pa_cons (pv 1) pa_nil)))), ?_⟩
    -- an address that stays out of the way: D itself
    refine ⟨_, rfl, a, rfl, ⟨_, SqL.of hw.1⟩, fun D hD => lc_list (K := K) (a := a) (xs := rs.map V.ref) (fun i H' => ∃ rs', rs'.length = i ∧ H' D = some (.lst (rs'.map V.ref)) ∧ rs'.Nodup ∧ D ∉ rs' ∧ (∀ x ∈ rs', H x = none) ∧ Same H H' ∧ RowsAt K H' n rs' (rss.take i))
      ⟨[], rfl, upd_same, List.nodup_nil, by simp, fun x hx => by simp at hx, same_new hD _, RowsAt.nil⟩ (fun i H' _ ⟨_, _, _, _, _, _, s5, _⟩ => SqL.of (s5 _ _ hw.1)) ?_ ?_⟩
    · rintro i v H' hi ⟨rs', hl', hD', nd', ne', fr', s5, ra⟩
      obtain ⟨r, er, rfl⟩ : ∃ r, rs[i]? = some r ∧ v = .ref r := by
        rw [List.getElem?_map] at hi
        cases e : rs[i]? with
        | none => rw [e] at hi; cases hi
        | some r => rw [e] at hi; exact ⟨r, rfl, (Option.some.inj hi).symm⟩
      obtain ⟨cs, qs, e3, e4, e5⟩ := hw.2.2 i r er
      refine ⟨rfl, ?_⟩
      unfold tYes
      dsimp only
      refine iteT ?_
      refine ⟨_, rfl, r, cs, rfl, .inl (SqL.of (s5 _ _ e4)), fun l hl => ?_⟩
      have s6 := same_new hl (.lst cs)
      have hlD : l ≠ D := fun e => by
        rw [e, hD'] at hl
        cases hl
      have hil : i < rss.length := (List.getElem?_eq_some_iff.mp e3).1
      refine ⟨_, s6 _ _ hD', ?_, rs' ++ [l], ?_, ?_, ?_, ?_, ?_, ?_, ?_⟩
      · rw [List.length_map]
        exact small1000 (by omega)
      · rw [List.length_append, hl']
        rfl
      · rw [upd_same, List.map_append]
        rfl
      · rw [List.nodup_append]
        refine ⟨nd', by simp, fun x hx y hy => ?_⟩
        have ey : y = l := by simpa using hy
        rw [ey]
        intro e
        obtain ⟨j, hj, ej⟩ := List.getElem_of_mem hx
        obtain ⟨c', q', _, z2, _⟩ := ra.2 j x (by rw [List.getElem?_eq_getElem hj, ej])
        rw [e, hl] at z2
        cases z2
      · intro hm
        rcases List.mem_append.mp hm with hm | hm
        · exact ne' hm
        · exact hlD (by simpa using hm : D = l).symm
      · intro x hx
        rcases List.mem_append.mp hx with hx | hx
        · exact fr' x hx
        · have ex : x = l := by simpa using hx
          rw [ex]
          exact s5.free hl
      · intro b u e
        rw [upd_ne (ne_of_none e hD)]
        exact s6 _ _ (s5 _ _ e)
      · have sD : SameB D (upd H' l (.lst cs)) (upd (upd H' l (.lst cs)) D (.lst (rs'.map V.ref ++ [V.ref l]))) := SameB.upd
        have t := ((ra.same s6).keep sD (s6 _ _ hD') ne').snoc (r := l) (cs := cs) (qs := qs) (by rw [upd_ne hlD, upd_same]) ((e5.same (s5.trans s6)).keep (sD.tup (s6 _ _ hD')))
        rw [List.take_add_one, e3]
        exact t
    · rintro H' ⟨rs', hl', hD', nd', ne', fr', s5, ra⟩
      rw [List.length_map, hw.2.1, List.take_length] at ra
      exact q D rs' H' ⟨⟨hD', ra⟩, nd', ne', hD, fr', s5⟩
theorem scNcInit : FnScope ["self", "part", "number"] ["self", "part", "number"] (defScope sNcInit) := ⟨rfl, rfl, rfl, by decide +kernel, rfl, by decide +kernel, by decide +kernel⟩
theorem ok_NcInit {CN fN : Addr} {fd : FuncData} {k : Nat} (F : Fun K "__init__" "NoCase.__init__" sNcInit fN fd) (T : NcT K mg CN fN) (B : Blt mg) : FnOk P w K mg base CX0 (k + 1) fN fd ["self", "part", "number"] (spE2 CN "part" "number") := by
  refine F.ok scNcInit (fun vs H Q E h => ?_) (fun cdv A outer s H vs Q E hr h => ?_)
  · obtain ⟨a, v, u, rfl, _⟩ := h
    rfl
  · obtain ⟨a, v, u, rfl, ha, q⟩ := h
    refine ⟨_, pss_cons (ps_expr (pe_veinit (by rfl) B.ValueError_ T.vV (pa_cons (pv 0) (pa_cons pe_str pa_nil)))) (pss_cons (ps_ost (pv 0) (pv 1)) (pss_one (ps_ost (pv 0) (pv 2)))), ?_⟩
    refine ⟨_, rfl, a, CN, _, rfl, (by show 1 ≤ 1000; decide), T.o, ha, ?_⟩
    refine ⟨_, rfl, _, rfl, a, CN, rfl, T.o, T.n1, .inl ⟨ha, fun dx hdx hne => ?_⟩⟩
    refine ⟨_, rfl, _, rfl, a, CN, rfl, T.o, T.n2, .inr ⟨dx, _, upd_same, by rw [upd_ne hne, upd_same], (by show 1 ≤ 900; decide), ?_⟩⟩
    rw [Rs.upd_swap hne]
    exact q dx hdx hne
theorem scChkS : FnScope ["shares", "number", "share"] ["shares"] (defScope sChkS) := ⟨rfl, rfl, rfl, by decide +kernel, rfl, by decide +kernel, by decide +kernel⟩
theorem ok_ChkS {f fL fS fT CN fN C fI : Addr} {fd fdL fdS fdT fdN : FuncData} {k : Nat} (F : Fun K "check_shares" "check_shares" sChkS f fd) (T : CaT K mg C fI) (N : NcT K mg CN fN) (GN : FnOk P w K mg base CX0 k fN fdN ["self", "part", "number"] (spE2 CN "part" "number")) (bN : Binds K fdN ["self", "part", "number"] [])
    (GL : FnOk P w K mg base CX0 k fL fdL ["thing", "least", "most"] (spListOfZ K)) (kL : PySem.W.keepIn K (.ref fL) = true) (bL : Binds K fdL ["thing", "least", "most"] []) (gL : mg "is_list_of" = some (.ref fL)) (GS : FnOk P w K mg base CX0 k fS fdS ["thing"] (spShareZ K)) (kS : PySem.W.keepIn K (.ref fS) = true) (bS : Binds K fdS ["thing"] []) (gS : mg "is_share" = some (.ref fS))
    (GT : FnOk P w K mg base CX0 k fT fdT ["some", "start"] (spTotal K)) (kT : PySem.W.keepIn K (.ref fT) = true) (bT : ∃ ds, Vals [V.non] ds ∧ Binds K fdT ["some", "start"] ds) (gT : mg "total" = some (.ref fT)) (B : Blt mg) : FnOk P w K mg base (L2.CX P w) (k + 2) f fd ["shares"] (spChkS K CN) := by
  obtain ⟨t5, g5⟩ := T.g5
  obtain ⟨dft, vd, bTd⟩ := bT
  refine F.okX scChkS (fun vs H Q E h => ?_) (fun cdv A outer s H vs Q E hr h => ?_)
  · obtain ⟨ex, v, d, rfl, _⟩ := h
    rfl
  · obtain ⟨ex, v, d, rfl, hv, few, qE, q⟩ := h
    have hk : Room k _ := hr.mono (by omega)
    refine ⟨_, (pss_cons (ps_if (pt_not (pt_val (pe_call GL hk (by rfl) gL kL bL .nil pass0 (pa_cons (pv 0) (pa_cons pe_int (pa_cons (pe_glob (v := .int 5) (by rfl) g5 ⟨_, rfl⟩) pa_nil)))))) (pss_one (ps_raise (W := fun cls d _ H' => E cls d H') rfl (takes_of rfl rfl rfl rfl) (pmk_oex N.o N.i N.t GN hr bN .nil pass0 (by rfl) N.g (pa_cons pe_str (pa_cons pe_non pa_nil))))) pss_nil)
      (pss_cons (ps_for (passes_of rfl) rfl (pi_enum (by rfl) B.enumerate_ (pa_cons (pv 0) pa_nil)) (pg_tup rfl (pgs_cons (pg_name (i := 1) scChkS.nd rfl (.inl rfl)) (pgs_cons (pg_name (i := 2) scChkS.nd rfl (.inl rfl)) pgs_nil))) (pss_one (ps_if (pt_not (pt_val (pe_call GS hk (by rfl) gS kS bS .nil pass0 (pa_cons (pv 2) pa_nil)))) (pss_one (ps_raise (W := fun cls d _ H' => E cls d H') rfl (takes_of rfl rfl rfl rfl) (pmk_oex N.o N.i N.t GN hr bN .nil pass0 (by rfl) N.g (pa_cons pe_str (pa_cons (pv 1) pa_nil))))) pss_nil)))
      (pss_one (ps_if (pt_cmpR (op_neD hk.units) (pe_call GT hk (by rfl) gT kT bTd vd pass0 (pa_cons (pv 0) pa_nil)) (pe_tup (pa_cons pe_int (pa_cons pe_int pa_nil))) (nomark _)) (pss_one (ps_raise (W := fun cls d _ H' => E cls d H') rfl (takes_of rfl rfl rfl rfl) (pmk_oex N.o N.i N.t GN hr bN .nil pass0 (by rfl) N.g (pa_cons pe_str (pa_cons pe_non pa_nil))))) pss_nil)))), ?_⟩
    refine ⟨_, rfl, ex, v, d, 1, 5, rfl, hv, _, rfl, ?_⟩
    unfold badS at qE q
    cases c0 : lenOk (lenD d) 1 5 with
    | false =>
      rw [c0] at qE
      exact iteT (mk2 fun dd hdd => qE .non rfl _ dd (same_new hdd _) upd_same)
    | true =>
      rw [c0, if_pos rfl] at qE q
      refine iteF ?_
      obtain ⟨ds, rfl, l1, l2⟩ := lenOk_list c0
      cases hv with
      | @lst a xs _ ha hn ts =>
        have hxl := ts.len
        refine ⟨_, rfl, a, _, rfl, SqL.of ha, for_it (walk_enum (K := K) (a := a) (xs := xs)) (fun i σ H' => ∃ y1 y2 : Option V, σ = [some (.ref a), y1, y2] ∧ Same H H' ∧ firstNot shD ds 0 = firstNot shD (ds.drop i) i)
          ⟨none, none, rfl, Same.refl _, by rw [List.drop_zero]⟩ (fun i σ H' _ ⟨_, _, _, s5, _⟩ => SqL.of (s5 _ _ ha)) ?_ ?_⟩
        · rintro i x σ H1 H2 hi ⟨y1, y2, rfl, s5, fb⟩ ⟨TT, u, vv, rfl, nT, rfl, e1, e2⟩
          cases (Option.some.inj e1)
          obtain ⟨d, f1, f2⟩ := ts.at_ e2
          have sT := same_new nT (.tup [V.int (i : Nat), vv])
          refine ⟨TT, _, rfl, SqT.of upd_same, rfl, _, _, rfl, _, _, rfl, rfl, ?_⟩
          refine ⟨_, rfl, ex, vv, d, rfl, f2.same (s5.trans sT), _, rfl, ?_⟩
          rw [firstNot_drop f1] at fb
          cases c : shD d with
          | true =>
            rw [if_pos c] at fb
            exact iteF ⟨_, _, rfl, s5.trans sT, fb⟩
          | false =>
            rw [if_neg (by rw [c]; decide)] at fb
            refine iteT ⟨_, rfl, mk2 fun dx hdx => qE (V.int (i : Nat)) ?_ _ dx (s5.trans (sT.trans (same_new hdx _))) upd_same⟩
            show numS (firstNot shD ds 0) (sumD ds) = _
            rw [fb]
            rfl
        · rintro σ H1 ⟨y1, y2, rfl, s5, fb⟩
          rw [ts.len, List.drop_length] at fb
          have hall := firstNot_all (show firstNot shD ds 0 = none from fb)
          have hrat : ds.all (fun e => (ratD e).isSome) = true := by
            rw [List.all_eq_true] at hall ⊢
            intro e he
            have := hall e he
            unfold shD at this
            cases z : ratD e with
            | none => rw [z] at this; cases this
            | some q => rfl
          obtain ⟨qs, g1, g2⟩ := ts.rats (n := 1000) few hrat
          have hql : qs.length ≤ 5 := by
            have : ds.length = qs.length := by rw [g1, List.length_map]
            omega
          have eqE : numS (firstNot shD (itemsD (.list ds)) 0) (sumD (itemsD (.list ds))) = if qs.sum = 1 then none else some .non := by
            show numS (firstNot shD ds 0) (sumD ds) = _
            rw [show firstNot shD ds 0 = none from fb, g1, sumD_dR]
            rfl
          rw [eqE] at qE q
          refine ⟨_, rfl, a, xs, qs, 1000, rfl, SqL.of (s5 _ _ ha), g2.same s5, ?_, fun rt H2 s6 e6 => ?_⟩
          · have : (1000 + 1) * qs.length ≤ 1001 * 5 := Nat.mul_le_mul_left _ hql
            omega
          refine ⟨(by show 2 ≤ sizeLine; decide), fun p hp => ?_⟩
          have s7 := same_new hp (.tup (rp 1))
          refine ⟨dR qs.sum, dR 1, dp_r (seqT s7 e6), dp_r (q := 1) (SqT.of upd_same), dR_shaped _, dR_shaped _, _, rfl, ?_⟩
          rw [eqv_dR]
          by_cases c5 : qs.sum = 1
          · rw [decide_eq_true c5]
            rw [if_pos c5] at q
            exact iteF (q rfl _ ((s5.trans s6).trans s7))
          · rw [decide_eq_false c5]
            rw [if_neg c5] at qE
            exact iteT (mk2 fun dx hdx => qE .non rfl _ dx ((s5.trans s6).trans (s7.trans (same_new hdx _))) upd_same)
theorem scChkG : FnScope ["part", "rows", "worlds", "least", "most", "wrong"] ["part", "rows", "worlds", "least", "most"] (defScope sChkG) := ⟨rfl, rfl, rfl, by decide +kernel, rfl, by decide +kernel, by decide +kernel⟩
theorem ok_ChkG {f fL fW fR CN fN : Addr} {fd fdL fdW fdN : FuncData} {k : Nat} (F : Fun K "check_gains" "check_gains" sChkG f fd) (N : NcT K mg CN fN) (GN : FnOk P w K mg base CX0 k fN fdN ["self", "part", "number"] (spE2 CN "part" "number")) (bN : Binds K fdN ["self", "part", "number"] [])
    (GL : FnOk P w K mg base CX0 k fL fdL ["thing", "least", "most"] (spListOfZ K)) (kL : PySem.W.keepIn K (.ref fL) = true) (bL : Binds K fdL ["thing", "least", "most"] []) (gL : mg "is_list_of" = some (.ref fL)) (GW : FnOk P w K mg base CX0 k fW fdW ["rows", "is_row", "least", "most"] (spWrongZ K fR)) (kW : PySem.W.keepIn K (.ref fW) = true) (bW : Binds K fdW ["rows", "is_row", "least", "most"] []) (gW : mg "wrong_row" = some (.ref fW)) (gR : mg "is_ratio_row" = some (.ref fR)) : FnOk P w K mg base (L2.CX P w) (k + 2) f fd ["part", "rows", "worlds", "least", "most"] (spChkG K CN) := by
  refine F.okX scChkG (fun vs H Q E h => ?_) (fun cdv A outer s H vs Q E hr h => ?_)
  · obtain ⟨ex, pt, v, d, ww, lo, hi, rfl, _⟩ := h
    rfl
  · obtain ⟨ex, pt, v, d, ww, lo, hi, rfl, hv, h6, qE, q⟩ := h
    have hk : Room k _ := hr.mono (by omega)
    refine ⟨_, (pss_cons (ps_if (pt_not (pt_val (pe_call GL hk (by rfl) gL kL bL .nil pass0 (pa_cons (pv 1) (pa_cons (pv 2) (pa_cons (pv 2) pa_nil)))))) (pss_one (ps_raise (W := fun cls d _ H' => E cls d H') rfl (takes_of rfl rfl rfl rfl) (pmk_oex N.o N.i N.t GN hr bN .nil pass0 (by rfl) N.g (pa_cons (pv 0) (pa_cons pe_non pa_nil))))) pss_nil)
      (pss_cons (ps_set (i := 5) scChkG.nd rfl (.inl rfl) (pe_call GW hk (by rfl) gW kW bW .nil pass0 (pa_cons (pv 1) (pa_cons (pe_glob (v := .ref fR) (by rfl) gR rfl) (pa_cons (pv 3) (pa_cons (pv 4) pa_nil))))))
      (pss_one (ps_if (pt_cmpR op_notN (pv 5) pe_non (nomark _)) (pss_one (ps_raise (W := fun cls d _ H' => E cls d H') rfl (takes_of rfl rfl rfl rfl) (pmk_oex N.o N.i N.t GN hr bN .nil pass0 (by rfl) N.g (pa_cons (pv 0) (pa_cons (pv 5) pa_nil))))) pss_nil)))), ?_⟩
    refine ⟨_, rfl, _, rfl, _, rfl, ex, v, d, ww, ww, rfl, hv, _, rfl, ?_⟩
    unfold badG at qE q
    cases c0 : lenOk (lenD d) ww ww with
    | false =>
      rw [c0] at qE
      exact iteT ⟨_, rfl, mk2 fun dd hdd => qE .non rfl _ dd (same_new hdd _) upd_same⟩
    | true =>
      rw [c0, if_pos rfl] at qE q
      refine iteF ?_
      obtain ⟨ds, rfl, l1, l2⟩ := lenOk_list c0
      cases hv with
      | @lst a xs _ ha hn ts =>
        refine ⟨_, rfl, _, rfl, _, rfl, ex, a, xs, ds, lo, hi, rfl, ha, ts, h6, fun H1 s1 => ?_⟩
        have qE' : ∀ r, (firstWrongZ ds 0 lo hi).map (fun j => V.int (j : Nat)) = some r → _ := qE
        have q' : (firstWrongZ ds 0 lo hi).map (fun j => V.int (j : Nat)) = none → _ := q
        cases fw : firstWrongZ ds 0 lo hi with
        | none =>
          rw [fw] at q'
          exact ⟨_, rfl, rfl, _, rfl, iteF (q' rfl _ s1)⟩
        | some j =>
          rw [fw] at qE'
          refine ⟨_, rfl, rfl, _, rfl, iteT ?_⟩
          exact ⟨_, rfl, _, rfl, mk2 fun dd hdd => qE' _ rfl _ dd (s1.trans (same_new hdd _)) upd_same⟩
theorem scCInit : FnScope ["self", "shares", "hearer", "teller", "deeds"] ["self", "shares", "hearer", "teller"] (defScope sCInit) := ⟨rfl, rfl, rfl, by decide +kernel, rfl, by decide +kernel, by decide +kernel⟩
theorem ok_CInit {fS fG fC CN C fI : Addr} {fd fdS fdG fdC : FuncData} {k : Nat} (F : Fun K "__init__" "Case.__init__" sCInit fI fd) (T : CaT K mg C fI)
    (GS : FnOk P w K mg base (L2.CX P w) k fS fdS ["shares"] (spChkS K CN)) (kS : PySem.W.keepIn K (.ref fS) = true) (bS : Binds K fdS ["shares"] []) (gS : mg "check_shares" = some (.ref fS)) (GG : FnOk P w K mg base (L2.CX P w) k fG fdG ["part", "rows", "worlds", "least", "most"] (spChkG K CN)) (kG : PySem.W.keepIn K (.ref fG) = true) (bG : Binds K fdG ["part", "rows", "worlds", "least", "most"] []) (gG : mg "check_gains" = some (.ref fG)) (GC : FnOk P w K mg base CX0 k fC fdC ["rows"] (spCopied K)) (kC : PySem.W.keepIn K (.ref fC) = true) (bC : Binds K fdC ["rows"] []) (gC : mg "copied_rows" = some (.ref fC)) (B : Blt mg) : FnOk P w K mg base (L2.CX P w) (k + 1) fI fd ["self", "shares", "hearer", "teller"] (spCInit K C CN) := by
  obtain ⟨t6, g6⟩ := T.g6
  refine F.okX scCInit (fun vs H Q E h => ?_) (fun cdv A outer s H vs Q E hr h => ?_)
  · obtain ⟨ex, n, x, dx, vs0, vh, vt, ds, dh, dt, rfl, _⟩ := h
    rfl
  · obtain ⟨ex, n, x, dx, vs0, vh, vt, ds, dh, dt, rfl, hx, hs, hh, ht, hn, fs, fh, ft, qE, q⟩ := h
    have hk := hr
    refine ⟨_, (pss_cons (ps_expr (pe_call GS hk (by rfl) gS kS bS .nil (passes_call (W := fun cls d _ H' => E cls d H') (takes_of rfl rfl rfl rfl) (fun _ _ _ _ h => h)) (pa_cons (pv 1) pa_nil)))
      (pss_cons (ps_expr (pe_call GG hk (by rfl) gG kG bG .nil (passes_call (W := fun cls d _ H' => E cls d H') (takes_of rfl rfl rfl rfl) (fun _ _ _ _ h => h)) (pa_cons pe_str (pa_cons (pv 2) (pa_cons (pe_callB call_len_seq (by rfl) B.len_ PySem.boot_len (pa_cons (pv 1) pa_nil)) (pa_cons pe_int (pa_cons (pe_glob (v := .int 6) (by rfl) g6 ⟨_, rfl⟩) pa_nil)))))))
      (pss_cons (ps_set (i := 4) scCInit.nd rfl (.inl rfl) (pe_callB call_len_seq (by rfl) B.len_ PySem.boot_len (pa_cons (pe_ix ix_list (pv 2) pe_int (fun _ _ => rfl)) pa_nil)))
      (pss_cons (ps_expr (pe_call GG hk (by rfl) gG kG bG .nil (passes_call (W := fun cls d _ H' => E cls d H') (takes_of rfl rfl rfl rfl) (fun _ _ _ _ h => h)) (pa_cons pe_str (pa_cons (pv 3) (pa_cons (pe_callB call_len_seq (by rfl) B.len_ PySem.boot_len (pa_cons (pv 1) pa_nil)) (pa_cons (pv 4) (pa_cons (pv 4) pa_nil)))))))
      (pss_cons (ps_fld (pv 0) (pe_callTy (T := "list") call_list_of (by rfl) B.list_ (by decide +kernel) (pa_cons (pv 1) pa_nil)) rfl)
      (pss_cons (ps_fld (pv 0) (pe_call GC hk (by rfl) gC kC bC .nil pass0 (pa_cons (pv 2) pa_nil)) rfl)
      (pss_one (ps_fld (pv 0) (pe_call GC hk (by rfl) gC kC bC .nil pass0 (pa_cons (pv 3) pa_nil)) rfl)))))))), ?_⟩
    refine ⟨_, rfl, ex, vs0, ds, rfl, hs, fun d hd r e => (fs d hd r e).mono hn, fun r er => ?_, fun eS H1 s1 => ?_⟩
    · have e : badC ds dh dt = some (("shares" : Str), r) := by unfold badC; rw [er]; rfl
      exact qE _ _ e
    have c0 : lenOk (lenD ds) 1 5 = true := by
      unfold badS at eS
      split at eS
      · assumption
      · cases eS
    obtain ⟨es, rfl, l1, l5⟩ := lenOk_list c0
    have hs1 := hs.same s1
    cases hs with
    | @lst a0 xs0 _ ha0 _ ts0 =>
      have hl0 : xs0.length = es.length := ts0.len
      refine ⟨_, rfl, _, rfl, a0, xs0, rfl, .inl (SqL.of (s1 _ _ ha0)), ex, "hearer", vh, dh, _, 1, 6, rfl, hh.same s1, by decide, fun r er H' dd s' hdd => ?_, fun eH H2 s2 => ?_⟩
      · refine qE "hearer" r ?_ H' dd (s1.trans s') hdd
        unfold badC
        rw [eS]
        show orP "hearer" (badG dh (es.length : Int) 1 6) _ = _
        rw [← hl0, er]
        rfl
      have eH' : badG dh (es.length : Int) 1 6 = none := by rw [← hl0]; exact eH
      have ch : lenOk (lenD dh) (es.length : Int) (es.length : Int) = true := by
        unfold badG at eH'
        split at eH'
        · assumption
        · cases eH'
      obtain ⟨hs', rfl, m1, m2⟩ := lenOk_list ch
      have fwH : firstWrongZ hs' 0 1 6 = none := by
        unfold badG at eH'
        rw [if_pos ch] at eH'
        cases z : firstWrongZ hs' 0 1 6 with
        | none => rfl
        | some j =>
          have : (firstWrongZ hs' 0 1 6).map (fun j => V.int (j : Nat)) = none := eH'
          rw [z] at this
          cases this
      cases hh with
      | @lst a1 xs1 _ ha1 _ ts1 =>
        obtain ⟨rh, hss, w1, w2, w3⟩ := rows_of ts1 fh fwH
        have hl1 : rh.length = es.length := by
          have := ts1.len
          rw [w1, List.length_map] at this
          omega
        have h0 : 0 < rh.length := by omega
        have er0 : rh[0]? = some rh[0] := List.getElem?_eq_getElem h0
        obtain ⟨cs0, q0, z1, z2, z3⟩ := w3.2 0 _ er0
        have s12 := s1.trans s2
        have hd : (cs0.length : Int) = (deedsD (.list hs') : Int) := by
          have : deedsD (.list hs') = cs0.length := by
            unfold deedsD
            show (itemsD (hs'.headD .none)).length = _
            rw [w2]
            cases hss with
            | nil => simp at z1
            | cons r hss =>
              have er : r = q0 := Option.some.inj z1
              show (r.map dR).length = _
              rw [List.length_map, z3.len, er]
          rw [this]
        have hd6 : (cs0.length : Int) ≤ 6 := by
          cases hs' with
          | nil =>
            have : es.length ≤ 0 := by simpa using m1
            omega
          | cons r hs' =>
            rw [firstWrongZ] at fwH
            split at fwH
            · rename_i c
              unfold rowOkZ at c
              rw [Bool.and_eq_true] at c
              obtain ⟨es', e, _, l6⟩ := lenOk_list c.1
              rw [hd]
              subst e
              exact l6
            · cases fwH
        refine ⟨_, rfl, a1, _, 0, .ref rh[0], rfl, rfl, SqL.of (s12 _ _ ha1), atI_nat (j := 0) (by rw [w1, List.getElem?_map, er0]; rfl), rh[0], cs0, rfl, .inl (SqL.of (s12 _ _ z2)), ?_⟩
        refine ⟨_, rfl, _, rfl, a0, xs0, rfl, .inl (SqL.of (s12 _ _ ha0)), _, rfl, _, rfl, ex, "teller", vt, dt, _, _, _, rfl, ht.same s12, hd6, fun r er H' dd s' hdd => ?_, fun eT H3 s3 => ?_⟩
        · refine qE "teller" r ?_ H' dd (s12.trans s') hdd
          unfold badC
          rw [eS]
          show orP "hearer" (badG (.list hs') (es.length : Int) 1 6) (orP "teller" (badG dt (es.length : Int) (deedsD (.list hs') : Int) (deedsD (.list hs') : Int)) none) = _
          rw [eH', ← hd, ← hl0, er]
          rfl
        have eT' : badG dt (es.length : Int) (deedsD (.list hs') : Int) (deedsD (.list hs') : Int) = none := by rw [← hd, ← hl0]; exact eT
        have ct : lenOk (lenD dt) (es.length : Int) (es.length : Int) = true := by
          unfold badG at eT'
          split at eT'
          · assumption
          · cases eT'
        obtain ⟨ts', rfl, n1, n2⟩ := lenOk_list ct
        have fwT : firstWrongZ ts' 0 (deedsD (.list hs') : Int) (deedsD (.list hs') : Int) = none := by
          unfold badG at eT'
          rw [if_pos ct] at eT'
          cases z : firstWrongZ ts' 0 (deedsD (.list hs') : Int) (deedsD (.list hs') : Int) with
          | none => rfl
          | some j =>
            have : (firstWrongZ ts' 0 (deedsD (.list hs') : Int) (deedsD (.list hs') : Int)).map (fun j => V.int (j : Nat)) = none := eT'
            rw [z] at this
            cases this
        have good : badC (.list es) (.list hs') (.list ts') = none := by
          unfold badC
          rw [eS]
          show orP "hearer" (badG (.list hs') (es.length : Int) 1 6) (orP "teller" (badG (.list ts') (es.length : Int) (deedsD (.list hs') : Int) (deedsD (.list hs') : Int)) none) = _
          rw [eH', eT']
          rfl
        cases ht with
        | @lst a2 xs2 _ ha2 _ ts2 =>
          obtain ⟨rt, tss, v1, v2, v3⟩ := rows_of ts2 ft fwT
          have hrat : es.all (fun e => (ratD e).isSome) = true := by
            have z : firstNot shD es 0 = none := by
              unfold badS at eS
              rw [if_pos c0] at eS
              have eS' : numS (firstNot shD es 0) (sumD es) = none := eS
              cases z : firstNot shD es 0 with
              | none => rfl
              | some j => rw [z] at eS'; cases eS'
            have hall := firstNot_all z
            rw [List.all_eq_true] at hall ⊢
            intro e he
            have := hall e he
            unfold shD at this
            cases z : ratD e with
            | none => rw [z] at this; cases this
            | some q => rfl
          obtain ⟨qs, g1, g2⟩ := ts0.rats (n := n) fs hrat
          have s123 := s12.trans s3
          have hhl : hss.length ≤ 100 := by have := w3.1; omega
          have htl : tss.length ≤ 100 := by
            have := v3.1
            have z := ts2.len
            rw [v1, List.length_map] at z
            omega
          -- the fields
          refine ⟨_, rfl, a0, xs0, rfl, .inl (SqL.of (s123 _ _ ha0)), fun sa nsa => ?_⟩
          have t1 := same_new nsa (.lst xs0)
          have esa : (upd H3 sa (.lst xs0)) sa = some (.lst xs0) := upd_same
          generalize upd H3 sa (.lst xs0) = H4 at t1 esa ⊢
          have s4 := s123.trans t1
          refine ⟨_, rfl, x, C, dx, [], rfl, s4 _ _ hx, T.cl, T.n1, by decide, ?_⟩
          have kx : ∀ {H1 : Hp} {fs gs : List (Str × V)}, H1 x = some (.ins C dx fs) → ∀ b xs, SqT K H1 b xs → SqT K (upd H1 x (.ins C dx gs)) b xs := fun {H1 fs gs} hx b xs z => by
            rcases z with (z | ⟨o, z⟩) | z
            · exact .inl (.inl (by rw [upd_ne (ne_of z hx (by intro w; cases w))]; exact z))
            · exact .inl (.inr ⟨o, by rw [upd_ne (ne_of z hx (by intro w; cases w))]; exact z⟩)
            · exact .inr z
          have wh : RwL K H4 a1 rh hss n := RwL.same ⟨by rw [← w1]; exact ha1, w3⟩ s4
          have wt : RwL K H4 a2 rt tss n := RwL.same ⟨by rw [← v1]; exact ha2, v3⟩ s4
          have hx4 := s4 _ _ hx
          have hx5 : (upd H4 x (.ins C dx (putF "own_shares" (.ref sa) []))) x = some (.ins C dx [("own_shares", .ref sa)]) := upd_same
          have wh5 := Rs.RwL.ins (gs := putF "own_shares" (.ref sa) []) wh hx4
          have wt5 := Rs.RwL.ins (gs := putF "own_shares" (.ref sa) []) wt hx4
          have sa5 : (upd H4 x (.ins C dx (putF "own_shares" (.ref sa) []))) sa = some (.lst xs0) := by rw [upd_ne (ne_of esa hx4 (by intro w; cases w))]; exact esa
          have fr5 : FrN K (upd H4 x (.ins C dx (putF "own_shares" (.ref sa) []))) n xs0 qs := (g2.same s4).keep (kx hx4)
          have k5 : ∀ b ob, b ≠ x → H b = some ob → (upd H4 x (.ins C dx (putF "own_shares" (.ref sa) []))) b = some ob := fun b ob hb e => by rw [upd_ne hb]; exact s4 _ _ e
          generalize upd H4 x (.ins C dx (putF "own_shares" (.ref sa) [])) = H5 at hx5 wh5 wt5 sa5 fr5 k5 ⊢
          refine ⟨_, rfl, a1, rh, hss, n, rfl, wh5, hhl, fun hA rh' H6 fr6 => ?_⟩
          have s6 := fr6.2.2.2.2.2
          have hx6 := s6 _ _ hx5
          refine ⟨_, rfl, x, C, dx, _, rfl, hx6, T.cl, T.n2, (by show 1 < 1000; decide), ?_⟩
          have hx7 : (upd H6 x (.ins C dx (putF "own_hearer" (.ref hA) [("own_shares", .ref sa)]))) x = some (.ins C dx [("own_shares", .ref sa), ("own_hearer", .ref hA)]) := upd_same
          have wA7 := Rs.RwL.ins (gs := putF "own_hearer" (.ref hA) [("own_shares", .ref sa)]) fr6.1 hx6
          have wt7 := Rs.RwL.ins (gs := putF "own_hearer" (.ref hA) [("own_shares", .ref sa)]) (wt5.same s6) hx6
          have sa7 : (upd H6 x (.ins C dx (putF "own_hearer" (.ref hA) [("own_shares", .ref sa)]))) sa = some (.lst xs0) := by rw [upd_ne (ne_of (s6 _ _ sa5) hx6 (by intro w; cases w))]; exact s6 _ _ sa5
          have fr7 : FrN K (upd H6 x (.ins C dx (putF "own_hearer" (.ref hA) [("own_shares", .ref sa)]))) n xs0 qs := (fr5.same s6).keep (kx hx6)
          have k7 : ∀ b ob, b ≠ x → H b = some ob → (upd H6 x (.ins C dx (putF "own_hearer" (.ref hA) [("own_shares", .ref sa)]))) b = some ob := fun b ob hb e => by rw [upd_ne hb]; exact s6 _ _ (k5 b ob hb e)
          generalize upd H6 x (.ins C dx (putF "own_hearer" (.ref hA) [("own_shares", .ref sa)])) = H7 at hx7 wA7 wt7 sa7 fr7 k7 ⊢
          refine ⟨_, rfl, a2, rt, tss, n, rfl, wt7, htl, fun tA rt' H8 fr8 => ?_⟩
          have s8 := fr8.2.2.2.2.2
          have hx8 := s8 _ _ hx7
          refine ⟨_, rfl, x, C, dx, _, rfl, hx8, T.cl, T.n3, (by show 2 < 1000; decide), ?_⟩
          refine q good sa hA tA xs0 rh' rt' qs hss tss _ (fun b ob hb e => ?_) upd_same ?_ ((fr7.same s8).keep (kx hx8)) (Rs.RwL.ins (wA7.same s8) hx8) (Rs.RwL.ins fr8.1 hx8) (by rw [g1]) (by rw [w2]; rfl) (by rw [v2]; rfl)
          · rw [upd_ne hb]
            exact s8 _ _ (k7 b ob hb e)
          · rw [upd_ne (ne_of (s8 _ _ sa7) hx8 (by intro w; cases w))]
            exact s8 _ _ sa7
end
end K5

set_option Elab.async false
set_option linter.all false
set_option maxRecDepth 100000
set_option maxHeartbeats 8000000
namespace K5
open PySem PySem.Spec PyProof.Rows L2 BX EXB Co Ru
open Dz Cs
open Rs (Rsp Rv Ret tYes_of dV datR Flat Okr spShares spRowsL spTotal spCopied eqv_dR)
open Fr (Bd)
section
variable {P : Program} {w : World} {K : PySem.W.Frag} {mg : Str → Option Value} {base : Heap}
theorem scLeft : FnScope ["_law_cell", "_law_left_here", "_law_number", "_law_turn"] ["_law_cell"] (defScope sLeft) := ⟨rfl, rfl, rfl, by decide +kernel, rfl, by decide +kernel, by decide +kernel⟩
theorem ok_left {f : Addr} {fd : FuncData} {k : Nat} (F : Fun K "_law_left" "_law_left" sLeft f fd) (B : Blt mg) : FnOk P w K mg base CX0 (k + 1) f fd ["_law_cell"] spLeft := by
  refine F.ok scLeft (fun vs H Q E h => ?_) (fun cdv A outer s H vs Q E hr h => ?_)
  · obtain ⟨c, rfl, _⟩ := h
    rfl
  · obtain ⟨c, rfl, q⟩ := h
    refine ⟨_, pss_cons (ps_set (i := 1) scLeft.nd rfl (.inl rfl) (pe_callB call_abs (by rfl) B.abs_ (by decide +kernel) (pa_cons (pv 0) pa_nil)))
      (pss_cons (ps_if (pt_cmpR op_lt (pv 1) (pe_op op_pow pe_int pe_int) (nomark _))
        (pss_cons (ps_set (i := 2) scLeft.nd rfl (.inl rfl) (pv 0))
        (pss_one (ps_for PassesOwn.never rfl (pi_range1 (by rfl) B.range_ (pa_cons pe_int pa_nil)) (pg_name (i := 3) scLeft.nd rfl (.inl rfl))
          (pss_cons (ps_set (i := 2) scLeft.nd rfl (.inl rfl) (pe_op op_mod (pe_op op_mul (pe_op op_add (pe_op op_mod (pv 2) pe_int) pe_int) pe_int) pe_int))
          (pss_cons (ps_set (i := 2) scLeft.nd rfl (.inl rfl) (pe_op op_add (pe_op op_mod (pe_op op_mul (pv 2) pe_int) pe_int) (pv 3)))
          (pss_one (ps_set (i := 1) scLeft.nd rfl (.inl rfl) (pe_op op_add (pe_op op_mul (pv 1) pe_int) (pv 2)))))))))
        pss_nil)
      (pss_one (ps_ret (pe_lst (pa_cons (pv 1) pa_nil))))), ?_⟩
    refine ⟨_, rfl, c, rfl, ?_⟩
    refine ⟨_, rfl, 10, 18, rfl, rfl, ⟨by decide, by decide, by decide⟩, _, _, rfl, rfl, _, rfl, ite2 (fun z => ?_) (fun z => ?_)⟩
    · refine ⟨_, rfl, 40, rfl, by decide, by decide, for_range (lo := 0) (n := 40) (fun i σ H' => ∃ (n m : Int) (y : Option V), σ = [some (.int c), some (.int n), some (.int m), y] ∧ H' = H) ⟨_, _, none, rfl, rfl⟩ ?_ ?_⟩
      · rintro i σ H' hi ⟨n, m, y, rfl, rfl⟩
        refine ⟨_, rfl, _, _, rfl, rfl, (by show (0 : Int) < 2147483629; decide), _, _, rfl, rfl, _, _, rfl, rfl, .inr ⟨by decide, by decide⟩, _, _, rfl, rfl, (by show (0 : Int) < 2147483629; decide), ?_⟩
        refine ⟨_, rfl, _, _, rfl, rfl, .inr ⟨by decide, by decide⟩, _, _, rfl, rfl, (by show (0 : Int) < 2147483647; decide), _, rfl, _, _, rfl, rfl, ?_⟩
        refine ⟨_, rfl, _, _, rfl, rfl, .inr ⟨by decide, by decide⟩, _, rfl, _, _, rfl, rfl, ?_⟩
        exact ⟨_, _, _, rfl, rfl⟩
      · rintro σ H' ⟨n, m, y, rfl, rfl⟩
        exact ⟨_, rfl, (by show 1 ≤ sizeLine; decide), fun p hp => q p n hp⟩
    · exact ⟨_, rfl, (by show 1 ≤ sizeLine; decide), fun p hp => q p _ hp⟩
theorem scDigit : FnScope ["_law_left_here", "_law_many", "_law_found"] ["_law_left_here", "_law_many"] (defScope sDigit) := ⟨rfl, rfl, rfl, by decide +kernel, rfl, by decide +kernel, by decide +kernel⟩
theorem ok_digit {f : Addr} {fd : FuncData} {k : Nat} (F : Fun K "_law_digit" "_law_digit" sDigit f fd) : FnOk P w K mg base CX0 (k + 1) f fd ["_law_left_here", "_law_many"] spDigit := by
  refine F.ok scDigit (fun vs H Q E h => ?_) (fun cdv A outer s H vs Q E hr h => ?_)
  · obtain ⟨l, n, m, rfl, _⟩ := h
    rfl
  · obtain ⟨l, n, m, rfl, hl, hm, hmb, q⟩ := h
    refine ⟨_, pss_cons (ps_set (i := 2) scDigit.nd rfl (.inl rfl) (pe_op op_mod (pe_ix ix_list (pv 0) pe_int (fun _ _ => rfl)) (pv 1)))
      (pss_cons (ps_asg (pe_op op_fdivW (pe_ix ix_list (pv 0) pe_int (fun _ _ => rfl)) (pv 1)) (pg_sub (pv 0) pe_int set_list))
      (pss_one (ps_ret (pv 2)))), ?_⟩
    refine ⟨_, rfl, l, _, 0, .int n, rfl, rfl, SqL.of hl, atI_nat (j := 0) rfl, _, rfl, _, _, rfl, rfl, hm, ?_⟩
    refine ⟨_, rfl, l, _, 0, .int n, rfl, rfl, SqL.of hl, atI_nat (j := 0) rfl, _, rfl, _, _, rfl, rfl, wide_div hm hmb (by decide) (by decide), ?_⟩
    refine ⟨_, rfl, l, _, 0, 0, rfl, rfl, hl, rfl, ?_⟩
    exact ⟨_, rfl, q _ _ (Int.emod_nonneg _ (by omega)) (Int.emod_lt_of_pos _ hm)⟩
theorem scLow : FnScope ["_law_top", "_law_bottom", "_law_one", "_law_other"] ["_law_top", "_law_bottom"] (defScope sLow) := ⟨rfl, rfl, rfl, by decide +kernel, rfl, by decide +kernel, by decide +kernel⟩
theorem ok_low {f : Addr} {fd : FuncData} {k : Nat} (F : Fun K "_law_low" "_law_low" sLow f fd) (B : Blt mg) : FnOk P w K mg base CX0 (k + 1) f fd ["_law_top", "_law_bottom"] spLow := by
  refine F.ok scLow (fun vs H Q E h => ?_) (fun cdv A outer s H vs Q E hr h => ?_)
  · obtain ⟨a, b, n, rfl, _⟩ := h
    rfl
  · obtain ⟨t, b, n, rfl, ht, hb, h0, hn, q⟩ := h
    refine ⟨_, pss_cons (ps_set (i := 2) scLow.nd rfl (.inl rfl) (pe_callB call_abs (by rfl) B.abs_ (by decide +kernel) (pa_cons (pv 0) pa_nil)))
      (pss_cons (ps_set (i := 3) scLow.nd rfl (.inl rfl) (pe_callB call_abs (by rfl) B.abs_ (by decide +kernel) (pa_cons (pv 1) pa_nil)))
      (pss_cons (ps_while PassesOwn.never (pt_cmpR op_gt (pv 3) pe_int (nomark _))
        (pss_one (ps_par (i := 2) (j := 3) (by rfl) scLow.nd rfl rfl (by decide) rfl rfl (pa_cons (pv 3) (pa_cons (pe_op op_modN (pv 2) (pv 3)) pa_nil)) (by rfl))))
      (pss_cons (ps_if (pt_cmpR op_lt (pv 1) pe_int (nomark _)) (pss_one (ps_set (i := 2) scLow.nd rfl (.inl rfl) (pe_op op_sub pe_int (pv 2)))) pss_nil)
      (pss_one (ps_ret (pe_tup (pa_cons (pe_op op_fdivZ (pv 0) (pv 2)) (pa_cons (pe_op op_fdivZ (pv 1) (pv 2)) pa_nil)))))))), ?_⟩
    have hg := Fr.gcd_pos (t := t) h0
    have hgb := gcd_bd (t := t) h0 hb
    have hn0 : 0 < n := by
      cases n with
      | zero => simp at hb; omega
      | succ n => omega
    refine ⟨_, rfl, t, rfl, ?_⟩
    refine ⟨_, rfl, b, rfl, ?_⟩
    rw [abs_eq, abs_eq]
    refine ⟨fun m σ H' => ∃ x y : Int, σ = [some (.int t), some (.int b), some (.int x), some (.int y)] ∧ 0 ≤ x ∧ 0 ≤ y ∧ m = y.natAbs ∧ Int.gcd x y = Int.gcd t b ∧ H' = H,
      ⟨_, (t.natAbs : Int), (b.natAbs : Int), rfl, by omega, by omega, rfl, ?_, rfl⟩, ?_⟩
    · rw [Int.gcd, Int.gcd, Int.natAbs_natCast, Int.natAbs_natCast]
    rintro m σ H' ⟨x, y, rfl, hx, hy, rfl, hgg, rfl⟩
    refine ⟨_, rfl, y, 0, rfl, rfl, _, rfl, ite2 (fun c => ?_) (fun c => ?_)⟩
    · have hy0 : 0 < y := of_decide_eq_true c
      refine ⟨fun σ' H'' => ∃ x' y' : Int, σ' = [some (.int t), some (.int b), some (.int x'), some (.int y')] ∧ 0 ≤ x' ∧ 0 ≤ y' ∧ y'.natAbs < y.natAbs ∧ Int.gcd x' y' = Int.gcd t b ∧ H'' = H', ?_, ?_⟩
      · rintro σ' H'' ⟨x', y', e1, e2, e3, e4, e5, e6⟩
        exact ⟨y'.natAbs, e4, x', y', e1, e2, e3, rfl, e5, e6⟩
      · refine ⟨.int y, rfl, .int x, rfl, .int y, rfl, x, y, rfl, rfl, (by omega : y ≠ 0), _, _, rfl, y, _, rfl, hy, Int.fmod_nonneg_of_pos x hy0, Fr.fmod_abs x (by omega), ?_, rfl⟩
        rw [Fr.gcd_step]
        exact hgg
    · have hy0 : y = 0 := by
        have : ¬ 0 < y := of_decide_eq_false (Bool.eq_false_iff.mpr c)
        omega
      subst hy0
      rw [Int.gcd_zero_right] at hgg
      have ex : x = (Int.gcd t b : Int) := by omega
      subst ex
      refine ⟨_, rfl, b, 0, rfl, rfl, _, rfl, ite2 (fun c2 => ?_) (fun c2 => ?_)⟩
      · have hb0 : b < 0 := of_decide_eq_true c2
        refine ⟨_, rfl, 0, _, rfl, rfl, ?_⟩
        have d : ∀ i : Int, CDivZ i (0 - (Int.gcd t b : Int)) := fun i => divZ (n := n) (by omega) (by rw [Int.zero_sub, Int.natAbs_neg]; exact hgb) hn0 (by omega)
        refine ⟨_, rfl, _, rfl, t, _, rfl, rfl, d _, _, rfl, _, rfl, b, _, rfl, rfl, d _, (by show 2 ≤ sizeLine; decide), fun p hp => ?_⟩
        have z := q p hp
        rw [rp, ← Fr.lowN_num hb0, ← Fr.lowN_den hb0] at z
        rw [Int.zero_sub]
        exact z
      · have hb0 : 0 < b := by
          have : ¬ b < 0 := of_decide_eq_false (Bool.eq_false_iff.mpr c2)
          omega
        have d : ∀ i : Int, CDivZ i (Int.gcd t b : Int) := fun i => divZ (n := n) (by omega) hgb hn0 (by omega)
        refine ⟨_, rfl, _, rfl, t, _, rfl, rfl, d _, _, rfl, _, rfl, b, _, rfl, rfl, d _, (by show 2 ≤ sizeLine; decide), fun p hp => ?_⟩
        have z := q p hp
        rw [rp, ← Fr.low_num hb0, ← Fr.low_den hb0] at z
        exact z

theorem scLPlus : FnScope ["_law_one", "_law_other"] ["_law_one", "_law_other"] (defScope sLPlus) := ⟨rfl, rfl, rfl, by decide +kernel, rfl, by decide +kernel, by decide +kernel⟩
theorem ok_LPlus {f fC : Addr} {fd fdC : FuncData} {k : Nat} (F : Fun K "_law_plus" "_law_plus" sLPlus f fd) (GC : FnOk P w K mg base CX0 k fC fdC ["_law_top", "_law_bottom"] spLow) (kC : PySem.W.keepIn K (.ref fC) = true) (bC : Binds K fdC ["_law_top", "_law_bottom"] []) (gC : mg "_law_low" = some (.ref fC)) :
    FnOk P w K mg base CX0 (k + 1) f fd ["_law_one", "_law_other"] (spBin K (· + ·)) := by
  refine F.ok scLPlus (fun vs H Q E h => ?_) (fun cdv A outer s H vs Q E hr h => ?_)
  · obtain ⟨a, b, x, y, n, m, rfl, _⟩ := h
    rfl
  · obtain ⟨a, b, x, y, n, m, rfl, hx, hy, bx, by_, hn, q⟩ := h
    refine ⟨_, pss_one (ps_ret (pe_call GC hr (by rfl) gC kC bC .nil pass0 (pa_cons (pe_op op_add (pe_op op_mulW (pe_ix ix_tup (pv 0) pe_int (fun _ _ => rfl)) (pe_ix ix_tup (pv 1) pe_int (fun _ _ => rfl))) (pe_op op_mulW (pe_ix ix_tup (pv 1) pe_int (fun _ _ => rfl)) (pe_ix ix_tup (pv 0) pe_int (fun _ _ => rfl)))) (pa_cons (pe_op op_mulW (pe_ix ix_tup (pv 0) pe_int (fun _ _ => rfl)) (pe_ix ix_tup (pv 1) pe_int (fun _ _ => rfl))) pa_nil)))), ?_⟩
    refine ⟨.ref a, rfl, a, rp x, 0, .int x.num, rfl, rfl, hx, at0 x, .ref b, rfl, b, rp y, 1, .int (y.den : Int), rfl, rfl, hy, at1 y, _, _, rfl, rfl, wmul bx.1 by_.dn (by omega), .ref b, rfl, b, rp y, 0, .int y.num, rfl, rfl, hy, at0 y, .ref a, rfl, a, rp x, 1, .int (x.den : Int), rfl, rfl, hx, at1 x, _, _, rfl, rfl, wmul by_.1 bx.dn (by omega), _, _, rfl, rfl, .ref a, rfl, a, rp x, 1, .int (x.den : Int), rfl, rfl, hx, at1 x, .ref b, rfl, b, rp y, 1, .int (y.den : Int), rfl, rfl, hy, at1 y, _, _, rfl, rfl, wmul bx.dn by_.dn (by omega), _, _, n + m + 1, rfl, Fr.add_bd (Fr.mul_bd bx.1 by_.dn) (by rw [Nat.add_comm n m]; exact Fr.mul_bd by_.1 bx.dn), Fr.up (Fr.mul_bd bx.dn by_.dn) (Nat.le_succ _), Fr.dd_ne x y, by omega, fun p hp => ?_⟩
    have z := q p hp
    rw [Fr.add_eq]
    exact z

theorem scLLess : FnScope ["_law_one", "_law_other"] ["_law_one", "_law_other"] (defScope sLLess) := ⟨rfl, rfl, rfl, by decide +kernel, rfl, by decide +kernel, by decide +kernel⟩
theorem ok_LLess {f fC : Addr} {fd fdC : FuncData} {k : Nat} (F : Fun K "_law_less" "_law_less" sLLess f fd) (GC : FnOk P w K mg base CX0 k fC fdC ["_law_top", "_law_bottom"] spLow) (kC : PySem.W.keepIn K (.ref fC) = true) (bC : Binds K fdC ["_law_top", "_law_bottom"] []) (gC : mg "_law_low" = some (.ref fC)) :
    FnOk P w K mg base CX0 (k + 1) f fd ["_law_one", "_law_other"] (spBin K (· - ·)) := by
  refine F.ok scLLess (fun vs H Q E h => ?_) (fun cdv A outer s H vs Q E hr h => ?_)
  · obtain ⟨a, b, x, y, n, m, rfl, _⟩ := h
    rfl
  · obtain ⟨a, b, x, y, n, m, rfl, hx, hy, bx, by_, hn, q⟩ := h
    refine ⟨_, pss_one (ps_ret (pe_call GC hr (by rfl) gC kC bC .nil pass0 (pa_cons (pe_op op_sub (pe_op op_mulW (pe_ix ix_tup (pv 0) pe_int (fun _ _ => rfl)) (pe_ix ix_tup (pv 1) pe_int (fun _ _ => rfl))) (pe_op op_mulW (pe_ix ix_tup (pv 1) pe_int (fun _ _ => rfl)) (pe_ix ix_tup (pv 0) pe_int (fun _ _ => rfl)))) (pa_cons (pe_op op_mulW (pe_ix ix_tup (pv 0) pe_int (fun _ _ => rfl)) (pe_ix ix_tup (pv 1) pe_int (fun _ _ => rfl))) pa_nil)))), ?_⟩
    refine ⟨.ref a, rfl, a, rp x, 0, .int x.num, rfl, rfl, hx, at0 x, .ref b, rfl, b, rp y, 1, .int (y.den : Int), rfl, rfl, hy, at1 y, _, _, rfl, rfl, wmul bx.1 by_.dn (by omega), .ref b, rfl, b, rp y, 0, .int y.num, rfl, rfl, hy, at0 y, .ref a, rfl, a, rp x, 1, .int (x.den : Int), rfl, rfl, hx, at1 x, _, _, rfl, rfl, wmul by_.1 bx.dn (by omega), _, _, rfl, rfl, .ref a, rfl, a, rp x, 1, .int (x.den : Int), rfl, rfl, hx, at1 x, .ref b, rfl, b, rp y, 1, .int (y.den : Int), rfl, rfl, hy, at1 y, _, _, rfl, rfl, wmul bx.dn by_.dn (by omega), _, _, n + m + 1, rfl, Fr.sub_bd (Fr.mul_bd bx.1 by_.dn) (by rw [Nat.add_comm n m]; exact Fr.mul_bd by_.1 bx.dn), Fr.up (Fr.mul_bd bx.dn by_.dn) (Nat.le_succ _), Fr.dd_ne x y, by omega, fun p hp => ?_⟩
    have z := q p hp
    rw [Fr.sub_eq]
    exact z
theorem scShares : FnScope ["_law_left_here", "_law_many", "_law_some", "_law_k", "_law_one"] ["_law_left_here", "_law_many"] (defScope sShares) := ⟨rfl, rfl, rfl, by decide +kernel, rfl, by decide +kernel, by decide +kernel⟩
theorem ok_Shares {f fD fL : Addr} {fd fdD fdL : FuncData} {k : Nat} (F : Fun K "_law_shares" "_law_shares" sShares f fd) (GD : FnOk P w K mg base CX0 k fD fdD ["_law_left_here", "_law_many"] spDigit) (kD : PySem.W.keepIn K (.ref fD) = true) (bD : Binds K fdD ["_law_left_here", "_law_many"] []) (gD : mg "_law_digit" = some (.ref fD))
    (GL : FnOk P w K mg base CX0 k fL fdL ["_law_top", "_law_bottom"] spLow) (kL : PySem.W.keepIn K (.ref fL) = true) (bL : Binds K fdL ["_law_top", "_law_bottom"] []) (gL : mg "_law_low" = some (.ref fL)) (B : Blt mg) : FnOk P w K mg base CX0 (k + 1) f fd ["_law_left_here", "_law_many"] (spShares K) := by
  refine F.ok scShares (fun vs H Q E h => ?_) (fun cdv A outer s H vs Q E hr h => ?_)
  · obtain ⟨l, z, m, rfl, _⟩ := h
    rfl
  · obtain ⟨l, z, m, rfl, hl, h1, h30, q⟩ := h
    refine ⟨_, pss_cons (ps_set (i := 2) scShares.nd rfl (.inr rfl) (pe_lc (own := [("_law_k", 3)]) (g := gName 3) (tt := tYes) (te := tOp (rIxL K) (tLst (tCons (tC (.int 0)) (tCons (tC (.int 1)) (tCons (tC (.int 1)) (tCons (tC (.int 2)) (tCons (tC (.int 3)) (tCons (tC (.int 5)) tNil))))))) (tCall spDigit [] E0 (tCons (tVar 0) (tCons (tC (.int 6)) tNil)))) rfl scShares.nd (pi_range1 (by rfl) B.range_ (pa_cons (pv 1) pa_nil))
        (blkOk_by (N := ["_law_left_here", "_law_many", "_law_some", "_law_k", "_law_one"]) (sc := defScope sShares) (by decide +kernel)) (fun _ _ _ _ _ => pg_name (i := 3) scShares.nd rfl (Or.inl rfl)) (fun _ _ _ _ _ => pts_nil)
        (fun _ _ _ _ _ => pe_ix ix_list (pe_lst (pa_cons pe_int (pa_cons pe_int (pa_cons pe_int (pa_cons pe_int (pa_cons pe_int (pa_cons pe_int pa_nil))))))) (pe_call GD hr (by rfl) gD kD bD .nil pass0 (pa_cons (pv 0) (pa_cons pe_int pa_nil))) (fun _ _ => rfl))))
      (pss_cons (ps_augS (pv 2) (pe_call GD hr (by rfl) gD kD bD .nil pass0 (pa_cons (pv 0) (pa_cons (pv 1) pa_nil))) Rs.pget_list pe_int ip_add set_list)
      (pss_one (ps_ret (pe_lc (own := [("_law_one", 4)]) (g := gName 4) (tt := tYes) (te := tCall spLow [] E0 (tCons (tVar 4) (tCons (tCB (rSum K) (tCons (tVar 2) tNil)) tNil))) rfl scShares.nd (pi_list (pv 2))
        (blkOk_by (N := ["_law_left_here", "_law_many", "_law_some", "_law_k", "_law_one"]) (sc := defScope sShares) (by decide +kernel)) (fun _ _ _ _ _ => pg_name (i := 4) scShares.nd rfl (Or.inl rfl)) (fun _ _ _ _ _ => pts_nil)
        (fun _ _ _ _ _ => pe_call GL hr (by rfl) gL kL bL .nil pass0 (pa_cons (pv 4) (pa_cons (pe_callB (id := "sum") (cr_sum rfl) (by rfl) B.sum_ (by decide +kernel) (pa_cons (pv 2) pa_nil)) pa_nil))))))), ?_⟩
    -- the numbers
    refine ⟨_, rfl, (m : Int), rfl, by omega, by omega, fun S hS => lc_range (lo := 0) (n := (m : Int).toNat) (fun j H' => ∃ (ns : List Int) (z' : Int), H' S = some (.lst (ns.map V.int)) ∧ ns.length = j ∧ (∀ x ∈ ns, 0 ≤ x ∧ x ≤ 5) ∧ SameB l H H' ∧ H' l = some (.lst [.int z']))
      ⟨[], z, upd_same, rfl, fun x hx => by simp at hx, SameB.of (same_new hS _), same_new hS _ _ _ hl⟩ ?_ ?_⟩
    · rintro j H1 hj ⟨ns, z1, hS1, hlen, hns, sb, hl1⟩
      refine ⟨rfl, ?_⟩
      unfold tYes
      dsimp only
      refine iteT ?_
      refine ⟨(by show 6 ≤ sizeLine; decide), fun p hp => ?_⟩
      have s1 := same_new hp (.lst [V.int 0, V.int 1, V.int 1, V.int 2, V.int 3, V.int 5])
      have hpl : p ≠ l := fun e => by
        rw [e, hl1] at hp
        cases hp
      have hSl : S ≠ l := fun e => by
        rw [e, hl] at hS
        cases hS
      refine ⟨_, rfl, l, z1, 6, rfl, s1 _ _ hl1, by decide, by decide, fun d z2 d0 d6 => ?_⟩
      obtain ⟨v, ev, v0, v5⟩ := Rs.tab_at d0 d6
      refine ⟨p, _, d, .int v, rfl, rfl, SqL.of (by rw [upd_ne hpl, upd_same]), ev, ?_⟩
      refine ⟨_, by rw [upd_ne hSl]; exact s1 _ _ hS1, ?_, ns ++ [v], z2, ?_, ?_, ?_, ?_, ?_⟩
      · rw [List.length_map, hlen]
        exact small1000 (by omega)
      · rw [upd_same, List.map_append]
        rfl
      · rw [List.length_append, hlen]
        rfl
      · intro x hx
        rcases List.mem_append.mp hx with hx | hx
        · exact hns x hx
        · rw [List.mem_singleton.mp hx]
          exact ⟨v0, v5⟩
      · intro b u hb e
        have hbS : b ≠ S := ne_of_none e hS
        rw [upd_ne hbS, upd_ne hb]
        exact s1 _ _ (sb b u hb e)
      · rw [upd_ne (Ne.symm hSl), upd_same]
    · rintro H1 ⟨ns, z1, hS1, hlen, hns, sb, hl1⟩
      rw [Int.toNat_natCast] at hlen
      have hSl : S ≠ l := fun e => by
        rw [e, hl] at hS
        cases hS
      -- += 1
      refine ⟨_, rfl, _, rfl, _, rfl, l, z1, (m : Int), rfl, hl1, by omega, Nat.lt_of_le_of_lt (by omega : ((m : Int)).natAbs ≤ 30) (by decide), fun d z2 d0 dm => ?_⟩
      have hd : d.toNat < ns.length := by omega
      obtain ⟨x, ex⟩ : ∃ x, ns[d.toNat]? = some x := ⟨_, List.getElem?_eq_getElem hd⟩
      have ed : d = ((d.toNat : Nat) : Int) := by omega
      have hS2 : (upd H1 l (.lst [.int z2])) S = some (.lst (ns.map V.int)) := by rw [upd_ne hSl]; exact hS1
      refine ⟨S, _, d.toNat, .int x, rfl, by rw [← ed], SqL.of hS2, by rw [List.getElem?_map, ex]; rfl, x, 1, rfl, rfl, S, _, d, d.toNat, rfl, rfl, hS2, ?_, ?_⟩
      · unfold ixN
        rw [if_pos d0, if_pos (by rw [List.length_map]; omega)]
      have es : (ns.map V.int).set d.toNat (.int (x + 1)) = (ns.set d.toNat (x + 1)).map V.int := (List.map_set ..).symm
      rw [es]
      have hx0 := hns x (List.mem_of_getElem? ex)
      have hn2 : ∀ y ∈ ns.set d.toNat (x + 1), 0 ≤ y ∧ y ≤ 6 := fun y hy => by
        rcases List.mem_or_eq_of_mem_set hy with hy | rfl
        · have := hns y hy
          omega
        · omega
      have hlen2 : (ns.set d.toNat (x + 1)).length = m := by rw [List.length_set, hlen]
      have hsum : (ns.set d.toNat (x + 1)).sum = ns.sum + 1 := Rs.set_sumI ns _ x ex
      have hpos : 0 < (ns.set d.toNat (x + 1)).sum := by
        have := Rs.sum_nn ns fun y hy => (hns y hy).1
        omega
      have hle : (ns.set d.toNat (x + 1)).sum ≤ 6 * 30 := by
        have := Rs.sum_le (ns.set d.toNat (x + 1)) 6 fun y hy => (hn2 y hy).2
        rw [hlen2] at this
        omega
      generalize ns.set d.toNat (x + 1) = ms at hn2 hlen2 hsum hpos hle
      have bS : ms.sum.natAbs < 2 ^ 8 := Nat.lt_of_le_of_lt (by omega : ms.sum.natAbs ≤ 180) (by decide)
      -- the fractions
      refine ⟨_, rfl, S, rfl, ⟨_, SqL.of upd_same⟩, fun L hL => lc_list (K := K) (a := S) (xs := ms.map V.int) (fun i H' => ∃ cs, H' L = some (.lst cs) ∧ Same (upd (upd H1 l (.lst [.int z2])) S (.lst (ms.map V.int))) H' ∧ FrN K H' 8 cs ((ms.take i).map fun x => Rat.divInt x ms.sum))
        ⟨[], upd_same, same_new hL _, FrN.nil⟩ (fun i H' _ ⟨_, _, s5, _⟩ => SqL.of (s5 _ _ upd_same)) ?_ ?_⟩
      · rintro i v H' hi ⟨cs, hcs, s5, hf⟩
        rw [List.getElem?_map] at hi
        obtain ⟨y, ey, rfl⟩ : ∃ y, ms[i]? = some y ∧ v = .int y := by
          cases e : ms[i]? with
          | none => rw [e] at hi; cases hi
          | some r => rw [e] at hi; exact ⟨r, rfl, (Option.some.inj hi).symm⟩
        have hy := hn2 y (List.mem_of_getElem? ey)
        have by8 : y.natAbs < 2 ^ 8 := Nat.lt_of_le_of_lt (by omega : y.natAbs ≤ 6) (by decide)
        refine ⟨rfl, ?_⟩
        unfold tYes; dsimp only
        refine iteT ?_
        refine ⟨_, rfl, _, rfl, S, ms, rfl, SqL.of (s5 _ _ upd_same), y, ms.sum, 8, rfl, by8, bS, by omega, by decide, fun t ht => ?_⟩
        have s6 := same_new ht (.tup (rp (Rat.divInt y ms.sum)))
        refine ⟨cs, s6 _ _ hcs, ?_, _, upd_same, fun b u e => ?_, ?_⟩
        · rw [hf.len, List.length_map, List.length_take]
          exact small1000 (by omega)
        · rw [upd_ne (ne_of_none e hL)]
          exact s6 _ _ (s5 _ _ e)
        · rw [List.take_add_one, ey, List.map_append]
          exact ((hf.same s6).snoc (q := Rat.divInt y ms.sum) (SqT.of upd_same) (Fr.bd_low by8 bS (by omega))).keep (keep_lst (s6 _ _ hcs))
      · rintro H' ⟨cs, hcs, s5, hf⟩
        rw [List.length_map, List.take_length] at hf
        have sb2 : SameB l H (upd (upd H1 l (.lst [.int z2])) S (.lst (ms.map V.int))) := fun b u hb e => by
          rw [upd_ne (ne_of_none e hS), upd_ne hb]
          exact sb b u hb e
        have hLl : L ≠ l := fun e => by
          rw [e, upd_ne (Ne.symm hSl), upd_same] at hL
          cases hL
        have hL0 : H L = none := by
          cases e : H L with
          | none => rfl
          | some u =>
            rw [sb2 L u hLl e] at hL
            cases hL
        exact q L cs (Rs.shq ms) z2 H' (sb2.trans (SameB.of s5)) (s5 _ _ (by rw [upd_ne (Ne.symm hSl), upd_same])) hL0 hLl hcs hf (Rs.shq_ok hlen2 (fun y hy => (hn2 y hy).1) hpos)
theorem scGain : FnScope ["_law_left_here"] ["_law_left_here"] (defScope sGain) := ⟨rfl, rfl, rfl, by decide +kernel, rfl, by decide +kernel, by decide +kernel⟩
theorem ok_Gain {f fD fL : Addr} {fd fdD fdL : FuncData} {k : Nat} (F : Fun K "_law_gain" "_law_gain" sGain f fd) (GD : FnOk P w K mg base CX0 k fD fdD ["_law_left_here", "_law_many"] spDigit) (kD : PySem.W.keepIn K (.ref fD) = true) (bD : Binds K fdD ["_law_left_here", "_law_many"] []) (gD : mg "_law_digit" = some (.ref fD)) (GL : FnOk P w K mg base CX0 k fL fdL ["_law_top", "_law_bottom"] spLow) (kL : PySem.W.keepIn K (.ref fL) = true) (bL : Binds K fdL ["_law_top", "_law_bottom"] []) (gL : mg "_law_low" = some (.ref fL)) : FnOk P w K mg base CX0 (k + 1) f fd ["_law_left_here"] (Lw.spGain K) := by
  refine F.ok scGain (fun vs H Q E h => ?_) (fun cdv A outer s H vs Q E hr h => ?_)
  · obtain ⟨l, z, rfl, _⟩ := h
    rfl
  · obtain ⟨l, z, rfl, hl, q⟩ := h
    refine ⟨_, (pss_one (ps_ret (pe_call GL hr (by rfl) gL kL bL .nil pass0 (pa_cons (pe_op op_sub (pe_call GD hr (by rfl) gD kD bD .nil pass0 (pa_cons (pv 0) (pa_cons pe_int pa_nil))) pe_int) (pa_cons (pe_ix ix_list (pe_lst (pa_cons pe_int (pa_cons pe_int (pa_cons pe_int (pa_cons pe_int (pa_cons pe_int pa_nil)))))) (pe_call GD hr (by rfl) gD kD bD .nil pass0 (pa_cons (pv 0) (pa_cons pe_int pa_nil))) (fun _ _ => rfl)) pa_nil))))), ?_⟩
    refine ⟨_, rfl, l, z, 9, rfl, hl, by decide, by decide, fun d z1 d0 d9 => ?_⟩
    refine ⟨d, 4, rfl, rfl, ?_⟩
    refine ⟨(by show 5 ≤ sizeLine; decide), fun p np => ?_⟩
    have hpl : p ≠ l := fun e => by
      rw [e, upd_same] at np
      cases np
    have s1 := same_new np (.lst [V.int 1, V.int 1, V.int 1, V.int 2, V.int 3])
    refine ⟨_, rfl, l, z1, 5, rfl, s1 _ _ upd_same, by decide, by decide, fun e z2 e0 e5 => ?_⟩
    obtain ⟨v, ev, v1, v3⟩ := Lw.tab5 e0 e5
    refine ⟨p, _, e, .int v, rfl, rfl, SqL.of (by rw [upd_ne hpl, upd_same]), ev, ?_⟩
    have sb : SameB l H (upd (upd (upd H l (.lst [.int z1])) p (.lst [V.int 1, V.int 1, V.int 1, V.int 2, V.int 3])) l (.lst [.int z2])) := (SameB.upd.trans (SameB.of s1)).trans SameB.upd
    have hl2 : (upd (upd (upd H l (.lst [.int z1])) p (.lst [V.int 1, V.int 1, V.int 1, V.int 2, V.int 3])) l (.lst [.int z2])) l = some (.lst [.int z2]) := upd_same
    generalize upd (upd (upd H l (.lst [.int z1])) p (.lst [V.int 1, V.int 1, V.int 1, V.int 2, V.int 3])) l (.lst [.int z2]) = H2 at sb hl2 ⊢
    have hd : (d - 4).natAbs < 2 ^ 8 := Nat.lt_of_le_of_lt (show (d - 4).natAbs ≤ 5 by omega) (by decide)
    have hv : v.natAbs < 2 ^ 8 := Nat.lt_of_le_of_lt (show v.natAbs ≤ 3 by omega) (by decide)
    refine ⟨d - 4, v, 8, rfl, hd, hv, by omega, by decide, fun p2 np2 => ?_⟩
    exact q p2 _ z2 _ (sb.trans (SameB.of (same_new np2 _))) (same_new np2 _ _ _ hl2) (SqT.of upd_same) (Fr.bd_low hd hv (by omega))
theorem scGains : FnScope ["_law_left_here", "_law_worlds", "_law_deeds", "_law_deed", "_law_world"] ["_law_left_here", "_law_worlds", "_law_deeds"] (defScope sGains) := ⟨rfl, rfl, rfl, by decide +kernel, rfl, by decide +kernel, by decide +kernel⟩
theorem ok_Gains {f fG : Addr} {fd fdG : FuncData} {k : Nat} (F : Fun K "_law_gains" "_law_gains" sGains f fd) (GG : FnOk P w K mg base CX0 k fG fdG ["_law_left_here"] (Lw.spGain K)) (kG : PySem.W.keepIn K (.ref fG) = true) (bG : Binds K fdG ["_law_left_here"] []) (gG : mg "_law_gain" = some (.ref fG)) (B : Blt mg) : FnOk P w K mg base CX0 (k + 1) f fd ["_law_left_here", "_law_worlds", "_law_deeds"] (Lw.spGains K) := by
  refine F.ok scGains (fun vs H Q E h => ?_) (fun cdv A outer s H vs Q E hr h => ?_)
  · obtain ⟨l, z, ww, dd, rfl, _⟩ := h
    rfl
  · obtain ⟨l, z, ww, dd, rfl, hl, h5, h6, q⟩ := h
    refine ⟨_, (pss_one (ps_ret (pe_lc (own := [("_law_world", 4)]) (g := gName 4) (tt := tYes) (te := (tLc (iRng1 (tCons (tVar 2) tNil)) (gName 3) tYes (tCall (Lw.spGain K) [] E0 (tCons (tVar 0) tNil)) [3])) rfl scGains.nd (pi_range1 (by rfl) B.range_ (pa_cons (pv 1) pa_nil)) (blkOk_by (N := ["_law_left_here", "_law_worlds", "_law_deeds", "_law_deed", "_law_world"]) (sc := defScope sGains) (by decide +kernel)) (fun _ _ _ _ _ => (pg_name (i := 4) scGains.nd rfl (Or.inl rfl))) (fun _ _ _ _ _ => pts_nil) (fun _ _ _ _ _ => (pe_lc (own := [("_law_deed", 3)]) (g := gName 3) (tt := tYes) (te := (tCall (Lw.spGain K) [] E0 (tCons (tVar 0) tNil))) rfl scGains.nd (pi_range1 (by rfl) B.range_ (pa_cons (pv 2) pa_nil)) (blkOk_by (N := ["_law_left_here", "_law_worlds", "_law_deeds", "_law_deed", "_law_world"]) (sc := ({ kind := .function, names := [(".0", .local), ("_law_world", .local), ("range", .globalImplicit), ("_law_deeds", .cell), ("_law_left_here", .cell)], isGenerator := false, isCoroutine := false } : Scope)) (by decide +kernel)) (fun _ _ _ _ _ => (pg_name (i := 3) scGains.nd rfl (Or.inl rfl))) (fun _ _ _ _ _ => pts_nil) (fun _ _ _ _ _ => (pe_call GG hr (by rfl) gG kG bG .nil pass0 (pa_cons (pv 0) pa_nil)))))))), ?_⟩
    refine ⟨_, rfl, (ww : Int), rfl, by omega, by omega, fun D hD => ?_⟩
    have hDl : D ≠ l := fun e => by
      rw [e, hl] at hD
      cases hD
    refine lc_range (lo := 0) (n := (ww : Int).toNat) (fun j H' => ∃ rs rss z', New K H H' l D rs rss 8 ∧ H' l = some (.lst [.int z']) ∧ rss.length = j ∧ (∀ r ∈ rss, r.length = dd))
      ⟨[], [], z, New.start hD, by rw [upd_ne (Ne.symm hDl)]; exact hl, rfl, fun qs hq => by simp at hq⟩ ?_ ?_
    · rintro j H' hj ⟨rs, rss, z', N, hl', hlen, hrow⟩
      refine ⟨rfl, tYes_of ?_⟩
      refine ⟨_, rfl, (dd : Int), rfl, by omega, by omega, fun R hR => ?_⟩
      have hRl : R ≠ l := fun e => by
        rw [e, hl'] at hR
        cases hR
      refine lc_range (lo := 0) (n := (dd : Int).toNat) (fun jj H'' => ∃ cs qs z'', H'' R = some (.lst cs) ∧ SameB l H' H'' ∧ H'' l = some (.lst [.int z'']) ∧ FrN K H'' 8 cs qs ∧ qs.length = jj)
        ⟨[], [], z', upd_same, SameB.of (same_new hR _), by rw [upd_ne (Ne.symm hRl)]; exact hl', FrN.nil, rfl⟩ ?_ ?_
      · rintro jj H'' hjj ⟨cs, qs, z'', hcs, sb, hl'', hf, hq⟩
        refine ⟨rfl, tYes_of ?_⟩
        refine ⟨_, rfl, l, z'', rfl, hl'', fun p q z3 H3 sb3 hl3 hp hb => ?_⟩
        have hcs3 := sb3 _ _ hRl hcs
        refine ⟨cs, hcs3, ?_, cs ++ [.ref p], qs ++ [q], z3, upd_same, fun b u hb' e => ?_, by rw [upd_ne (Ne.symm hRl)]; exact hl3, ?_, by rw [List.length_append, hq]; rfl⟩
        · rw [hf.len, hq]
          exact small1000 (by omega)
        · rw [upd_ne (ne_of_none e hR)]
          exact sb3 _ _ hb' (sb _ _ hb' e)
        · exact ((hf.keep (sb3.tup hl'')).snoc hp hb).keep (keep_lst hcs3)
      · rintro H'' ⟨cs, qs, z'', hcs, sb, hl'', hf, hq⟩
        rw [Int.toNat_natCast] at hq
        have N2 := N.step sb hl' hDl
        refine ⟨_, N2.at_, ?_, rs ++ [R], rss ++ [qs], z'', New.push N N2 hR hcs hf hRl, by rw [upd_ne (Ne.symm hDl)]; exact hl'', ?_, ?_⟩
        · rw [List.length_map, N.rows.1, hlen]
          exact small1000 (by omega)
        · rw [List.length_append, hlen]
          rfl
        · intro x hx
          rcases List.mem_append.mp hx with hx | hx
          · exact hrow x hx
          · rw [List.mem_singleton.mp hx]
            exact hq
    · rintro H' ⟨rs, rss, z', N, hl', hlen, hrow⟩
      rw [Int.toNat_natCast] at hlen
      exact q D rs rss z' H' N hDl hl' hlen hrow
theorem scParts : FnScope ["_law_left_here", "_law_most_worlds", "_law_most_deeds", "_law_worlds", "_law_deeds", "_law_own", "_law_deed", "_law_world"] ["_law_left_here", "_law_most_worlds", "_law_most_deeds"] (defScope sParts) := ⟨rfl, rfl, rfl, by decide +kernel, rfl, by decide +kernel, by decide +kernel⟩
theorem ok_Parts {f fD fG fS : Addr} {fd fdD fdG fdS : FuncData} {k : Nat} (F : Fun K "_law_parts" "_law_parts" sParts f fd) (GD : FnOk P w K mg base CX0 k fD fdD ["_law_left_here", "_law_many"] spDigit) (kD : PySem.W.keepIn K (.ref fD) = true) (bD : Binds K fdD ["_law_left_here", "_law_many"] []) (gD : mg "_law_digit" = some (.ref fD)) (GG : FnOk P w K mg base CX0 k fG fdG ["_law_left_here", "_law_worlds", "_law_deeds"] (Lw.spGains K)) (kG : PySem.W.keepIn K (.ref fG) = true) (bG : Binds K fdG ["_law_left_here", "_law_worlds", "_law_deeds"] []) (gG : mg "_law_gains" = some (.ref fG)) (GS : FnOk P w K mg base CX0 k fS fdS ["_law_left_here", "_law_many"] (spShares K)) (kS : PySem.W.keepIn K (.ref fS) = true) (bS : Binds K fdS ["_law_left_here", "_law_many"] []) (gS : mg "_law_shares" = some (.ref fS)) (B : Blt mg) : FnOk P w K mg base CX0 (k + 1) f fd ["_law_left_here", "_law_most_worlds", "_law_most_deeds"] (Lw.spParts K) := by
  refine F.ok scParts (fun vs H Q E h => ?_) (fun cdv A outer s H vs Q E hr h => ?_)
  · obtain ⟨l, z, mw, md, rfl, _⟩ := h
    rfl
  · obtain ⟨l, z, mw, md, rfl, hl, m1, m5, n1, n6, q⟩ := h
    refine ⟨_, (pss_cons (ps_set (i := 3) scParts.nd rfl (.inl rfl) (pe_op op_add pe_int (pe_call GD hr (by rfl) gD kD bD .nil pass0 (pa_cons (pv 0) (pa_cons (pv 1) pa_nil)))))
      (pss_cons (ps_set (i := 4) scParts.nd rfl (.inr rfl) (pe_op op_add pe_int (pe_call GD hr (by rfl) gD kD bD .nil pass0 (pa_cons (pv 0) (pa_cons (pv 2) pa_nil)))))
      (pss_cons (ps_set (i := 5) scParts.nd rfl (.inl rfl) (pe_call GG hr (by rfl) gG kG bG .nil pass0 (pa_cons (pv 0) (pa_cons (pv 3) (pa_cons (pv 4) pa_nil)))))
      (pss_cons (ps_if (pt_cmpR op_eq (pe_call GD hr (by rfl) gD kD bD .nil pass0 (pa_cons (pv 0) (pa_cons pe_int pa_nil))) pe_int (nomark _)) (pss_one (ps_setLc (i := 5) (own := [("_law_world", 7)]) (g := gName 7) (tt := tYes) (te := (tLc (iRng1 (tCons (tVar 4) tNil)) (gName 6) tYes (tTup (tCons (tCB Rs.rInt1 (tCons (tOp rEq (tVar 6) (tOp (rI (fun _ j => 0 < j) fun i j => .int (i % j)) (tVar 7) (tVar 4))) tNil)) (tCons (tC (.int 1)) tNil))) [6])) rfl scParts.nd rfl rfl (sw_true rfl rfl rfl (by decide +kernel)) (pi_range1 (by rfl) B.range_ (pa_cons (pv 3) pa_nil)) (blkOk_by (N := ["_law_left_here", "_law_most_worlds", "_law_most_deeds", "_law_worlds", "_law_deeds", "_law_own", "_law_deed", "_law_world"]) (sc := defScope sParts) (by decide +kernel)) (fun _ _ _ _ _ => (pg_name (i := 7) scParts.nd rfl (Or.inr rfl))) (fun _ _ _ _ _ => pts_nil) (fun _ _ _ _ _ => (pe_lc (own := [("_law_deed", 6)]) (g := gName 6) (tt := tYes) (te := (tTup (tCons (tCB Rs.rInt1 (tCons (tOp rEq (tVar 6) (tOp (rI (fun _ j => 0 < j) fun i j => .int (i % j)) (tVar 7) (tVar 4))) tNil)) (tCons (tC (.int 1)) tNil)))) rfl scParts.nd (pi_range1 (by rfl) B.range_ (pa_cons (pv 4) pa_nil)) (blkOk_by (N := ["_law_left_here", "_law_most_worlds", "_law_most_deeds", "_law_worlds", "_law_deeds", "_law_own", "_law_deed", "_law_world"]) (sc := ({ kind := .function, names := [(".0", .local), ("_law_world", .cell), ("range", .globalImplicit), ("_law_deeds", .cell)], isGenerator := false, isCoroutine := false } : Scope)) (by decide +kernel)) (fun _ _ _ _ _ => (pg_name (i := 6) scParts.nd rfl (Or.inl rfl))) (fun _ _ _ _ _ => pts_nil) (fun _ _ _ _ _ => (pe_tup (pa_cons (pe_callTy (T := "int") call_int1 (by rfl) B.int_ (by decide +kernel) (pa_cons (pe_cmpR op_eq (pv 6) (pe_op op_mod (pv 7) (pv 4)) (nomark _)) pa_nil)) (pa_cons pe_int pa_nil)))))))) pss_nil)
      (pss_one (ps_ret (pe_lst (pa_cons (pe_call GS hr (by rfl) gS kS bS .nil pass0 (pa_cons (pv 0) (pa_cons (pv 3) pa_nil))) (pa_cons (pv 5) (pa_cons (pe_call GG hr (by rfl) gG kG bG .nil pass0 (pa_cons (pv 0) (pa_cons (pv 3) (pa_cons (pv 4) pa_nil)))) pa_nil)))))))))), ?_⟩
    refine ⟨_, rfl, _, rfl, l, z, (mw : Int), rfl, hl, by omega, Nat.lt_of_le_of_lt (by omega : ((mw : Int)).natAbs ≤ 30) (by decide), fun d1 z1 a0 a1 => ?_⟩
    refine ⟨1, d1, rfl, rfl, ?_⟩
    obtain ⟨ww, ew⟩ : ∃ ww : Nat, (1 + d1 : Int) = (ww : Int) := ⟨(1 + d1).toNat, by omega⟩
    rw [show ((fun i j => V.int (i + j)) 1 d1 : V) = V.int (ww : Int) from congrArg V.int ew]
    refine ⟨_, rfl, _, rfl, l, z1, (md : Int), rfl, upd_same, by omega, Nat.lt_of_le_of_lt (by omega : ((md : Int)).natAbs ≤ 30) (by decide), fun d2 z2 b0 b1 => ?_⟩
    refine ⟨1, d2, rfl, rfl, ?_⟩
    obtain ⟨dd, ed⟩ : ∃ dd : Nat, (1 + d2 : Int) = (dd : Int) := ⟨(1 + d2).toNat, by omega⟩
    rw [show ((fun i j => V.int (i + j)) 1 d2 : V) = V.int (dd : Int) from congrArg V.int ed]
    have sb2 : SameB l H (upd (upd H l (.lst [.int z1])) l (.lst [.int z2])) := SameB.upd.trans SameB.upd
    have hl2 : (upd (upd H l (.lst [.int z1])) l (.lst [.int z2])) l = some (.lst [.int z2]) := upd_same
    generalize upd (upd H l (.lst [.int z1])) l (.lst [.int z2]) = H2 at sb2 hl2 ⊢
    have fin : ∀ (O : Addr) (rh : List Addr) (hss : List (List Rat)) (H4 : Hp) (z4 : Int), SameB l H H4 → H4 l = some (.lst [.int z4]) → RwL K H4 O rh hss 8 → hss.length = ww → (∀ r ∈ hss, r.length = dd) → (tLst (tCons (tCall (spShares K) [] E0 (tCons (tVar 0) (tCons (tVar 3) tNil))) (tCons (tVar 5) (tCons (tCall (Lw.spGains K) [] E0 (tCons (tVar 0) (tCons (tVar 3) (tCons (tVar 4) tNil)))) tNil)))) [some (.ref l), some (.int (mw : Int)), some (.int (md : Int)), some (.int (ww : Int)), some (.int (dd : Int)), some (.ref O), none, none] H4 Q := fun O rh hss H4 z4 sb4 hl4 W4 hh4 hr4 => by
      refine ⟨_, rfl, _, rfl, l, z4, ww, rfl, hl4, by omega, by omega, fun A cs qs z5 H5 sb5 hl5 hA4 hAl hcs hf hro => ?_⟩
      have W5 := Rs.RwL.keepB W4 hl4 sb5
      refine ⟨_, rfl, ?_⟩
      refine ⟨_, rfl, _, rfl, _, rfl, l, z5, ww, dd, rfl, hl5, by omega, by omega, fun T rt tss z6 H6 N hTl hl6 ht6 hr6 => ?_⟩
      have W6 := Rs.RwL.keepB W5 hl5 N.keep
      refine ⟨(by show 3 ≤ sizeLine; decide), fun P nP => ?_⟩
      have s7 := same_new nP (.lst [V.ref A, V.ref O, V.ref T])
      have sb6 := (sb4.trans sb5).trans N.keep
      have hPl : P ≠ l := fun e => by
        rw [e, hl6] at nP
        cases nP
      have hP0 : H P = none := by
        cases e : H P with
        | none => rfl
        | some o =>
          rw [sb6 P o hPl e] at nP
          cases nP
      refine q P qs hss tss ww dd z6 _ (sb6.trans (SameB.of s7)) (s7 _ _ hl6) ⟨A, O, T, cs, rh, rt, upd_same, s7 _ _ (N.keep _ _ hAl hcs), (hf.keep (N.keep.tup hl5)).same s7, W6.same s7, N.rwl.same s7⟩ ⟨by omega, by omega, by omega, by omega, hro, hh4, ht6, hr4, hr6⟩ (by omega) (by omega) hP0 hPl
    refine ⟨_, rfl, _, rfl, _, rfl, l, z2, ww, dd, rfl, hl2, by omega, by omega, fun O rh hss z3 H3 N hOl hl3 hh3 hr3 => ?_⟩
    have sb3 := sb2.trans N.keep
    have W3 := N.rwl
    clear N
    refine ⟨_, rfl, l, z3, 4, rfl, hl3, by decide, by decide, fun d4 z4 c0 c4 => ?_⟩
    have sb4 := sb3.trans (SameB.upd (o := .lst [.int z4]))
    have W4 := Rs.RwL.keepB W3 hl3 (SameB.upd (o := .lst [.int z4]))
    have hl4 : (upd H3 l (.lst [.int z4])) l = some (.lst [.int z4]) := upd_same
    generalize upd H3 l (.lst [.int z4]) = H4 at sb4 W4 hl4 ⊢
    refine ⟨rfl, _, rfl, ite2 (fun _ => ?_) (fun _ => fin O rh hss H4 z4 sb4 hl4 W4 hh3 hr3)⟩
    refine ⟨_, rfl, (ww : Int), rfl, by omega, by omega, fun L hL => lc_range (lo := 0) (n := (ww : Int).toNat) (fun j H' => ∃ rs rss, New K H4 H' L L rs rss 8 ∧ rss.length = j ∧ ∀ r ∈ rss, r.length = dd) ⟨[], [], New.start hL, rfl, fun r hr => by simp at hr⟩ ?_ ?_⟩
    · rintro j H' hj ⟨rs, rss, N, hlen, hrow⟩
      refine ⟨rfl, tYes_of ?_⟩
      refine ⟨_, rfl, (dd : Int), rfl, by omega, by omega, fun R hR => lc_range (lo := 0) (n := (dd : Int).toNat) (fun jj H'' => ∃ cs qs, H'' R = some (.lst cs) ∧ Same H' H'' ∧ FrN K H'' 8 cs qs ∧ qs.length = jj) ⟨[], [], upd_same, same_new hR _, FrN.nil, rfl⟩ ?_ ?_⟩
      · rintro jj H'' hjj ⟨cs, qs, hcs, s5, hf, hq⟩
        refine ⟨rfl, tYes_of ?_⟩
        refine ⟨_, rfl, _, rfl, _, rfl, _, _, rfl, rfl, (show (0 : Int) < (dd : Int) by omega), rfl, .inr ⟨_, rfl, (by show 2 ≤ sizeLine; decide), fun t ht => ?_⟩⟩
        obtain ⟨bb, ebb⟩ : ∃ bb : Bool, decide (V.int (0 + (jj : Int)) = V.int ((0 + (j : Int)) % (dd : Int))) = bb := ⟨_, rfl⟩
        rw [ebb]
        obtain ⟨q, hb, er⟩ : ∃ q : Rat, Bd 8 q ∧ rp q = [.int (if bb = true then 1 else 0), .int 1] := by
          cases bb with
          | true => exact ⟨1, Lw.bd_one, rfl⟩
          | false => exact ⟨0, Lw.bd_nul, rfl⟩
        rw [← er]
        have s6 := same_new ht (.tup (rp q))
        refine ⟨cs, s6 _ _ hcs, ?_, _, qs ++ [q], upd_same, fun b u e => ?_, ?_, by rw [List.length_append, hq]; rfl⟩
        · rw [hf.len, hq]
          exact small1000 (by omega)
        · rw [upd_ne (ne_of_none e hR)]
          exact s6 _ _ (s5 _ _ e)
        · exact ((hf.same s6).snoc (SqT.of upd_same) hb).keep (keep_lst (s6 _ _ hcs))
      · rintro H'' ⟨cs, qs, hcs, s5, hf, hq⟩
        rw [Int.toNat_natCast] at hq
        have N2 := N.stepS s5
        have hRL : R ≠ L := fun e => by
          rw [e, N.at_] at hR
          cases hR
        refine ⟨_, N2.at_, ?_, rs ++ [R], rss ++ [qs], New.push N N2 hR hcs hf hRL, by rw [List.length_append, hlen]; rfl, fun r hr => ?_⟩
        · rw [List.length_map, N.rows.1, hlen]
          exact small1000 (by omega)
        · rcases List.mem_append.mp hr with hr | hr
          · exact hrow r hr
          · rw [List.mem_singleton.mp hr]
            exact hq
    · rintro H5 ⟨rs, rss, N, hlen, hrow⟩
      rw [Int.toNat_natCast] at hlen
      have fr := N.toFresh
      have u5 := fr.2.2.2.2.2
      exact fin L rs rss H5 z4 (sb4.trans (SameB.of u5)) (u5 _ _ hl4) fr.1 hlen hrow
end
end K5

set_option Elab.async false
set_option linter.all false
set_option maxRecDepth 100000
set_option maxHeartbeats 8000000
namespace K5
open PySem PySem.Spec PyProof.Rows L2 BX EXB Co Ru
open Dz Cs
open Rs (Rsp Rv Ret tYes_of dV datR Flat Okr spShares spRowsL spTotal spCopied eqv_dR)
open Fr (Bd)
/-! ### answers: none, or a part and a number -/
abbrev Ans := Option (Str × V)
def RvT (H : Hp) (v : V) : Ans → Prop
  | none => v = .non
  | some (p, n) => ∃ a, v = .ref a ∧ H a = some (.tup [.str p, n])
def RetT (Q : VK) (H : Hp) (r : Ans) : Prop := ∀ v H', Same H H' → RvT H' v r → Q v H'
theorem RvT.same {H H' : Hp} {v : V} {r : Ans} (h : RvT H v r) (s : Same H H') : RvT H' v r := by
  cases r with
  | none => exact h
  | some p => obtain ⟨a, e1, e2⟩ := h; exact ⟨a, e1, s _ _ e2⟩
/-- a cell -/
structure CeD (d : PyData) : Prop where
  sm : Sm d 1 100
  nd : d.hasDict = false
  fw : ∀ q, ratD d = some q → Bd 1000 q
theorem int_bd {i : Int} (h : (PyData.int i).showable = true) : i.natAbs < 2 ^ 1920 := by
  have h' : i.natAbs.log2 < 1920 := of_decide_eq_true h
  by_cases e : i.natAbs = 0
  · rw [e]
    exact Nat.two_pow_pos _
  · exact (Nat.log2_lt e).mp h'
theorem two_bd {t b : Int} (h : (PyData.tuple [.int t, .int b]).showable = true) : t.natAbs < 2 ^ 1920 ∧ b.natAbs < 2 ^ 1920 := by
  have h' : ((PyData.int t).showable && ((PyData.int b).showable && true)) = true := h
  rw [Bool.and_true, Bool.and_eq_true] at h'
  exact ⟨int_bd h'.1, int_bd h'.2⟩
theorem low_eqv {t b : Int} (hb : 0 < b) : PyData.eqv (dR (Rat.divInt t b)) (.tuple [.int t, .int b]) = decide (Int.gcd t b = 1) := by
  by_cases h : Int.gcd t b = 1
  · obtain ⟨e1, e2⟩ := ratD_num (t := t) (b := b) (by omega) h
    rw [decide_eq_true h]
    have e : (PyData.tuple [.int t, .int b]) = dR (Rat.divInt t b) := by unfold dR; rw [e1, e2]
    rw [e]
    exact SeqAt.eqv_refl _ (dR_lay _)
  · rw [decide_eq_false h]
    show PyData.eqv (.tuple [.int (Rat.divInt t b).num, .int ((Rat.divInt t b).den : Int)]) (.tuple [.int t, .int b]) = false
    simp only [PyData.eqv, PyData.eqvAll, Bool.and_true]
    rw [Bool.and_eq_false_iff]
    refine .inr ?_
    simp only [beq_eq_false_iff_ne, ne_eq]
    intro e
    have e2 := Fr.low_den (t := t) hb
    rw [e, Int.fdiv_eq_ediv_of_nonneg _ (by omega)] at e2
    have hg := Fr.gcd_pos (t := t) (b := b) (by omega)
    have h2 : (2 : Int) ≤ (Int.gcd t b : Int) := by omega
    have : b / (Int.gcd t b : Int) < b := Int.ediv_lt_of_lt_mul (by omega) (by
      have : b * 2 ≤ b * (Int.gcd t b : Int) := Int.mul_le_mul_of_nonneg_left h2 (by omega)
      omega)
    omega
def spIsRL (K : PySem.W.Frag) : Sp := fun vs H Q _ => ∃ (ex : Addr → Prop) (v : V) (d : PyData), vs = [v] ∧ Dz.Dz K H ex v d ∧ d.showable = true ∧ ∀ H', Same H H' → Q (.bl (ratD d).isSome) H'
def ansS (d : PyData) : Ans := (badS d).map fun n => ("shares", n)
def spShDue (K : PySem.W.Frag) : Sp := fun vs H Q _ => ∃ (ex : Addr → Prop) (v : V) (d : PyData), vs = [v] ∧ Dz.Dz K H ex v d ∧ (∀ e ∈ itemsD d, CeD e) ∧ RetT Q H (ansS d)
section
variable {P : Program} {w : World} {K : PySem.W.Frag} {mg : Str → Option Value} {base : Heap}
theorem scLWhole : FnScope ["_law_thing"] ["_law_thing"] (defScope sLWhole) := ⟨rfl, rfl, rfl, by decide +kernel, rfl, by decide +kernel, by decide +kernel⟩
theorem ok_LWhole {f  : Addr} {fd  : FuncData} {k : Nat} (F : Fun K "_law_whole" "_law_whole" sLWhole f fd)  (B : Blt mg) : FnOk P w K mg base CX0 (k + 1) f fd ["_law_thing"] (spWholeZ K) := by
  refine F.ok scLWhole (fun vs H Q E h => ?_) (fun cdv A outer s H vs Q E hr h => ?_)
  · obtain ⟨ex, v, d, rfl, _⟩ := h
    rfl
  · obtain ⟨ex, v, d, rfl, hv, q⟩ := h
    refine ⟨_, (pss_one (ps_ret (pe_and (pe_callB call_isi (by rfl) B.isinstance_ (by decide +kernel) (pa_cons (pv 0) (pa_cons (pe_bltn (v := .ty "int") (by rfl) B.int_ (by decide +kernel) rfl) pa_nil))) (pe_one (pe_not (pe_callB call_isi (by rfl) B.isinstance_ (by decide +kernel) (pa_cons (pv 0) (pa_cons (pe_bltn (v := .ty "bool") (by rfl) B.bool_ (by decide +kernel) rfl) pa_nil)))))))), ?_⟩
    refine ⟨_, rfl, _, _, _, _, isIB d, rfl, .ty "int", hv.ty, kit_ty (kit_isIB d), _, rfl, ?_⟩
    cases d with
    | int i => exact iteT ⟨_, rfl, _, _, _, _, isB (.int i), rfl, .ty "bool", hv.ty, kit_ty (kit_isB _), _, rfl, q⟩
    | bool b => exact iteT ⟨_, rfl, _, _, _, _, isB (.bool b), rfl, .ty "bool", hv.ty, kit_ty (kit_isB _), _, rfl, q⟩
    | none => exact iteF q
    | str x => exact iteF q
    | list x => exact iteF q
    | tuple x => exact iteF q
    | dict x => exact iteF q
theorem scLIsR : FnScope ["_law_thing"] ["_law_thing"] (defScope sLIsR) := ⟨rfl, rfl, rfl, by decide +kernel, rfl, by decide +kernel, by decide +kernel⟩
theorem ok_LIsR {f fW fL : Addr} {fd fdW fdL : FuncData} {k : Nat} (F : Fun K "_law_is_ratio" "_law_is_ratio" sLIsR f fd) (GW : FnOk P w K mg base CX0 k fW fdW ["_law_thing"] (spWholeZ K)) (kW : PySem.W.keepIn K (.ref fW) = true) (bW : Binds K fdW ["_law_thing"] []) (gW : mg "_law_whole" = some (.ref fW)) (GL : FnOk P w K mg base CX0 k fL fdL ["_law_top", "_law_bottom"] spLow) (kL : PySem.W.keepIn K (.ref fL) = true) (bL : Binds K fdL ["_law_top", "_law_bottom"] []) (gL : mg "_law_low" = some (.ref fL)) (B : Blt mg) : FnOk P w K mg base CX0 (k + 1) f fd ["_law_thing"] (spIsRL K) := by
  refine F.ok scLIsR (fun vs H Q E h => ?_) (fun cdv A outer s H vs Q E hr h => ?_)
  · obtain ⟨ex, v, d, rfl, _⟩ := h
    rfl
  · obtain ⟨ex, v, d, rfl, hv, hsh, q⟩ := h
    refine ⟨_, (pss_cons (ps_if (PW.pt (pw_or (pt_not (pt_val (pe_callB call_isi (by rfl) B.isinstance_ (by decide +kernel) (pa_cons (pv 0) (pa_cons (pe_bltn (v := .ty "tuple") (by rfl) B.tuple_ (by decide +kernel) rfl) pa_nil))))) (pw_or (pt_cmpR op_ne (pe_callB call_len_seq (by rfl) B.len_ PySem.boot_len (pa_cons (pv 0) pa_nil)) pe_int (nomark _)) (pw_or (pt_not (pt_val (pe_call GW hr (by rfl) gW kW bW .nil pass0 (pa_cons (pe_ix ix_tup (pv 0) pe_int (fun _ _ => rfl)) pa_nil)))) (pw_or1 (pt_not (pt_val (pe_call GW hr (by rfl) gW kW bW .nil pass0 (pa_cons (pe_ix ix_tup (pv 0) pe_int (fun _ _ => rfl)) pa_nil))))))))) (pss_one (ps_ret pe_bl)) pss_nil)
      (pss_one (ps_ret (pe_and (pe_cmpR op_gt (pe_ix ix_tup (pv 0) pe_int (fun _ _ => rfl)) pe_int (nomark _)) (pe_one (pe_cmpR (op_eqD hr.units) (pe_call GL hr (by rfl) gL kL bL .nil pass0 (pa_cons (pe_ix ix_tup (pv 0) pe_int (fun _ _ => rfl)) (pa_cons (pe_ix ix_tup (pv 0) pe_int (fun _ _ => rfl)) pa_nil))) (pv 0) (nomark _))))))), ?_⟩
    cases d with
    | none => exact ⟨_, rfl, _, _, _, _, isT _, rfl, .ty "tuple", hv.ty, kit_ty (kit_isT _), _, rfl, iteT (iteT (q _ (Same.refl _)))⟩
    | bool b => exact ⟨_, rfl, _, _, _, _, isT _, rfl, .ty "tuple", hv.ty, kit_ty (kit_isT _), _, rfl, iteT (iteT (q _ (Same.refl _)))⟩
    | int i => exact ⟨_, rfl, _, _, _, _, isT _, rfl, .ty "tuple", hv.ty, kit_ty (kit_isT _), _, rfl, iteT (iteT (q _ (Same.refl _)))⟩
    | str x => exact ⟨_, rfl, _, _, _, _, isT _, rfl, .ty "tuple", hv.ty, kit_ty (kit_isT _), _, rfl, iteT (iteT (q _ (Same.refl _)))⟩
    | list x => exact ⟨_, rfl, _, _, _, _, isT _, rfl, .ty "tuple", hv.ty, kit_ty (kit_isT _), _, rfl, iteT (iteT (q _ (Same.refl _)))⟩
    | dict x => exact ⟨_, rfl, _, _, _, _, isT _, rfl, .ty "tuple", hv.ty, kit_ty (kit_isT _), _, rfl, iteT (iteT (q _ (Same.refl _)))⟩
    | tuple ds =>
      refine ⟨_, rfl, _, _, _, _, isT (.tuple ds), rfl, .ty "tuple", hv.ty, kit_ty (kit_isT _), _, rfl, iteF ?_⟩
      cases hv with
      | @tup a xs _ ha ts =>
        have hl := ts.len
        refine ⟨_, rfl, a, xs, rfl, .inr ha, rfl, _, rfl, ?_⟩
        by_cases h2 : xs.length = 2
        rotate_left
        · rw [decide_eq_false (fun z => h2 (by have := V.int.inj z; omega))]
          refine iteT (iteT ?_)
          have e : ratD (.tuple ds) = none := by
            unfold ratD
            split
            · rename_i heq
              injection heq with heq
              rw [heq] at hl
              exact absurd hl h2
            · rfl
          rw [e] at q
          exact q _ (Same.refl _)
        have e2 : V.int (xs.length : Int) = V.int 2 := by rw [h2]; rfl
        rw [decide_eq_true e2]
        refine iteF ?_
        obtain ⟨x, y, rfl⟩ : ∃ x y, xs = [x, y] := by
          match xs, h2 with
          | [x, y], _ => exact ⟨x, y, rfl⟩
        cases ts with
        | @cons _ _ dx _ hx ts =>
          cases ts with
          | @cons _ _ dy _ hy ts =>
            cases ts
            have z0 : atI [x, y] 0 = some x := atI_nat (j := 0) rfl
            have z1 : atI [x, y] 1 = some y := atI_nat (j := 1) rfl
            refine ⟨_, rfl, a, _, 0, x, rfl, rfl, ha, z0, ex, x, dx, rfl, hx, _, rfl, ?_⟩
            have no : ∀ {b : PyData}, isI dx = false → ratD (.tuple [dx, b]) = none := fun {b} h => by cases dx <;> first | rfl | cases h
            cases c1 : isI dx with
            | false =>
              rw [no c1] at q
              exact iteT (iteT (q _ (Same.refl _)))
            | true =>
              refine iteF ?_
              refine ⟨_, rfl, a, _, 1, y, rfl, rfl, ha, z1, ex, y, dy, rfl, hy, _, rfl, ?_⟩
              cases dx with
              | int t =>
                cases c2 : isI dy with
                | false =>
                  have e : ratD (.tuple [.int t, dy]) = none := by cases dy <;> first | rfl | cases c2
                  rw [e] at q
                  exact iteT (q _ (Same.refl _))
                | true =>
                  refine iteF ?_
                  cases dy with
                  | int b =>
                    cases hx
                    cases hy
                    have e : ratD (.tuple [.int t, .int b]) = if 1 ≤ b ∧ Int.gcd t b = 1 then some (Rat.divInt t b) else none := rfl
                    refine ⟨_, rfl, a, _, 1, _, rfl, rfl, ha, z1, _, _, rfl, rfl, _, rfl, ?_⟩
                    by_cases h1 : 0 < b
                    · rw [if_pos (decide_eq_true h1)]
                      obtain ⟨bt, bb⟩ := two_bd hsh
                      refine ⟨_, rfl, a, _, 0, _, rfl, rfl, ha, z0, _, rfl, a, _, 1, _, rfl, rfl, ha, z1, t, b, 1920, rfl, bt, bb, by omega, by decide, fun p hp => ?_⟩
                      have s1 := same_new hp (.tup (rp (Rat.divInt t b)))
                      refine ⟨_, rfl, dR _, .tuple [.int t, .int b], dp_r (SqT.of upd_same), .tup (seqT s1 ha) (.cons (.int _) (.cons (.int _) .nil)), dR_shaped _, rfl, ?_⟩
                      rw [low_eqv h1]
                      by_cases hg : Int.gcd t b = 1
                      · rw [e, if_pos ⟨by omega, hg⟩] at q
                        rw [decide_eq_true hg]
                        exact q _ s1
                      · rw [e, if_neg (fun z => hg z.2)] at q
                        rw [decide_eq_false hg]
                        exact q _ s1
                    · rw [e, if_neg (fun z => h1 (by omega))] at q
                      rw [if_neg (by rw [decide_eq_false h1]; decide)]
                      exact q _ (Same.refl _)
                  | _ => cases c2
              | _ => cases c1
theorem scShDue : FnScope ["_law_thing", "_law_found", "_law_number", "_law_share"] ["_law_thing"] (defScope sShDue) := ⟨rfl, rfl, rfl, by decide +kernel, rfl, by decide +kernel, by decide +kernel⟩
theorem ok_ShDue {f fR fP : Addr} {fd fdR fdP : FuncData} {k : Nat} (F : Fun K "_law_shares_due" "_law_shares_due" sShDue f fd) (GR : FnOk P w K mg base CX0 k fR fdR ["_law_thing"] (spIsRL K)) (kR : PySem.W.keepIn K (.ref fR) = true) (bR : Binds K fdR ["_law_thing"] []) (gR : mg "_law_is_ratio" = some (.ref fR)) (GP : FnOk P w K mg base CX0 k fP fdP ["_law_one", "_law_other"] (spBin K (· + ·))) (kP : PySem.W.keepIn K (.ref fP) = true) (bP : Binds K fdP ["_law_one", "_law_other"] []) (gP : mg "_law_plus" = some (.ref fP)) (B : Blt mg) : FnOk P w K mg base CX0 (k + 1) f fd ["_law_thing"] (spShDue K) := by
  refine F.ok scShDue (fun vs H Q E h => ?_) (fun cdv A outer s H vs Q E hr h => ?_)
  · obtain ⟨ex, v, d, rfl, _⟩ := h
    rfl
  · obtain ⟨ex, v, d, rfl, hv, hc, q⟩ := h
    refine ⟨_, (pss_cons (ps_if (PW.pt (pw_or (pt_not (pt_val (pe_callB call_isi (by rfl) B.isinstance_ (by decide +kernel) (pa_cons (pv 0) (pa_cons (pe_bltn (v := .ty "list") (by rfl) B.list_ (by decide +kernel) rfl) pa_nil))))) (pw_or1 (pt_not (pt_chain op_le op_le pe_int (pe_callB call_len_seq (by rfl) B.len_ PySem.boot_len (pa_cons (pv 0) pa_nil)) pe_int))))) (pss_one (ps_ret (pe_tup (pa_cons pe_str (pa_cons pe_non pa_nil))))) pss_nil)
      (pss_cons (ps_set (i := 1) scShDue.nd rfl (.inl rfl) (pe_tup (pa_cons pe_int (pa_cons pe_int pa_nil))))
      (pss_cons (ps_for PassesOwn.never rfl (pi_enum (by rfl) B.enumerate_ (pa_cons (pv 0) pa_nil)) (pg_tup rfl (pgs_cons (pg_name (i := 2) scShDue.nd rfl (.inl rfl)) (pgs_cons (pg_name (i := 3) scShDue.nd rfl (.inl rfl)) pgs_nil))) (pss_cons (ps_if (PW.pt (pw_or (pt_not (pt_val (pe_call GR hr (by rfl) gR kR bR .nil pass0 (pa_cons (pv 3) pa_nil)))) (pw_or1 (pt_cmpR op_lt (pe_ix ix_tup (pv 3) pe_int (fun _ _ => rfl)) pe_int (nomark _))))) (pss_one (ps_ret (pe_tup (pa_cons pe_str (pa_cons (pv 2) pa_nil))))) pss_nil)
      (pss_one (ps_set (i := 1) scShDue.nd rfl (.inl rfl) (pe_call GP hr (by rfl) gP kP bP .nil pass0 (pa_cons (pv 1) (pa_cons (pv 3) pa_nil)))))))
      (pss_one (ps_ret (pe_ifExp (pt_cmpR (op_eqD hr.units) (pv 1) (pe_tup (pa_cons pe_int (pa_cons pe_int pa_nil))) (nomark _)) pe_non (pe_tup (pa_cons pe_str (pa_cons pe_non pa_nil))))))))), ?_⟩
    cases d with
    | none => exact ⟨_, rfl, _, _, _, _, isL _, rfl, .ty "list", hv.ty, kit_ty (kit_isL _), _, rfl, iteT (iteT ⟨(by show 2 ≤ sizeLine; decide), fun p hp => q _ _ (same_new hp _) ⟨p, rfl, upd_same⟩⟩)⟩
    | bool b => exact ⟨_, rfl, _, _, _, _, isL _, rfl, .ty "list", hv.ty, kit_ty (kit_isL _), _, rfl, iteT (iteT ⟨(by show 2 ≤ sizeLine; decide), fun p hp => q _ _ (same_new hp _) ⟨p, rfl, upd_same⟩⟩)⟩
    | int i => exact ⟨_, rfl, _, _, _, _, isL _, rfl, .ty "list", hv.ty, kit_ty (kit_isL _), _, rfl, iteT (iteT ⟨(by show 2 ≤ sizeLine; decide), fun p hp => q _ _ (same_new hp _) ⟨p, rfl, upd_same⟩⟩)⟩
    | str x => exact ⟨_, rfl, _, _, _, _, isL _, rfl, .ty "list", hv.ty, kit_ty (kit_isL _), _, rfl, iteT (iteT ⟨(by show 2 ≤ sizeLine; decide), fun p hp => q _ _ (same_new hp _) ⟨p, rfl, upd_same⟩⟩)⟩
    | tuple x => exact ⟨_, rfl, _, _, _, _, isL _, rfl, .ty "list", hv.ty, kit_ty (kit_isL _), _, rfl, iteT (iteT ⟨(by show 2 ≤ sizeLine; decide), fun p hp => q _ _ (same_new hp _) ⟨p, rfl, upd_same⟩⟩)⟩
    | dict x => exact ⟨_, rfl, _, _, _, _, isL _, rfl, .ty "list", hv.ty, kit_ty (kit_isL _), _, rfl, iteT (iteT ⟨(by show 2 ≤ sizeLine; decide), fun p hp => q _ _ (same_new hp _) ⟨p, rfl, upd_same⟩⟩)⟩
    | list ds =>
      refine ⟨_, rfl, _, _, _, _, isL (.list ds), rfl, .ty "list", hv.ty, kit_ty (kit_isL _), _, rfl, iteF ?_⟩
      cases hv with
      | @lst a xs _ ha hn ts =>
        refine ⟨_, rfl, a, xs, rfl, .inl (SqL.of ha), 1, _, rfl, rfl, _, rfl, ?_⟩
        rw [ts.len]
        have out5 : lenOk (some ds.length) 1 5 = false → (2 ≤ sizeLine ∧ ∀ p : Addr, H p = none → Q (.ref p) (upd H p (.tup [.str "shares", .non]))) := fun c => by
          have e : ansS (.list ds) = some (("shares" : Str), V.non) := by
            unfold ansS badS
            rw [if_neg (by show ¬ lenOk (some ds.length) 1 5 = true; rw [c]; decide)]
            rfl
          rw [e] at q
          exact ⟨by decide, fun p hp => q _ _ (same_new hp _) ⟨p, rfl, upd_same⟩⟩
        by_cases c1 : (1 : Int) ≤ (ds.length : Int)
        rotate_left
        · rw [decide_eq_false c1]
          exact iteF ⟨_, rfl, iteT (out5 (by show (decide _ && _) = false; rw [decide_eq_false c1, Bool.false_and]))⟩
        rw [decide_eq_true c1]
        refine iteT ⟨_, _, rfl, rfl, _, rfl, ?_⟩
        by_cases c2 : (ds.length : Int) ≤ 5
        rotate_left
        · rw [decide_eq_false c2]
          exact iteT (out5 (by show (_ && decide _) = false; rw [decide_eq_false c2, Bool.and_false]))
        rw [decide_eq_true c2]
        refine iteF ?_
        have h5 : lenOk (lenD (.list ds)) 1 5 = true := lenOk_iff.mpr ⟨c1, c2⟩
        have eb : badS (.list ds) = numS (firstNot shD ds 0) (sumD ds) := by
          unfold badS
          rw [if_pos h5]
          rfl
        have ea : ansS (.list ds) = (numS (firstNot shD ds 0) (sumD ds)).map fun n => (("shares" : Str), n) := by
          unfold ansS
          rw [eb]
        rw [ea] at q
        clear out5
        refine ⟨(by show 2 ≤ sizeLine; decide), fun p0 n0 => ?_⟩
        have s0 := same_new n0 (.tup (rp 0))
        refine ⟨_, rfl, a, _, rfl, SqL.of (s0 _ _ ha), for_it (walk_enum (K := K) (a := a) (xs := xs)) (fun i σ H' => ∃ (c : Addr) (y2 y3 : Option V), σ = [some (.ref a), some (.ref c), y2, y3] ∧ Same H H' ∧ firstNot shD ds 0 = firstNot shD (ds.drop i) i ∧ SqT K H' c (rp (sumD (ds.take i))) ∧ Bd (1001 * i + 1) (sumD (ds.take i)))
          ⟨p0, none, none, rfl, s0, by rw [List.drop_zero], SqT.of upd_same, ⟨by show (0 : Int).natAbs < 2 ^ 1; decide, by show 1 < 2 ^ 1; decide⟩⟩ (fun i σ H' _ ⟨_, _, _, _, s5, _⟩ => SqL.of (s5 _ _ ha)) ?_ ?_⟩
        · rintro i x σ H1 H2 hi ⟨c, y2, y3, rfl, s5, fb, hcq, hbd⟩ ⟨TT, u, vv, rfl, nT, rfl, e1, e2⟩
          cases (Option.some.inj e1)
          obtain ⟨d, f1, f2⟩ := ts.at_ e2
          have hid : i < ds.length := (List.getElem?_eq_some_iff.mp f1).1
          have hce := hc d (List.mem_of_getElem? f1)
          have sT := same_new nT (.tup [V.int (i : Nat), vv])
          have eT : (upd H1 TT (.tup [V.int (i : Nat), vv])) TT = some (.tup [V.int (i : Nat), vv]) := upd_same
          generalize upd H1 TT (.tup [V.int (i : Nat), vv]) = H2 at sT eT ⊢
          have s6 := s5.trans sT
          refine ⟨TT, _, rfl, SqT.of eT, rfl, _, _, rfl, _, _, rfl, rfl, ?_⟩
          have ret : shD d = false → ∀ H3, Same H H3 → (2 ≤ sizeLine ∧ ∀ p : Addr, H3 p = none → Q (.ref p) (upd H3 p (.tup [.str "shares", .int (i : Nat)]))) := fun cf H3 s3 => by
            rw [firstNot_drop f1, if_neg (by rw [cf]; decide)] at fb
            rw [fb] at q
            exact ⟨by decide, fun p hp => q _ _ (s3.trans (same_new hp _)) ⟨p, rfl, upd_same⟩⟩
          refine ⟨_, rfl, ex, vv, d, rfl, f2.same s6, hce.sm.sh, fun H3 s7 => ⟨_, rfl, ?_⟩⟩
          have s67 := s6.trans s7
          cases er : ratD d with
          | none =>
            refine iteT (iteT ?_)
            exact ⟨_, rfl, ret (by unfold shD; rw [er]) H3 s67⟩
          | some r =>
            refine iteF ?_
            obtain ⟨ad, rfl, had, edd⟩ := (f2.same s67).rat er
            have hbr := hce.fw r er
            refine ⟨_, rfl, ad, rp r, 0, .int r.num, rfl, rfl, had, at0 r, _, _, rfl, rfl, _, rfl, ?_⟩
            by_cases hneg : r.num < 0
            · rw [decide_eq_true hneg]
              refine iteT ?_
              exact ⟨_, rfl, ret (by unfold shD; rw [er]; exact decide_eq_false (by omega)) H3 s67⟩
            · rw [decide_eq_false hneg]
              refine iteF ?_
              have hsh : shD d = true := by unfold shD; rw [er]; exact decide_eq_true (by omega)
              rw [firstNot_drop f1, if_pos hsh] at fb
              refine ⟨_, rfl, _, rfl, c, ad, _, r, _, 1000, rfl, seqT (sT.trans s7) hcq, had, hbd, hbr, by omega, fun p hp => ?_⟩
              have es : sumD (ds.take (i + 1)) = sumD (ds.take i) + r := by
                rw [List.take_add_one, f1]
                unfold sumD
                rw [List.map_append, List.sum_append]
                show _ + ([(ratD d).getD 0] : List Rat).sum = _
                rw [er, List.sum_cons, List.sum_nil, Rat.add_zero]
                rfl
              refine ⟨p, _, _, rfl, s67.trans (same_new hp _), fb, ?_, ?_⟩
              · rw [es]
                exact SqT.of upd_same
              · rw [es]
                exact (Fr.bd_add hbd hbr).mono (by omega)
        · rintro σ H1 ⟨c, y2, y3, rfl, s5, fb, hcq, hbd⟩
          rw [ts.len, List.drop_length] at fb
          rw [ts.len, List.take_length] at hcq
          rw [fb] at q
          refine ⟨_, rfl, (by show 2 ≤ sizeLine; decide), fun p hp => ?_⟩
          have s6 := same_new hp (.tup (rp 1))
          refine ⟨dR (sumD ds), dR 1, dp_r (seqT s6 hcq), dp_r (q := 1) (SqT.of upd_same), dR_shaped _, dR_shaped _, _, rfl, ?_⟩
          rw [eqv_dR]
          have q' : RetT Q H ((if sumD ds = 1 then none else some V.non).map fun n => (("shares" : Str), n)) := q
          by_cases c5 : sumD ds = 1
          · rw [if_pos c5] at q'
            rw [decide_eq_true c5]
            exact iteT (q' .non _ (s5.trans s6) rfl)
          · rw [if_neg c5] at q'
            rw [decide_eq_false c5]
            refine iteF ⟨(by show 2 ≤ sizeLine; decide), fun p2 hp2 => ?_⟩
            exact q' _ _ ((s5.trans s6).trans (same_new hp2 _)) ⟨p2, rfl, upd_same⟩
end
end K5

set_option Elab.async false
set_option linter.all false
set_option maxRecDepth 100000
set_option maxHeartbeats 8000000
namespace K5
open PySem PySem.Spec PyProof.Rows L2 BX EXB Co Ru
open Dz Cs
open Rs (Rsp Rv Ret tYes_of dV datR Flat Okr spShares spRowsL spTotal spCopied eqv_dR)
open Fr (Bd)
def LH (many lo hi : Int) : Prop := (many = 0 ∧ lo = 1 ∧ hi = 6) ∨ (1 ≤ many ∧ many ≤ 6 ∧ lo = many ∧ hi = many)
def restOf (d1 d2 : PyData) (ww : Int) (i : Nat) (lo hi : Int) : Ans :=
  if i = 0 then orP "hearer" (badG d1 ww lo hi) (orP "teller" (badG d2 ww (deedsD d1 : Int) (deedsD d1 : Int)) none) else if i = 1 then orP "teller" (badG d2 ww lo hi) none else none
def spDue (K : PySem.W.Frag) : Sp := fun vs H Q _ => ∃ (ex : Addr → Prop) (P : Addr) (v0 v1 v2 : V) (d0 d1 d2 : PyData), vs = [.ref P] ∧ H P = some (.lst [v0, v1, v2]) ∧ Dz.Dz K H ex v0 d0 ∧ Dz.Dz K H ex v1 d1 ∧ Dz.Dz K H ex v2 d2 ∧
  (∀ e ∈ itemsD d0, CeD e) ∧ (∀ r ∈ itemsD d1, ∀ e ∈ itemsD r, CeD e) ∧ (∀ r ∈ itemsD d2, ∀ e ∈ itemsD r, CeD e) ∧ RetT Q H (badC d0 d1 d2)
theorem eqv_nil (ds : List PyData) : PyData.eqv (.list ds) (.list []) = ds.isEmpty := by
  cases ds with
  | nil => simp only [PyData.eqv, PyData.eqvAll, List.isEmpty_nil]
  | cons d ds => simp only [PyData.eqv, PyData.eqvAll, List.isEmpty_cons]
theorem hd_all : ∀ {ds : List PyData}, (∀ d ∈ ds, d.hasDict = false) → PyData.hasDictAll ds = false
  | [], _ => rfl
  | d :: ds, h => by
    show (d.hasDict || PyData.hasDictAll ds) = false
    rw [h d (List.mem_cons_self ..), hd_all fun x hx => h x (List.mem_cons_of_mem _ hx)]
    rfl
theorem ce_shaped {ds : List PyData} (h : ∀ d ∈ ds, CeD d) : SeqAt.shaped (.list ds) = true := by
  have h1 := sm_lys (ds := ds) (k := 1) (b := 100) fun d hd => (h d hd).sm
  have h2 := sm_dps (ds := ds) (k := 1) (b := 100) fun d hd => (h d hd).sm
  unfold SeqAt.shaped
  rw [Bool.and_eq_true]
  refine ⟨h1, decide_eq_true ?_⟩
  show PyData.depthAll ds + 1 ≤ 64
  omega
theorem all_filter (ds : List PyData) : (ds.filter fun e => !(ratD e).isSome).isEmpty = ds.all fun e => (ratD e).isSome := by
  induction ds with
  | nil => rfl
  | cons d ds ih =>
    rw [List.filter_cons, List.all_cons]
    cases c : (ratD d).isSome with
    | true =>
      rw [if_neg (by decide), Bool.true_and]
      exact ih
    | false =>
      rw [if_pos (by decide), Bool.false_and]
      rfl
section
variable {P : Program} {w : World} {K : PySem.W.Frag} {mg : Str → Option Value} {base : Heap}
theorem scDue : FnScope ["_law_parts_here", "_law_found", "_law_many", "_law_part", "_law_number", "_law_row", "_law_one"] ["_law_parts_here"] (defScope sDue) := ⟨rfl, rfl, rfl, by decide +kernel, rfl, by decide +kernel, by decide +kernel⟩
theorem ok_Due {f fS fR : Addr} {fd fdS fdR : FuncData} {k : Nat} (F : Fun K "_law_due" "_law_due" sDue f fd) (GS : FnOk P w K mg base CX0 k fS fdS ["_law_thing"] (spShDue K)) (kS : PySem.W.keepIn K (.ref fS) = true) (bS : Binds K fdS ["_law_thing"] []) (gS : mg "_law_shares_due" = some (.ref fS)) (GR : FnOk P w K mg base CX0 k fR fdR ["_law_thing"] (spIsRL K)) (kR : PySem.W.keepIn K (.ref fR) = true) (bR : Binds K fdR ["_law_thing"] []) (gR : mg "_law_is_ratio" = some (.ref fR)) (B : Blt mg) : FnOk P w K mg base CX0 (k + 1) f fd ["_law_parts_here"] (spDue K) := by
  refine F.ok scDue (fun vs H Q E h => ?_) (fun cdv A outer s H vs Q E hr h => ?_)
  · obtain ⟨ex, P, v0, v1, v2, d0, d1, d2, rfl, _⟩ := h
    rfl
  · obtain ⟨ex, P, v0, v1, v2, d0, d1, d2, rfl, hP, h0, h1, h2, c0, c1, c2, q⟩ := h
    refine ⟨_, (pss_cons (ps_set (i := 1) scDue.nd rfl (.inl rfl) (pe_call GS hr (by rfl) gS kS bS .nil pass0 (pa_cons (pe_ix ix_list (pv 0) pe_int (fun _ _ => rfl)) pa_nil)))
      (pss_cons (ps_if (pt_cmpR op_notN (pv 1) pe_non (nomark _)) (pss_one (ps_ret (pv 1))) pss_nil)
      (pss_cons (ps_set (i := 2) scDue.nd rfl (.inl rfl) pe_int)
      (pss_cons (ps_for PassesOwn.never rfl (pi_tup (pe_tup (pa_cons pe_int (pa_cons pe_int pa_nil)))) (pg_name (i := 3) scDue.nd rfl (.inl rfl)) (pss_cons (ps_if (PW.pt (pw_or (pt_not (pt_val (pe_callB call_isi (by rfl) B.isinstance_ (by decide +kernel) (pa_cons (pe_ix ix_list (pv 0) (pv 3) (fun _ _ => rfl)) (pa_cons (pe_bltn (v := .ty "list") (by rfl) B.list_ (by decide +kernel) rfl) pa_nil))))) (pw_or1 (pt_cmpR op_ne (pe_callB call_len_seq (by rfl) B.len_ PySem.boot_len (pa_cons (pe_ix ix_list (pv 0) (pv 3) (fun _ _ => rfl)) pa_nil)) (pe_callB call_len_seq (by rfl) B.len_ PySem.boot_len (pa_cons (pe_ix ix_list (pv 0) pe_int (fun _ _ => rfl)) pa_nil)) (nomark _))))) (pss_one (ps_ret (pe_tup (pa_cons (pe_ix ix_list (pe_lst (pa_cons pe_str (pa_cons pe_str (pa_cons pe_str pa_nil)))) (pv 3) (fun _ _ => rfl)) (pa_cons pe_non pa_nil))))) pss_nil)
      (pss_one (ps_for PassesOwn.never rfl (pi_enum (by rfl) B.enumerate_ (pa_cons (pe_ix ix_list (pv 0) (pv 3) (fun _ _ => rfl)) pa_nil)) (pg_tup rfl (pgs_cons (pg_name (i := 4) scDue.nd rfl (.inl rfl)) (pgs_cons (pg_name (i := 5) scDue.nd rfl (.inl rfl)) pgs_nil))) (pss_cons (ps_if (PW.pt (pw_or (pt_not (pt_val (pe_callB call_isi (by rfl) B.isinstance_ (by decide +kernel) (pa_cons (pv 5) (pa_cons (pe_bltn (v := .ty "list") (by rfl) B.list_ (by decide +kernel) rfl) pa_nil))))) (pw_or (pt_not (pt_chain op_le op_le pe_int (pe_callB call_len_seq (by rfl) B.len_ PySem.boot_len (pa_cons (pv 5) pa_nil)) pe_int)) (pw_or1 (PW.pt (pw_and (pt_cmpR op_gt (pv 2) pe_int (nomark _)) (pw_and1 (pt_cmpR op_ne (pe_callB call_len_seq (by rfl) B.len_ PySem.boot_len (pa_cons (pv 5) pa_nil)) (pv 2) (nomark _))))))))) (pss_one (ps_ret (pe_tup (pa_cons (pe_ix ix_list (pe_lst (pa_cons pe_str (pa_cons pe_str (pa_cons pe_str pa_nil)))) (pv 3) (fun _ _ => rfl)) (pa_cons (pv 4) pa_nil))))) pss_nil)
      (pss_cons (ps_if (pt_cmpR (op_neD hr.units) (pe_lc (own := [("_law_one", 6)]) (g := gName 6) (tt := (tNot (tB (tCall (spIsRL K) [] E0 (tCons (tVar 6) tNil))))) (te := (tVar 6)) rfl scDue.nd (pi_list (pv 5)) (blkOk_by (N := ["_law_parts_here", "_law_found", "_law_many", "_law_part", "_law_number", "_law_row", "_law_one"]) (sc := defScope sDue) (by decide +kernel)) (fun _ _ _ _ _ => (pg_name (i := 6) scDue.nd rfl (Or.inl rfl))) (fun _ _ _ _ _ => (pts_one (pt_not (pt_val (pe_call GR hr (by rfl) gR kR bR .nil pass0 (pa_cons (pv 6) pa_nil)))))) (fun _ _ _ _ _ => (pv 6))) (pe_lst pa_nil) (nomark _)) (pss_one (ps_ret (pe_tup (pa_cons (pe_ix ix_list (pe_lst (pa_cons pe_str (pa_cons pe_str (pa_cons pe_str pa_nil)))) (pv 3) (fun _ _ => rfl)) (pa_cons (pv 4) pa_nil))))) pss_nil)
      (pss_one (ps_set (i := 2) scDue.nd rfl (.inl rfl) (pe_callB call_len_seq (by rfl) B.len_ PySem.boot_len (pa_cons (pv 5) pa_nil))))))))))
      (pss_one (ps_ret pe_non)))))), ?_⟩
    refine ⟨_, rfl, P, _, 0, v0, rfl, rfl, SqL.of hP, atI_nat (j := 0) rfl, ex, v0, d0, rfl, h0, c0, fun rv H1 s1 hr1 => ?_⟩
    refine ⟨_, rfl, rfl, _, rfl, ?_⟩
    cases eS : badS d0 with
    | some n =>
      have e1 : ansS d0 = some (("shares" : Str), n) := by unfold ansS; rw [eS]; rfl
      have e2 : badC d0 d1 d2 = some (("shares" : Str), n) := by unfold badC; rw [eS]; rfl
      rw [e1] at hr1
      rw [e2] at q
      obtain ⟨a, rfl, ha⟩ := hr1
      exact iteT ⟨_, rfl, q _ _ s1 ⟨a, rfl, ha⟩⟩
    | none =>
    have e1 : ansS d0 = none := by unfold ansS; rw [eS]; rfl
    rw [e1] at hr1
    cases (show rv = .non from hr1)
    refine iteF ?_
    have l0 : lenOk (lenD d0) 1 5 = true := by
      unfold badS at eS
      split at eS
      · assumption
      · cases eS
    obtain ⟨es0, rfl, l1, l5⟩ := lenOk_list l0
    cases h0 with
    | @lst a0 xs0 _ ha0 _ ts0 =>
    have hl0 := ts0.len
    have eB : badC (.list es0) d1 d2 = restOf d1 d2 (es0.length : Int) 0 1 6 := by
      unfold badC
      rw [eS]
      rfl
    refine ⟨(by show 2 ≤ sizeLine; decide), fun TP nTP => ?_⟩
    have sTP := same_new nTP (.tup [V.int 1, V.int 2])
    have eTP : (upd H1 TP (.tup [V.int 1, V.int 2])) TP = some (.tup [V.int 1, V.int 2]) := upd_same
    generalize upd H1 TP (.tup [V.int 1, V.int 2]) = H2 at sTP eTP ⊢
    refine ⟨TP, rfl, ⟨_, SqT.of eTP⟩, for_tup (K := K) (a := TP) (xs := [V.int 1, V.int 2]) (fun i σ H' => ∃ (many lo hi : Int) (y3 y4 y5 : Option V), σ = [some (.ref P), some .non, some (.int many), y3, y4, y5, none] ∧ Same H H' ∧ H' TP = some (.tup [V.int 1, V.int 2]) ∧ LH many lo hi ∧ badC (.list es0) d1 d2 = restOf d1 d2 (es0.length : Int) i lo hi)
      ⟨0, 1, 6, _, _, _, rfl, s1.trans sTP, eTP, .inl ⟨rfl, rfl, rfl⟩, eB⟩ (fun i σ H' _ ⟨_, _, _, _, _, _, _, _, e, _⟩ => SqT.of e) ?_ ?_⟩
    · rintro i x σ H3 hix ⟨many, lo, hi, y3, y4, y5, rfl, s5, eT5, hLH, eR⟩
      obtain ⟨vP, dP, nm, rest, hvP, cP, eP, eN, eR', hnext, ex_⟩ : ∃ (vP : V) (dP : PyData) (nm : Str) (rest : Ans), Dz.Dz K H ex vP dP ∧ (∀ r ∈ itemsD dP, ∀ e ∈ itemsD r, CeD e) ∧ atI [V.ref a0, v1, v2] ((i : Int) + 1) = some vP ∧ atI [V.str "", V.str "hearer", V.str "teller"] ((i : Int) + 1) = some (.str nm) ∧ restOf d1 d2 (es0.length : Int) i lo hi = orP nm (badG dP (es0.length : Int) lo hi) rest ∧ restOf d1 d2 (es0.length : Int) (i + 1) (deedsD dP : Int) (deedsD dP : Int) = rest ∧ x = .int ((i : Int) + 1) := by
        match i, hix with
        | 0, hix =>
          cases (Option.some.inj hix)
          exact ⟨v1, d1, "hearer", _, h1, c1, atI_nat (j := 1) rfl, atI_nat (j := 1) rfl, rfl, rfl, rfl⟩
        | 1, hix =>
          cases (Option.some.inj hix)
          exact ⟨v2, d2, "teller", _, h2, c2, atI_nat (j := 2) rfl, atI_nat (j := 2) rfl, rfl, rfl, rfl⟩
      subst ex_
      rw [eR, eR'] at q
      have badN : lenOk (lenD dP) (es0.length : Int) (es0.length : Int) = false → RetT Q H (some (nm, V.non)) := fun c => by
        unfold badG at q
        rw [if_neg (by rw [c]; decide)] at q
        exact q
      cases dP with
      | none => (have q0 := badN rfl; exact ⟨_, rfl, _, rfl, P, _, _, vP, rfl, rfl, SqL.of (s5 _ _ hP), eP, _, _, _, _, isL _, rfl, .ty "list", (hvP.same s5).ty, kit_ty (kit_isL _), _, rfl, iteT (iteT ⟨(by show 3 ≤ sizeLine; decide), fun pn npn => ⟨_, rfl, pn, _, _, .str nm, rfl, rfl, SqL.of upd_same, eN, (by show 2 ≤ sizeLine; decide), fun p hp => q0 _ _ (s5.trans ((same_new npn _).trans (same_new hp _))) ⟨p, rfl, upd_same⟩⟩⟩)⟩)
      | bool b => (have q0 := badN rfl; exact ⟨_, rfl, _, rfl, P, _, _, vP, rfl, rfl, SqL.of (s5 _ _ hP), eP, _, _, _, _, isL _, rfl, .ty "list", (hvP.same s5).ty, kit_ty (kit_isL _), _, rfl, iteT (iteT ⟨(by show 3 ≤ sizeLine; decide), fun pn npn => ⟨_, rfl, pn, _, _, .str nm, rfl, rfl, SqL.of upd_same, eN, (by show 2 ≤ sizeLine; decide), fun p hp => q0 _ _ (s5.trans ((same_new npn _).trans (same_new hp _))) ⟨p, rfl, upd_same⟩⟩⟩)⟩)
      | int b => (have q0 := badN rfl; exact ⟨_, rfl, _, rfl, P, _, _, vP, rfl, rfl, SqL.of (s5 _ _ hP), eP, _, _, _, _, isL _, rfl, .ty "list", (hvP.same s5).ty, kit_ty (kit_isL _), _, rfl, iteT (iteT ⟨(by show 3 ≤ sizeLine; decide), fun pn npn => ⟨_, rfl, pn, _, _, .str nm, rfl, rfl, SqL.of upd_same, eN, (by show 2 ≤ sizeLine; decide), fun p hp => q0 _ _ (s5.trans ((same_new npn _).trans (same_new hp _))) ⟨p, rfl, upd_same⟩⟩⟩)⟩)
      | str b => (have q0 := badN rfl; exact ⟨_, rfl, _, rfl, P, _, _, vP, rfl, rfl, SqL.of (s5 _ _ hP), eP, _, _, _, _, isL _, rfl, .ty "list", (hvP.same s5).ty, kit_ty (kit_isL _), _, rfl, iteT (iteT ⟨(by show 3 ≤ sizeLine; decide), fun pn npn => ⟨_, rfl, pn, _, _, .str nm, rfl, rfl, SqL.of upd_same, eN, (by show 2 ≤ sizeLine; decide), fun p hp => q0 _ _ (s5.trans ((same_new npn _).trans (same_new hp _))) ⟨p, rfl, upd_same⟩⟩⟩)⟩)
      | tuple b => (have q0 := badN rfl; exact ⟨_, rfl, _, rfl, P, _, _, vP, rfl, rfl, SqL.of (s5 _ _ hP), eP, _, _, _, _, isL _, rfl, .ty "list", (hvP.same s5).ty, kit_ty (kit_isL _), _, rfl, iteT (iteT ⟨(by show 3 ≤ sizeLine; decide), fun pn npn => ⟨_, rfl, pn, _, _, .str nm, rfl, rfl, SqL.of upd_same, eN, (by show 2 ≤ sizeLine; decide), fun p hp => q0 _ _ (s5.trans ((same_new npn _).trans (same_new hp _))) ⟨p, rfl, upd_same⟩⟩⟩)⟩)
      | dict b => (have q0 := badN rfl; exact ⟨_, rfl, _, rfl, P, _, _, vP, rfl, rfl, SqL.of (s5 _ _ hP), eP, _, _, _, _, isL _, rfl, .ty "list", (hvP.same s5).ty, kit_ty (kit_isL _), _, rfl, iteT (iteT ⟨(by show 3 ≤ sizeLine; decide), fun pn npn => ⟨_, rfl, pn, _, _, .str nm, rfl, rfl, SqL.of upd_same, eN, (by show 2 ≤ sizeLine; decide), fun p hp => q0 _ _ (s5.trans ((same_new npn _).trans (same_new hp _))) ⟨p, rfl, upd_same⟩⟩⟩)⟩)
      | list es =>
      refine ⟨_, rfl, _, rfl, P, _, _, vP, rfl, rfl, SqL.of (s5 _ _ hP), eP, _, _, _, _, isL _, rfl, .ty "list", (hvP.same s5).ty, kit_ty (kit_isL _), _, rfl, iteF ?_⟩
      cases hvP with
      | @lst aP xsP _ haP hnP tsP =>
      have hlP := tsP.len
      refine ⟨_, rfl, _, rfl, P, _, _, (.ref aP), rfl, rfl, SqL.of (s5 _ _ hP), eP, aP, xsP, rfl, .inl (SqL.of (s5 _ _ haP)), _, rfl, P, _, 0, _, rfl, rfl, SqL.of (s5 _ _ hP), atI_nat (j := 0) rfl, a0, xs0, rfl, .inl (SqL.of (s5 _ _ ha0)), rfl, _, rfl, ?_⟩
      by_cases cl : es.length = es0.length
      rotate_left
      · rw [decide_eq_false (fun z => cl (by have := V.int.inj z; omega))]
        have q0 := badN (by
          show (decide _ && decide _) = false
          rw [Bool.and_eq_false_iff, decide_eq_false_iff_not, decide_eq_false_iff_not]
          omega)
        exact iteT ⟨(by show 3 ≤ sizeLine; decide), fun pn npn => ⟨_, rfl, pn, _, _, .str nm, rfl, rfl, SqL.of upd_same, eN, (by show 2 ≤ sizeLine; decide), fun p hp => q0 _ _ (s5.trans ((same_new npn _).trans (same_new hp _))) ⟨p, rfl, upd_same⟩⟩⟩
      rw [hlP, hl0, cl, decide_eq_true rfl]
      refine iteF ?_
      have cL : lenOk (lenD (.list es)) (es0.length : Int) (es0.length : Int) = true := lenOk_iff.mpr (by omega)
      have eG : badG (.list es) (es0.length : Int) lo hi = (firstWrongZ es 0 lo hi).map fun j => V.int (j : Nat) := by
        unfold badG
        rw [if_pos cL]
        rfl
      rw [eG] at q eR'
      refine ⟨_, rfl, _, rfl, P, _, _, (.ref aP), rfl, rfl, SqL.of (s5 _ _ hP), eP, aP, _, rfl, SqL.of (s5 _ _ haP), for_it (walk_enum (K := K) (a := aP) (xs := xsP)) (fun j σ H' => ∃ (many' lo' hi' : Int) (y4 y5 : Option V), σ = [some (.ref P), some .non, some (.int many'), some (.int ((i : Int) + 1)), y4, y5, none] ∧ Same H H' ∧ H' TP = some (.tup [V.int 1, V.int 2]) ∧ LH many' lo' hi' ∧ firstWrongZ es 0 lo hi = firstWrongZ (es.drop j) j lo' hi' ∧ (0 < j → many' = (deedsD (.list es) : Int) ∧ lo' = many' ∧ hi' = many'))
        ⟨many, lo, hi, _, _, rfl, s5, eT5, hLH, by rw [List.drop_zero], fun z => absurd z (Nat.lt_irrefl _)⟩ (fun j σ H' _ ⟨_, _, _, _, _, _, z, _⟩ => SqL.of (z _ _ haP)) ?_ ?_⟩
      · rintro j x σ H4 H5 hj ⟨many', lo', hi', y4, y5, rfl, s7, eT7, hLH', fw, hmj⟩ ⟨TT, u, v, rfl, nT, rfl, e1, e2⟩
        cases (Option.some.inj e1)
        obtain ⟨r, f1, f2⟩ := tsP.at_ e2
        have hjl : j < es.length := (List.getElem?_eq_some_iff.mp f1).1
        have sT := same_new nT (.tup [V.int (j : Nat), v])
        have eT : (upd H4 TT (.tup [V.int (j : Nat), v])) TT = some (.tup [V.int (j : Nat), v]) := upd_same
        generalize upd H4 TT (.tup [V.int (j : Nat), v]) = H5 at sT eT ⊢
        have s8 := s7.trans sT
        have eT8 := sT _ _ eT7
        refine ⟨TT, _, rfl, SqT.of eT, rfl, _, _, rfl, _, _, rfl, rfl, ?_⟩
        rw [firstWrongZ_drop f1] at fw
        have ret : rowOkZ r lo' hi' = false → RetT Q H (some (nm, V.int (j : Nat))) := fun c => by
          rw [if_neg (by rw [c]; decide)] at fw
          rw [fw] at q
          exact q
        cases r with
        | none => exact ⟨_, rfl, _, _, _, _, isL _, rfl, .ty "list", (f2.same s8).ty, kit_ty (kit_isL _), _, rfl, iteT (iteT ⟨(by show 3 ≤ sizeLine; decide), fun pn npn => ⟨_, rfl, pn, _, _, .str nm, rfl, rfl, SqL.of upd_same, eN, _, rfl, (by show 2 ≤ sizeLine; decide), fun p hp => (ret rfl) _ _ (s8.trans ((same_new npn _).trans (same_new hp _))) ⟨p, rfl, upd_same⟩⟩⟩)⟩
        | bool b => exact ⟨_, rfl, _, _, _, _, isL _, rfl, .ty "list", (f2.same s8).ty, kit_ty (kit_isL _), _, rfl, iteT (iteT ⟨(by show 3 ≤ sizeLine; decide), fun pn npn => ⟨_, rfl, pn, _, _, .str nm, rfl, rfl, SqL.of upd_same, eN, _, rfl, (by show 2 ≤ sizeLine; decide), fun p hp => (ret rfl) _ _ (s8.trans ((same_new npn _).trans (same_new hp _))) ⟨p, rfl, upd_same⟩⟩⟩)⟩
        | int b => exact ⟨_, rfl, _, _, _, _, isL _, rfl, .ty "list", (f2.same s8).ty, kit_ty (kit_isL _), _, rfl, iteT (iteT ⟨(by show 3 ≤ sizeLine; decide), fun pn npn => ⟨_, rfl, pn, _, _, .str nm, rfl, rfl, SqL.of upd_same, eN, _, rfl, (by show 2 ≤ sizeLine; decide), fun p hp => (ret rfl) _ _ (s8.trans ((same_new npn _).trans (same_new hp _))) ⟨p, rfl, upd_same⟩⟩⟩)⟩
        | str b => exact ⟨_, rfl, _, _, _, _, isL _, rfl, .ty "list", (f2.same s8).ty, kit_ty (kit_isL _), _, rfl, iteT (iteT ⟨(by show 3 ≤ sizeLine; decide), fun pn npn => ⟨_, rfl, pn, _, _, .str nm, rfl, rfl, SqL.of upd_same, eN, _, rfl, (by show 2 ≤ sizeLine; decide), fun p hp => (ret rfl) _ _ (s8.trans ((same_new npn _).trans (same_new hp _))) ⟨p, rfl, upd_same⟩⟩⟩)⟩
        | tuple b => exact ⟨_, rfl, _, _, _, _, isL _, rfl, .ty "list", (f2.same s8).ty, kit_ty (kit_isL _), _, rfl, iteT (iteT ⟨(by show 3 ≤ sizeLine; decide), fun pn npn => ⟨_, rfl, pn, _, _, .str nm, rfl, rfl, SqL.of upd_same, eN, _, rfl, (by show 2 ≤ sizeLine; decide), fun p hp => (ret rfl) _ _ (s8.trans ((same_new npn _).trans (same_new hp _))) ⟨p, rfl, upd_same⟩⟩⟩)⟩
        | dict b => exact ⟨_, rfl, _, _, _, _, isL _, rfl, .ty "list", (f2.same s8).ty, kit_ty (kit_isL _), _, rfl, iteT (iteT ⟨(by show 3 ≤ sizeLine; decide), fun pn npn => ⟨_, rfl, pn, _, _, .str nm, rfl, rfl, SqL.of upd_same, eN, _, rfl, (by show 2 ≤ sizeLine; decide), fun p hp => (ret rfl) _ _ (s8.trans ((same_new npn _).trans (same_new hp _))) ⟨p, rfl, upd_same⟩⟩⟩)⟩
        | list rs =>
        refine ⟨_, rfl, _, _, _, _, isL _, rfl, .ty "list", (f2.same s8).ty, kit_ty (kit_isL _), _, rfl, iteF ?_⟩
        have cR : ∀ e ∈ rs, CeD e := cP _ (List.mem_of_getElem? f1)
        cases f2 with
        | @lst ar xr _ har hnr tsr =>
        have hlr := tsr.len
        have rf : lenOk (some rs.length) lo' hi' = false → rowOkZ (.list rs) lo' hi' = false := fun e => by
          unfold rowOkZ
          show (lenOk (some rs.length) lo' hi' && _) = false
          rw [e, Bool.false_and]
        have lf : ¬ (lo' ≤ (rs.length : Int) ∧ (rs.length : Int) ≤ hi') → lenOk (some rs.length) lo' hi' = false := fun h => by
          show (decide _ && decide _) = false
          rw [Bool.and_eq_false_iff, decide_eq_false_iff_not, decide_eq_false_iff_not]
          omega
        refine ⟨_, rfl, ar, xr, rfl, .inl (SqL.of (s8 _ _ har)), 1, _, rfl, rfl, _, rfl, ?_⟩
        rw [hlr]
        by_cases b1 : (1 : Int) ≤ (rs.length : Int)
        rotate_left
        · rw [decide_eq_false b1]
          have q0 := ret (rf (lf (by rcases hLH' with ⟨_, rfl, rfl⟩ | ⟨_, _, rfl, rfl⟩ <;> omega)))
          exact iteF ⟨_, rfl, iteT (iteT ⟨(by show 3 ≤ sizeLine; decide), fun pn npn => ⟨_, rfl, pn, _, _, .str nm, rfl, rfl, SqL.of upd_same, eN, _, rfl, (by show 2 ≤ sizeLine; decide), fun p hp => q0 _ _ (s8.trans ((same_new npn _).trans (same_new hp _))) ⟨p, rfl, upd_same⟩⟩⟩)⟩
        rw [decide_eq_true b1]
        refine iteT ⟨_, _, rfl, rfl, _, rfl, ?_⟩
        by_cases b2 : (rs.length : Int) ≤ 6
        rotate_left
        · rw [decide_eq_false b2]
          have q0 := ret (rf (lf (by rcases hLH' with ⟨_, rfl, rfl⟩ | ⟨_, _, rfl, rfl⟩ <;> omega)))
          exact iteT (iteT ⟨(by show 3 ≤ sizeLine; decide), fun pn npn => ⟨_, rfl, pn, _, _, .str nm, rfl, rfl, SqL.of upd_same, eN, _, rfl, (by show 2 ≤ sizeLine; decide), fun p hp => q0 _ _ (s8.trans ((same_new npn _).trans (same_new hp _))) ⟨p, rfl, upd_same⟩⟩⟩)
        rw [decide_eq_true b2]
        refine iteF ?_
        have go : ¬ (0 < many' ∧ (rs.length : Int) ≠ many') → lenOk (lenD (.list rs)) lo' hi' = true := fun h => lenOk_iff.mpr (by rcases hLH' with ⟨rfl, rfl, rfl⟩ | ⟨_, _, rfl, rfl⟩ <;> omega)
        by_cases hm : 0 < many'
        · refine ⟨_, rfl, _, _, rfl, rfl, _, rfl, ?_⟩
          rw [decide_eq_true hm]
          refine iteT ⟨_, rfl, ar, xr, rfl, .inl (SqL.of (s8 _ _ har)), _, rfl, rfl, _, rfl, ?_⟩
          by_cases hlm : (rs.length : Int) = many'
          rotate_left
          · rw [hlr, decide_eq_false (fun z => hlm (V.int.inj z))]
            have q0 := ret (rf (lf (by rcases hLH' with ⟨rfl, rfl, rfl⟩ | ⟨_, _, rfl, rfl⟩ <;> omega)))
            exact iteT ⟨(by show 3 ≤ sizeLine; decide), fun pn npn => ⟨_, rfl, pn, _, _, .str nm, rfl, rfl, SqL.of upd_same, eN, _, rfl, (by show 2 ≤ sizeLine; decide), fun p hp => q0 _ _ (s8.trans ((same_new npn _).trans (same_new hp _))) ⟨p, rfl, upd_same⟩⟩⟩
          rw [hlr, hlm, decide_eq_true rfl]
          refine iteF ?_
          have gl := go (fun z => z.2 hlm)
          refine ⟨_, rfl, ar, rfl, ⟨_, SqL.of (s8 _ _ har)⟩, fun Dn hDn => lc_list (K := K) (a := ar) (xs := xr) (fun n H' => ∃ acc das, H' Dn = some (.lst acc) ∧ Same H5 H' ∧ DzA K H5 ex acc das ∧ das = (rs.take n).filter fun e => !(ratD e).isSome) ⟨[], [], upd_same, same_new hDn _, .nil, rfl⟩ (fun n H' _ ⟨_, _, _, z, _⟩ => SqL.of (z _ _ (s8 _ _ har))) ?_ ?_⟩
          · rintro n x H6 hn6 ⟨acc, das, hD6, sS, dz, ed⟩
            obtain ⟨d, g1, g2⟩ := tsr.at_ hn6
            have hce := cR d (List.mem_of_getElem? g1)
            have hnl : n < rs.length := (List.getElem?_eq_some_iff.mp g1).1
            have alen : acc.length ≤ n := by
              rw [dz.len, ed]
              refine Nat.le_trans (List.length_filter_le _ _) ?_
              rw [List.length_take]
              omega
            refine ⟨rfl, ?_⟩
            refine ⟨_, rfl, ex, x, d, rfl, g2.same (s8.trans sS), hce.sm.sh, fun H7 s9 => ⟨_, rfl, ?_⟩⟩
            have tk : (rs.take (n + 1)).filter (fun e => !(ratD e).isSome) = das ++ (if (ratD d).isSome = true then [] else [d]) := by
              rw [List.take_add_one, g1, List.filter_append, ← ed]
              show das ++ List.filter _ [d] = _
              rw [List.filter_cons, List.filter_nil]
              cases (ratD d).isSome <;> rfl
            cases cc : (ratD d).isSome with
            | true =>
              rw [cc, if_pos rfl, List.append_nil] at tk
              exact iteF ⟨acc, das, s9 _ _ hD6, sS.trans s9, dz, tk.symm⟩
            | false =>
              rw [cc, if_neg (by decide)] at tk
              refine iteT ⟨_, rfl, acc, s9 _ _ hD6, small1000 (by omega), acc ++ [x], das ++ [d], upd_same, fun b u e => ?_, dz.app (.cons (g2.same s8) .nil), tk.symm⟩
              rw [upd_ne (ne_of_none e hDn)]
              exact s9 _ _ (sS _ _ e)
          · rintro H6 ⟨acc, das, hD6, sS, dz, ed⟩
            rw [hlr, List.take_length] at ed
            have hcd : ∀ d ∈ das, CeD d := fun d hd => by
              rw [ed] at hd
              exact cR d (List.mem_filter.mp hd).1
            refine ⟨(by show 0 ≤ sizeLine; decide), fun pe npe => ?_⟩
            have s9 := sS.trans (same_new npe (.lst []))
            have hD7 := same_new npe (.lst []) _ _ hD6
            refine ⟨.list das, .list [], .lst (SqL.of hD7) (DzA.dp das acc (dz.same s9) (hd_all fun d hd => (hcd d hd).nd)), .lst (SqL.of upd_same) .nil, ce_shaped hcd, rfl, _, rfl, ?_⟩
            have s89 := s8.trans s9
            rw [eqv_nil, ed, all_filter]
            cases ca : rs.all (fun e => (ratD e).isSome) with
            | false =>
              have q0 := ret (by unfold rowOkZ; rw [gl]; exact ca)
              exact iteT ⟨(by show 3 ≤ sizeLine; decide), fun pn npn => ⟨_, rfl, pn, _, _, .str nm, rfl, rfl, SqL.of upd_same, eN, _, rfl, (by show 2 ≤ sizeLine; decide), fun p hp => q0 _ _ (s89.trans ((same_new npn _).trans (same_new hp _))) ⟨p, rfl, upd_same⟩⟩⟩
            | true =>
              refine iteF ⟨_, rfl, ar, xr, rfl, .inl (SqL.of (s89 _ _ har)), ?_⟩
              have rt : rowOkZ (.list rs) lo' hi' = true := by unfold rowOkZ; rw [gl]; exact ca
              rw [if_pos rt] at fw
              rw [hlr]
              refine ⟨(rs.length : Int), (rs.length : Int), (rs.length : Int), _, _, rfl, s89, s9 _ _ eT8, .inr ⟨b1, b2, rfl, rfl⟩, fw, fun _ => ⟨?_, rfl, rfl⟩⟩
              by_cases j0 : j = 0
              · subst j0
                have : deedsD (.list es) = rs.length := by
                  unfold deedsD
                  show (itemsD (es.headD .none)).length = _
                  cases es with
                  | nil => cases f1
                  | cons a es => rw [show a = PyData.list rs from Option.some.inj f1]; rfl
                rw [this]
              · obtain ⟨e1, e2, e3⟩ := hmj (by omega)
                omega
        · refine ⟨_, rfl, _, _, rfl, rfl, _, rfl, ?_⟩
          rw [decide_eq_false hm]
          refine iteF (iteF ?_)
          have gl := go (fun z => hm z.1)
          have hlm : (rs.length : Int) = many' ∨ j = 0 := by
            by_cases j0 : j = 0
            · exact .inr j0
            · obtain ⟨e1, e2, e3⟩ := hmj (by omega)
              rcases hLH' with ⟨z1, z2, z3⟩ | ⟨z1, _, _, _⟩ <;> omega
          refine ⟨_, rfl, ar, rfl, ⟨_, SqL.of (s8 _ _ har)⟩, fun Dn hDn => lc_list (K := K) (a := ar) (xs := xr) (fun n H' => ∃ acc das, H' Dn = some (.lst acc) ∧ Same H5 H' ∧ DzA K H5 ex acc das ∧ das = (rs.take n).filter fun e => !(ratD e).isSome) ⟨[], [], upd_same, same_new hDn _, .nil, rfl⟩ (fun n H' _ ⟨_, _, _, z, _⟩ => SqL.of (z _ _ (s8 _ _ har))) ?_ ?_⟩
          · rintro n x H6 hn6 ⟨acc, das, hD6, sS, dz, ed⟩
            obtain ⟨d, g1, g2⟩ := tsr.at_ hn6
            have hce := cR d (List.mem_of_getElem? g1)
            have hnl : n < rs.length := (List.getElem?_eq_some_iff.mp g1).1
            have alen : acc.length ≤ n := by
              rw [dz.len, ed]
              refine Nat.le_trans (List.length_filter_le _ _) ?_
              rw [List.length_take]
              omega
            refine ⟨rfl, ?_⟩
            refine ⟨_, rfl, ex, x, d, rfl, g2.same (s8.trans sS), hce.sm.sh, fun H7 s9 => ⟨_, rfl, ?_⟩⟩
            have tk : (rs.take (n + 1)).filter (fun e => !(ratD e).isSome) = das ++ (if (ratD d).isSome = true then [] else [d]) := by
              rw [List.take_add_one, g1, List.filter_append, ← ed]
              show das ++ List.filter _ [d] = _
              rw [List.filter_cons, List.filter_nil]
              cases (ratD d).isSome <;> rfl
            cases cc : (ratD d).isSome with
            | true =>
              rw [cc, if_pos rfl, List.append_nil] at tk
              exact iteF ⟨acc, das, s9 _ _ hD6, sS.trans s9, dz, tk.symm⟩
            | false =>
              rw [cc, if_neg (by decide)] at tk
              refine iteT ⟨_, rfl, acc, s9 _ _ hD6, small1000 (by omega), acc ++ [x], das ++ [d], upd_same, fun b u e => ?_, dz.app (.cons (g2.same s8) .nil), tk.symm⟩
              rw [upd_ne (ne_of_none e hDn)]
              exact s9 _ _ (sS _ _ e)
          · rintro H6 ⟨acc, das, hD6, sS, dz, ed⟩
            rw [hlr, List.take_length] at ed
            have hcd : ∀ d ∈ das, CeD d := fun d hd => by
              rw [ed] at hd
              exact cR d (List.mem_filter.mp hd).1
            refine ⟨(by show 0 ≤ sizeLine; decide), fun pe npe => ?_⟩
            have s9 := sS.trans (same_new npe (.lst []))
            have hD7 := same_new npe (.lst []) _ _ hD6
            refine ⟨.list das, .list [], .lst (SqL.of hD7) (DzA.dp das acc (dz.same s9) (hd_all fun d hd => (hcd d hd).nd)), .lst (SqL.of upd_same) .nil, ce_shaped hcd, rfl, _, rfl, ?_⟩
            have s89 := s8.trans s9
            rw [eqv_nil, ed, all_filter]
            cases ca : rs.all (fun e => (ratD e).isSome) with
            | false =>
              have q0 := ret (by unfold rowOkZ; rw [gl]; exact ca)
              exact iteT ⟨(by show 3 ≤ sizeLine; decide), fun pn npn => ⟨_, rfl, pn, _, _, .str nm, rfl, rfl, SqL.of upd_same, eN, _, rfl, (by show 2 ≤ sizeLine; decide), fun p hp => q0 _ _ (s89.trans ((same_new npn _).trans (same_new hp _))) ⟨p, rfl, upd_same⟩⟩⟩
            | true =>
              refine iteF ⟨_, rfl, ar, xr, rfl, .inl (SqL.of (s89 _ _ har)), ?_⟩
              have rt : rowOkZ (.list rs) lo' hi' = true := by unfold rowOkZ; rw [gl]; exact ca
              rw [if_pos rt] at fw
              rw [hlr]
              refine ⟨(rs.length : Int), (rs.length : Int), (rs.length : Int), _, _, rfl, s89, s9 _ _ eT8, .inr ⟨b1, b2, rfl, rfl⟩, fw, fun _ => ⟨?_, rfl, rfl⟩⟩
              by_cases j0 : j = 0
              · subst j0
                have : deedsD (.list es) = rs.length := by
                  unfold deedsD
                  show (itemsD (es.headD .none)).length = _
                  cases es with
                  | nil => cases f1
                  | cons a es => rw [show a = PyData.list rs from Option.some.inj f1]; rfl
                rw [this]
              · obtain ⟨e1, e2, e3⟩ := hmj (by omega)
                omega
      · rintro σ H4 ⟨many', lo', hi', y4, y5, rfl, s7, eT7, hLH', fw, hmj⟩
        rw [hlP, List.drop_length] at fw
        obtain ⟨em, elo, ehi⟩ := hmj (by rw [hlP]; omega)
        subst em elo ehi
        refine ⟨_, _, _, _, _, _, rfl, s7, eT7, hLH', ?_⟩
        rw [eR, eR', fw, hnext]
        rfl
    · rintro σ H3 ⟨many, lo, hi, y3, y4, y5, rfl, s5, eT5, hLH, eR⟩
      have e : restOf d1 d2 (es0.length : Int) [V.int 1, V.int 2].length lo hi = none := rfl
      rw [eR, e] at q
      exact q .non _ s5 rfl
end
end K5

set_option Elab.async false
set_option linter.all false
set_option maxRecDepth 100000
set_option maxHeartbeats 8000000
namespace K5
open PySem PySem.Spec PyProof.Rows L2 BX EXB Co Ru
open Dz Cs
open Rs (Rsp Rv Ret tYes_of dV datR Flat Okr spShares spRowsL spTotal spCopied eqv_dR)
open Fr (Bd)
def spCWorlds (K : PySem.W.Frag) (C : Addr) : Sp := fun vs H Q _ => ∃ (x : Addr) (qs : List Rat) (hss tss : List (List Rat)) (n : Nat), vs = [.ref x] ∧ IsCase K H C x qs hss tss n ∧ Q (.int (qs.length : Int)) H
/-- what with_shares refuses -/
def badW (ww : Int) (d : PyData) : Option V := if lenOk (lenD d) ww ww = true then badS d else some .non
def spCWith (K : PySem.W.Frag) (C CN : Addr) : Sp := fun vs H Q E => ∃ (ex : Addr → Prop) (n : Nat) (x : Addr) (v : V) (d : PyData) (qs : List Rat) (hss tss : List (List Rat)) (ww dd : Nat), vs = [.ref x, v] ∧ IsCase K H C x qs hss tss n ∧ GoodC qs hss tss ww dd ∧ (∀ a, ex a → H a ≠ none) ∧ Dz.Dz K H ex v d ∧ n ≤ 1000 ∧ Few n (itemsD d) ∧
  (∀ r, badW (ww : Int) d = some r → ∀ H' dd, Same H H' → H' dd = some (.xd [("number", r), ("part", .str "shares")]) → E (.ref CN) (some dd) H') ∧
  (badW (ww : Int) d = none → ∀ x' qs' H', Same H H' → d = dS qs' → IsCase K H' C x' qs' hss tss n → Q (.ref x') H')
def spToldC (K : PySem.W.Frag) : Sp := fun vs H Q _ => ∃ (ex : Addr → Prop) (P : Addr) (v0 v1 v2 : V) (d0 d1 d2 : PyData), vs = [.ref P] ∧ H P = some (.lst [v0, v1, v2]) ∧ Dz.Dz K H ex v0 d0 ∧ Dz.Dz K H ex v1 d1 ∧ Dz.Dz K H ex v2 d2 ∧
  Few 1000 (itemsD d0) ∧ (∀ d ∈ itemsD d1, Few 1000 (itemsD d)) ∧ (∀ d ∈ itemsD d2, Few 1000 (itemsD d)) ∧ RetT Q H (badC d0 d1 d2)
def ansW (ww : Int) (d : PyData) : Ans := (badW ww d).map fun n => ("shares", n)
def spToldW (K : PySem.W.Frag) (C : Addr) : Sp := fun vs H Q _ => ∃ (ex : Addr → Prop) (n : Nat) (x : Addr) (v : V) (d : PyData) (qs : List Rat) (hss tss : List (List Rat)) (ww dd : Nat), vs = [.ref x, v] ∧ IsCase K H C x qs hss tss n ∧ GoodC qs hss tss ww dd ∧ (∀ a, ex a → H a ≠ none) ∧ Dz.Dz K H ex v d ∧ n ≤ 1000 ∧ Few n (itemsD d) ∧ RetT Q H (ansW (ww : Int) d)
theorem few_dR {n : Nat} {K : PySem.W.Frag} {H : Hp} {cs : List V} {qs : List Rat} (h : FrN K H n cs qs) : Few n (qs.map dR) := fun d hd q e => by
  obtain ⟨r, hr, rfl⟩ := List.mem_map.mp hd
  rw [ratD_dR] at e
  cases e
  obtain ⟨i, hi, e⟩ := List.getElem_of_mem hr
  obtain ⟨a, q', e1, _, _, e4⟩ := h.at_ i (cs[i]'(by rw [h.len]; exact hi)) (List.getElem?_eq_getElem _)
  rw [List.getElem?_eq_getElem hi] at e1
  rw [← e, Option.some.inj e1]
  exact e4
theorem few_rows {n : Nat} {K : PySem.W.Frag} {H : Hp} {rs : List Addr} {rss : List (List Rat)} (h : RowsAt K H n rs rss) : ∀ d ∈ rss.map (fun qs => PyData.list (qs.map dR)), Few n (itemsD d) := fun d hd => by
  obtain ⟨qs, hq, rfl⟩ := List.mem_map.mp hd
  obtain ⟨i, hi, e⟩ := List.getElem_of_mem hq
  have hir : i < rs.length := by rw [h.1]; exact hi
  obtain ⟨cs, qs', e1, _, e3⟩ := h.2 i _ (List.getElem?_eq_getElem hir)
  rw [List.getElem?_eq_getElem hi, e] at e1
  cases (Option.some.inj e1)
  exact few_dR e3
theorem few_mono {n m : Nat} {ds : List PyData} (h : Few n ds) (l : n ≤ m) : Few m ds := fun d hd q e => (h d hd q e).mono l
theorem dRows_inj : ∀ {r1 r2 : List (List Rat)}, dRows r1 = dRows r2 → r1 = r2 := by
  have dRi : ∀ {a b : Rat}, dR a = dR b → a = b := fun {a b} e => by
    have h1 := ratD_dR a
    rw [e, ratD_dR] at h1
    exact (Option.some.inj h1).symm
  intro r1 r2 e
  have e' : (r1.map fun qs => PyData.list (qs.map dR)) = r2.map fun qs => PyData.list (qs.map dR) := by injection e
  refine (List.map_inj_right (fun x y h => ?_)).mp e'
  have h' : x.map dR = y.map dR := by injection h
  exact (List.map_inj_right (fun a b h => dRi h)).mp h'
theorem dS_inj {a b : List Rat} (e : dS a = dS b) : a = b := by
  have h' : a.map dR = b.map dR := by injection e
  refine (List.map_inj_right (fun x y h => ?_)).mp h'
  have h1 := ratD_dR x
  rw [h, ratD_dR] at h1
  exact (Option.some.inj h1).symm
structure CaM (K : PySem.W.Frag) (C fWo fWi : Addr) : Prop where
  mW : Meth K C "worlds" fWo
  mS : Meth K C "with_shares" fWi
section
variable {P : Program} {w : World} {K : PySem.W.Frag} {mg : Str → Option Value} {base : Heap}
theorem scCWorlds : FnScope ["self"] ["self"] (defScope sCWorlds) := ⟨rfl, rfl, rfl, by decide +kernel, rfl, by decide +kernel, by decide +kernel⟩
theorem ok_CWorlds {f C fI : Addr} {fd : FuncData} {k : Nat} (F : Fun K "worlds" "Case.worlds" sCWorlds f fd) (T : CaT K mg C fI) (B : Blt mg) : FnOk P w K mg base CX0 (k + 1) f fd ["self"] (spCWorlds K C) := by
  refine F.ok scCWorlds (fun vs H Q E h => ?_) (fun cdv A outer s H vs Q E hr h => ?_)
  · obtain ⟨x, qs, hss, tss, n, rfl, _⟩ := h
    rfl
  · obtain ⟨x, qs, hss, tss, n, rfl, ⟨dx, sa, ha, ta, cs, rh, rt, e1, e2, e3, e4, e5⟩, q⟩ := h
    refine ⟨_, (pss_one (ps_ret (pe_callB call_len_seq (by rfl) B.len_ PySem.boot_len (pa_cons (pe_fld (pv 0) rfl) pa_nil)))), ?_⟩
    refine ⟨_, rfl, x, C, dx, _, .ref sa, rfl, e1, T.cl, T.n1, rfl, sa, cs, rfl, .inl (SqL.of e2), ?_⟩
    rw [e3.len]
    exact q
theorem scCWith : FnScope ["self", "shares"] ["self", "shares"] (defScope sCWith) := ⟨rfl, rfl, rfl, by decide +kernel, rfl, by decide +kernel, by decide +kernel⟩
theorem ok_CWith {f fL fWo fWi C fI CN fN : Addr} {fd fdL fdW fdN fdI : FuncData} {k : Nat} (F : Fun K "with_shares" "Case.with_shares" sCWith f fd) (T : CaT K mg C fI) (M : CaM K C fWo fWi) (N : NcT K mg CN fN) (GN : FnOk P w K mg base CX0 k fN fdN ["self", "part", "number"] (spE2 CN "part" "number")) (bN : Binds K fdN ["self", "part", "number"] [])
    (GL : FnOk P w K mg base CX0 k fL fdL ["thing", "least", "most"] (spListOfZ K)) (kL : PySem.W.keepIn K (.ref fL) = true) (bL : Binds K fdL ["thing", "least", "most"] []) (gL : mg "is_list_of" = some (.ref fL)) (GW : FnOk P w K mg base CX0 k fWo fdW ["self"] (spCWorlds K C)) (bW : Binds K fdW ["self"] []) (GI : FnOk P w K mg base (L2.CX P w) k fI fdI ["self", "shares", "hearer", "teller"] (spCInit K C CN)) (bI : Binds K fdI ["self", "shares", "hearer", "teller"] []) (B : Blt mg) : FnOk P w K mg base (L2.CX P w) (k + 2) f fd ["self", "shares"] (spCWith K C CN) := by
  refine F.okX scCWith (fun vs H Q E h => ?_) (fun cdv A outer s H vs Q E hr h => ?_)
  · obtain ⟨ex, n, x, v, d, qs, hss, tss, ww, dd, rfl, _⟩ := h
    rfl
  · obtain ⟨ex, n, x, v, d, qs, hss, tss, ww, dd, rfl, hc, hg, hex, hv, hn, hf, qE, q⟩ := h
    have hk : Room k _ := hr.mono (by omega)
    refine ⟨_, (pss_cons (ps_if (pt_not (pt_val (pe_call GL hk (by rfl) gL kL bL .nil pass0 (pa_cons (pv 1) (pa_cons (pe_meth0 (pv 0) T.cl M.mW GW hk bW .nil pass0) (pa_cons (pe_meth0 (pv 0) T.cl M.mW GW hk bW .nil pass0) pa_nil)))))) (pss_one (ps_raise (W := fun cls d _ H' => E cls d H') rfl (takes_of rfl rfl rfl rfl) (pmk_oex N.o N.i N.t GN hr bN .nil pass0 (by rfl) N.g (pa_cons pe_str (pa_cons pe_non pa_nil))))) pss_nil)
      (pss_one (ps_ret (pe_make T.mkC GI hr (by rfl) T.gC bI .nil (passes_call (W := fun cls d _ H' => E cls d H') (takes_of rfl rfl rfl rfl) (fun _ _ _ _ h => h)) (pa_cons (pv 1) (pa_cons (pe_fld (pv 0) rfl) (pa_cons (pe_fld (pv 0) rfl) pa_nil))))))), ?_⟩
    obtain ⟨dx, sa, ha, ta, cs, rh, rt, e1, e2, e3, e4, e5⟩ := id hc
    have eq : (qs.length : Int) = (ww : Int) := by rw [hg.sh.1]
    refine ⟨_, rfl, _, rfl, x, dx, _, rfl, e1, rfl, x, qs, hss, tss, n, rfl, hc, _, rfl, x, dx, _, rfl, e1, rfl, x, qs, hss, tss, n, rfl, hc, ex, v, d, _, _, rfl, hv, _, rfl, ?_⟩
    rw [eq]
    cases c0 : lenOk (lenD d) (ww : Int) (ww : Int) with
    | false =>
      refine iteT ?_
      exact mk2 fun dd hdd => qE .non (by unfold badW; rw [c0]; rfl) _ dd (same_new hdd _) upd_same
    | true =>
      refine iteF ?_
      have eW : badW (ww : Int) d = badS d := by unfold badW; rw [if_pos c0]
      rw [eW] at qE q
      refine ⟨_, rfl, _, rfl, x, C, dx, _, .ref ha, rfl, e1, T.cl, T.n2, rfl, _, rfl, x, C, dx, _, .ref ta, rfl, e1, T.cl, T.n3, rfl, ?_⟩
      intro y dy hy hdy hne
      have s1 := same_new hdy (.own y)
      have hy1 : (upd H dy (.own y)) y = none := by rw [upd_ne (Ne.symm hne)]; exact hy
      have s2 := s1.trans (same_new hy1 (.ins C dy []))
      have exF : ∀ a, (fun _ : Addr => False) a → ex a := fun _ z => z.elim
      obtain ⟨es, rfl, l1, l2⟩ := lenOk_list c0
      have eG1 : badG (dRows hss) (es.length : Int) 1 6 = none := by
        have : (es.length : Int) = (ww : Int) := by omega
        rw [this]
        exact badG_good hg.hl hg.hr (by have := hg.d1; omega) (by have := hg.d6; omega)
      have ed : deedsD (dRows hss) = dd := by
        have h1 := hg.w1
        have h2 := hg.hl
        cases hss with
        | nil => simp at h2; omega
        | cons r hss =>
          show (r.map dR).length = dd
          rw [List.length_map]
          exact hg.hr r (List.mem_cons_self ..)
      have eG2 : badG (dRows tss) (es.length : Int) (deedsD (dRows hss) : Int) (deedsD (dRows hss) : Int) = none := by
        have : (es.length : Int) = (ww : Int) := by omega
        rw [this, ed]
        exact badG_good hg.tl hg.tr (Int.le_refl _) (Int.le_refl _)
      have eC : badC (.list es) (dRows hss) (dRows tss) = (badS (.list es)).map fun n => (("shares" : Str), n) := by
        unfold badC
        cases badS (.list es) with
        | some n => rfl
        | none =>
          show orP "hearer" (badG (dRows hss) (es.length : Int) 1 6) (orP "teller" (badG (dRows tss) (es.length : Int) (deedsD (dRows hss) : Int) (deedsD (dRows hss) : Int)) none) = none
          rw [eG1, eG2]
          rfl
      refine ⟨fun _ => False, n, y, dy, v, .ref ha, .ref ta, .list es, dRows hss, dRows tss, rfl, upd_same, (Dz.sub exF _ _ hv).same s2, .lst (s2 _ _ e4.1) (fun z => z) ((rows_dz e4.2 fun _ _ z => z).same s2), .lst (s2 _ _ e5.1) (fun z => z) ((rows_dz e5.2 fun _ _ z => z).same s2), hn, hf, few_rows e4.2, few_rows e5.2, fun p r er H' dd' s' hdd => ?_, fun eg sa' ha' ta' cs' rh' rt' qs' hss' tss' H' kp hx' g1 g2 g3 g4 i1 i2 i3 => ⟨rfl, ?_⟩⟩
      · rw [eC] at er
        cases eb : badS (.list es) with
        | none => rw [eb] at er; cases er
        | some n0 =>
          rw [eb] at er
          cases (Option.some.inj er)
          exact qE _ eb _ dd' (s2.trans s') hdd
      · have eb : badS (.list es) = none := by
          rw [eC] at eg
          cases eb : badS (.list es) with
          | none => rfl
          | some n0 => rw [eb] at eg; cases eg
        have j2 := dRows_inj i2
        have j3 := dRows_inj i3
        subst j2 j3
        exact q eb y qs' H' (fun b ob e => kp b ob (ne_of_none e hy) (s2 _ _ e)) i1 ⟨dy, sa', ha', ta', cs', rh', rt', hx', g1, g2, g3, g4⟩
theorem scTold : FnScope ["_law_parts_here", "e"] ["_law_parts_here"] (defScope sTold) := ⟨rfl, rfl, rfl, by decide +kernel, rfl, by decide +kernel, by decide +kernel⟩
theorem ok_Told {f C fI CN fN : Addr} {fd fdI : FuncData} {k : Nat} (F : Fun K "_law_told" "_law_told" sTold f fd) (T : CaT K mg C fI) (N : NcT K mg CN fN) (GI : FnOk P w K mg base (L2.CX P w) k fI fdI ["self", "shares", "hearer", "teller"] (spCInit K C CN)) (bI : Binds K fdI ["self", "shares", "hearer", "teller"] []) (B : Blt mg) :
    FnOk P w K mg base CX0 (k + 2) f fd ["_law_parts_here"] (spToldC K) := by
  refine F.ok scTold (fun vs H Q E h => ?_) (fun cdv A outer s H vs Q E hr h => ?_)
  · obtain ⟨ex, P, v0, v1, v2, d0, d1, d2, rfl, _⟩ := h
    rfl
  · obtain ⟨ex, P, v0, v1, v2, d0, d1, d2, rfl, hP, h0, h1, h2, f0, f1, f2, q⟩ := h
    refine ⟨_, pss_cons (ps_try_clauses (tb := fun W => tDrop (tMakeD C (spCInit K C CN) [] (WE W) (tCons (tOp (rIxL K) (tVar 0) (tC (.int 0))) (tCons (tOp (rIxL K) (tVar 0) (tC (.int 1))) (tCons (tOp (rIxL K) (tVar 0) (tC (.int 2))) tNil)))))
        (Wout := fun _ _ _ _ => False) rfl rfl scTold.nd takes0
        (fun W pn xe tk _ => pss_one (ps_expr (by exact (pe_makeD T.mkC GI hr (by rfl) T.gC bI .nil (fun σ => passAt tk σ) (by exact (pa_cons (pe_ix ix_list (pv 0) pe_int (fun _ _ => rfl)) (pa_cons (pe_ix ix_list (pv 0) pe_int (fun _ _ => rfl)) (pa_cons (pe_ix ix_list (pv 0) pe_int (fun _ _ => rfl)) pa_nil))))))))
        (ClausesOk.cons (ts := fun a cls d => tRet (tIf (tB (tCB (rIsX K CN a cls d) (tCons (tVar 1) (tCons (tC (.ty "ValueError")) tNil)))) (tTup (tCons (tXf a cls d CN "part" (tVar 1)) (tCons (tXf a cls d CN "number" (tVar 1)) tNil))) (tTup (tCons (tC (.str "odd")) (tCons (tC .non) tNil))))) (i := 1) rfl rfl ⟨rfl, by decide, .inl N.g⟩ (fun a oe cls d pn hz hf => by exact (pss_one (ps_ret (pe_ifExp (pt_val (pe_callB (call_isX N.ex hz hf) (by rfl) B.isinstance_ (by decide +kernel) (pa_cons (pv 1) (pa_cons (pe_bltn (v := .ty "ValueError") (by rfl) B.ValueError_ (by decide +kernel) rfl) pa_nil)))) (pe_tup (pa_cons (pe_xf N.xf N.n1 hz hf (pv 1)) (pa_cons (pe_xf N.xf N.n2 hz hf (pv 1)) pa_nil))) (pe_tup (pa_cons pe_str (pa_cons pe_non pa_nil))))))) ClausesOk.nil))
      (pss_one (ps_ret pe_non)), ?_⟩
    refine ⟨_, rfl, P, _, 0, v0, rfl, rfl, SqL.of hP, atI_nat (j := 0) rfl, _, rfl, P, _, 1, v1, rfl, rfl, SqL.of hP, atI_nat (j := 1) rfl, _, rfl, P, _, 2, v2, rfl, rfl, SqL.of hP, atI_nat (j := 2) rfl, fun x dx hx hdx hne => ?_⟩
    have s1 := same_new hdx (.own x)
    have hx1 : (upd H dx (.own x)) x = none := by rw [upd_ne (Ne.symm hne)]; exact hx
    have s2 := s1.trans (same_new hx1 (.ins C dx []))
    refine ⟨ex, 1000, x, dx, v0, v1, v2, d0, d1, d2, rfl, upd_same, h0.same s2, h1.same s2, h2.same s2, Nat.le_refl _, f0, f1, f2, fun p r er H' dd s3 hdd => ?_, fun eb sa ha ta cs rh rt qs hss tss H' kp _ _ _ _ _ _ _ _ => ⟨rfl, ?_⟩⟩
    · refine ⟨true, N.nn, fun _ a0 _ => ?_, fun z => Bool.noConfusion z⟩
      rw [er] at q
      refine ⟨_, rfl, .ty "ValueError", _, true, rfl, rfl, fun _ z => z, .inr ⟨dd, _, rfl, hdd⟩, N.kV, _, rfl, iteT ?_⟩
      refine ⟨_, rfl, rfl, rfl, dd, _, _, rfl, hdd, rfl, _, rfl, rfl, rfl, dd, _, _, rfl, hdd, rfl, (by show 2 ≤ sizeLine; decide), fun pp hp => ?_⟩
      exact q _ _ ((s2.trans s3).trans (same_new hp _)) ⟨pp, rfl, upd_same⟩
    · rw [eb] at q
      exact q .non H' (fun b ob e => kp b ob (ne_of_none e hx) (s2 _ _ e)) rfl
theorem scToldW : FnScope ["_law_case", "_law_shares_here", "e"] ["_law_case", "_law_shares_here"] (defScope sToldW) := ⟨rfl, rfl, rfl, by decide +kernel, rfl, by decide +kernel, by decide +kernel⟩
theorem ok_ToldW {f C fI CN fN fWo fWi : Addr} {fd fdI : FuncData} {k : Nat} (F : Fun K "_law_told_with" "_law_told_with" sToldW f fd) (T : CaT K mg C fI) (M : CaM K C fWo fWi) (N : NcT K mg CN fN) (GI : FnOk P w K mg base (L2.CX P w) k fWi fdI ["self", "shares"] (spCWith K C CN)) (bI : Binds K fdI ["self", "shares"] []) (B : Blt mg) :
    FnOk P w K mg base CX0 (k + 1) f fd ["_law_case", "_law_shares_here"] (spToldW K C) := by
  refine F.ok scToldW (fun vs H Q E h => ?_) (fun cdv A outer s H vs Q E hr h => ?_)
  · obtain ⟨ex, n, x, v, d, qs, hss, tss, ww, dd, rfl, _⟩ := h
    rfl
  · obtain ⟨ex, n, x, v, d, qs, hss, tss, ww, dd, rfl, hc, hg, hex, hv, hn, hf, q⟩ := h
    refine ⟨_, pss_cons (ps_try_clauses (tb := fun W => tDrop (tMethD C "with_shares" (spCWith K C CN) [] (WE W) (tVar 0) (tCons (tVar 1) tNil)))
        (Wout := fun _ _ _ _ => False) rfl rfl scToldW.nd takes0
        (fun W pn xe tk _ => pss_one (ps_expr (by exact (pe_methD T.cl M.mS GI hr bI .nil (fun σ => passAt tk σ) (by exact (pv 0)) (by exact (pa_cons (pv 1) pa_nil))))))
        (ClausesOk.cons (ts := fun a cls d => tRet (tTup (tCons (tXf a cls d CN "part" (tVar 2)) (tCons (tXf a cls d CN "number" (tVar 2)) tNil)))) (i := 2) rfl rfl ⟨rfl, by decide, .inl N.g⟩ (fun a oe cls d pn hz hf => by exact (pss_one (ps_ret (pe_tup (pa_cons (pe_xf N.xf N.n1 hz hf (pv 2)) (pa_cons (pe_xf N.xf N.n2 hz hf (pv 2)) pa_nil)))))) ClausesOk.nil))
      (pss_one (ps_ret pe_non)), ?_⟩
    obtain ⟨dx, sa, ha, ta, cs, rh, rt, e1, e2, e3, e4, e5⟩ := id hc
    refine ⟨_, rfl, x, dx, _, rfl, e1, rfl, _, rfl, ex, n, x, v, d, qs, hss, tss, ww, dd, rfl, hc, hg, hex, hv, hn, hf, fun r er H' dd' s3 hdd => ?_, fun eb x' qs' H' s' _ _ => ?_⟩
    · refine ⟨true, N.nn, fun _ a0 _ => ?_, fun z => Bool.noConfusion z⟩
      have e : ansW (ww : Int) d = some (("shares" : Str), r) := by unfold ansW; rw [er]; rfl
      rw [e] at q
      refine ⟨_, rfl, rfl, rfl, dd', _, _, rfl, hdd, rfl, _, rfl, rfl, rfl, dd', _, _, rfl, hdd, rfl, (by show 2 ≤ sizeLine; decide), fun pp hp => ?_⟩
      exact q _ _ (s3.trans (same_new hp _)) ⟨pp, rfl, upd_same⟩
    · have e : ansW (ww : Int) d = none := by unfold ansW; rw [eb]; rfl
      rw [e] at q
      exact q .non H' s' rfl
end
end K5

set_option Elab.async false
set_option linter.all false
set_option maxRecDepth 100000
set_option maxHeartbeats 16000000
namespace K5
open PySem PySem.Spec PyProof.Rows L2 BX EXB Co Ru
open Dz Cs
open Rs (Rsp Rv Ret tYes_of dV datR Flat Okr spShares spRowsL spTotal spCopied eqv_dR)
open Fr (Bd)
theorem sm_intB {i : Int} {n : Nat} (h : i.natAbs < 2 ^ n) (h0 : 0 < n) (hn : n ≤ 1900) : Sm (.int i) 0 (n + 1) := by
  have hl : i.natAbs.log2 < n := PySem.Flt.log2_lt_of h0 h
  refine ⟨decide_eq_true (Nat.lt_of_lt_of_le hl (by omega)), Nat.le_refl _, ?_, rfl⟩
  show (Str.ofString (toString i)).length ≤ n + 1
  rw [PySem.ofString_length]
  exact PySem.int_text_length_le h0 hl
theorem sm_dRB {q : Rat} {n : Nat} (h : Bd n q) (h0 : 0 < n) (hn : n ≤ 20) : Sm (dR q) 1 60 := by
  refine sm_tup (k := 0) (b := n + 1) (n := 2) (fun d hd => ?_) (Nat.le_refl 2) (by omega)
  rcases List.mem_cons.mp hd with rfl | hd
  · exact sm_intB h.1 h0 (by omega)
  · rw [List.mem_singleton.mp hd]
    exact sm_intB h.dn h0 (by omega)
/-- a cell of few figures -/
structure CeB (n : Nat) (d : PyData) : Prop where
  sm : Sm d 1 60
  nd : d.hasDict = false
  fw : ∀ q, ratD d = some q → Bd n q
theorem CeB.mono {n m : Nat} {d : PyData} (h : CeB n d) (l : n ≤ m) : CeB m d := ⟨h.sm, h.nd, fun q e => (h.fw q e).mono l⟩
theorem CeB.ce {n : Nat} {d : PyData} (h : CeB n d) (l : n ≤ 1000) : CeD d := ⟨h.sm.mono (Nat.le_refl _) (by decide), h.nd, fun q e => (h.fw q e).mono l⟩
theorem ce_dR {n : Nat} {q : Rat} (h : Bd n q) (h0 : 0 < n) (hn : n ≤ 20) : CeB n (dR q) := ⟨sm_dRB h h0 hn, rfl, fun r e => by rw [ratD_dR] at e; cases e; exact h⟩
/-- data that can be shown -/
structure Sz (d : PyData) (k b : Nat) : Prop where
  sh : d.showable = true
  dp : d.depth ≤ k
  sz : d.shown.length ≤ b
theorem Sz.mono {d : PyData} {k b k' b' : Nat} (h : Sz d k b) (hk : k ≤ k') (hb : b ≤ b') : Sz d k' b' := ⟨h.sh, Nat.le_trans h.dp hk, Nat.le_trans h.sz hb⟩
theorem Sz.of {d : PyData} {k b : Nat} (h : Sm d k b) : Sz d k b := ⟨h.sh, h.dp, h.sz⟩
theorem sz_piled {ds : List PyData} {k b n : Nat} (h : ∀ d ∈ ds, Sz d k b) (hn : ds.length ≤ n) : piled (PyData.shownAll ds) ≤ n * (b + 2) := by
  have h1 := piled_le (ts := PyData.shownAll ds) (b := b) fun t ht => by
    obtain ⟨d, hd, rfl⟩ := shownAll_mem ht
    exact (h d hd).sz
  rw [shownAll_len] at h1
  exact Nat.le_trans h1 (Nat.mul_le_mul_right _ hn)
theorem sz_shs : ∀ {ds : List PyData} {k b : Nat}, (∀ d ∈ ds, Sz d k b) → PyData.showableAll ds = true
  | [], _, _, _ => by simp only [PyData.showableAll]
  | d :: ds, k, b, h => by simp only [PyData.showableAll, (h d (List.mem_cons_self ..)).sh, sz_shs fun x hx => h x (List.mem_cons_of_mem _ hx), Bool.and_self]
theorem sz_dps : ∀ {ds : List PyData} {k b : Nat}, (∀ d ∈ ds, Sz d k b) → PyData.depthAll ds ≤ k
  | [], _, _, _ => Nat.zero_le _
  | d :: ds, k, b, h => by
    show max (PyData.depth d) (PyData.depthAll ds) ≤ k
    have h1 := (h d (List.mem_cons_self ..)).dp
    have h2 := sz_dps fun x hx => h x (List.mem_cons_of_mem _ hx)
    omega
theorem sz_list {ds : List PyData} {k b n c : Nat} (h : ∀ d ∈ ds, Sz d k b) (hn : ds.length ≤ n) (hc : 3 + n * (b + 2) ≤ c) : Sz (.list ds) (k + 1) c := by
  refine ⟨by simp only [PyData.showable]; exact sz_shs h, ?_, ?_⟩
  · have := sz_dps h
    show PyData.depthAll ds + 1 ≤ k + 1
    omega
  · have h1 := listText_le (PyData.shownAll ds)
    have h2 := sz_piled h hn
    simp only [PyData.shown]
    omega
theorem sz_tup {ds : List PyData} {k b n c : Nat} (h : ∀ d ∈ ds, Sz d k b) (hn : ds.length ≤ n) (hc : 3 + n * (b + 2) ≤ c) : Sz (.tuple ds) (k + 1) c := by
  refine ⟨by simp only [PyData.showable]; exact sz_shs h, ?_, ?_⟩
  · have := sz_dps h
    show PyData.depthAll ds + 1 ≤ k + 1
    omega
  · have h1 := tupleText_le (PyData.shownAll ds)
    have h2 := sz_piled h hn
    simp only [PyData.shown]
    omega
/-- what is handed in for shares, for gains -/
structure P0 (n : Nat) (d : PyData) : Prop where
  sm : Sz d 2 2000
  it : ∀ es, d = .list es → es.length ≤ 15 ∧ ∀ e ∈ es, CeB n e
structure RoB (d : PyData) : Prop where
  sm : Sz d 2 4000
  it : ∀ es, d = .list es → ∀ e ∈ es, CeB 8 e
structure P1 (d : PyData) : Prop where
  sm : Sz d 3 70000
  it : ∀ es, d = .list es → ∀ r ∈ es, RoB r
theorem sz_non : Sz .none 0 60 := ⟨rfl, by decide, by decide +kernel⟩
theorem sz_dct : Sz (.dict []) 1 60 := ⟨by decide +kernel, by decide +kernel, by decide +kernel⟩
theorem ce_odd {d : PyData} (h : Sm d 1 60) (hd : d.hasDict = false) (hr : ratD d = none) : CeB 8 d := ⟨h, hd, fun q e => by rw [hr] at e; cases e⟩
theorem CeB.ro {d : PyData} (h : CeB 8 d) (hl : ∀ es, d = .list es → ∀ e ∈ es, CeB 8 e) : RoB d := ⟨(Sz.of h.sm).mono (by decide) (by decide), hl⟩
theorem ro_row {es : List PyData} (h : ∀ e ∈ es, CeB 8 e) (hl : es.length ≤ 60) : RoB (.list es) := ⟨sz_list (k := 1) (b := 60) (n := 60) (fun d hd => (Sz.of (h d hd).sm)) hl (by decide), fun es' e => by injection e with e; rw [← e]; exact h⟩
theorem ro_tup {es : List PyData} (h : ∀ e ∈ es, CeB 8 e) (hl : es.length ≤ 60) : RoB (.tuple es) := ⟨sz_tup (k := 1) (b := 60) (n := 60) (fun d hd => (Sz.of (h d hd).sm)) hl (by decide), fun es' e => by cases e⟩
theorem p0_list {n : Nat} {es : List PyData} (h : ∀ e ∈ es, CeB n e) (hl : es.length ≤ 15) : P0 n (.list es) := ⟨sz_list (k := 1) (b := 60) (n := 15) (fun d hd => (Sz.of (h d hd).sm)) hl (by decide), fun es' e => by injection e with e; rw [← e]; exact ⟨hl, h⟩⟩
theorem p0_tup {n : Nat} {es : List PyData} (h : ∀ e ∈ es, CeB n e) (hl : es.length ≤ 15) : P0 n (.tuple es) := ⟨sz_tup (k := 1) (b := 60) (n := 15) (fun d hd => (Sz.of (h d hd).sm)) hl (by decide), fun es' e => by cases e⟩
theorem p1_list {es : List PyData} (h : ∀ e ∈ es, RoB e) (hl : es.length ≤ 15) : P1 (.list es) := ⟨sz_list (k := 2) (b := 4000) (n := 15) (fun d hd => (h d hd).sm) hl (by decide), fun es' e => by injection e with e; rw [← e]; exact h⟩
theorem p1_tup {es : List PyData} (h : ∀ e ∈ es, RoB e) (hl : es.length ≤ 15) : P1 (.tuple es) := ⟨sz_tup (k := 2) (b := 4000) (n := 15) (fun d hd => (h d hd).sm) hl (by decide), fun es' e => by cases e⟩
section
variable {K : PySem.W.Frag} {ex ex' : Addr → Prop} {H H' : Hp}
mutual
theorem Dz_more (s : ∀ a, ex' a → ex a ∨ H a = none) : ∀ (d : PyData) (v : V), Dz.Dz K H ex v d → Dz.Dz K H ex' v d
  | .none, _, h => by cases h; exact .non
  | .bool b, _, h => by cases h; exact .bl _
  | .int i, _, h => by cases h; exact .int _
  | .str x, _, h => by cases h; exact .str _
  | .list ds, _, h => by
    cases h with
    | lst h hn t => exact .lst h (fun z => (s _ z).elim hn fun e => by rw [h] at e; cases e) (DzA_more s ds _ t)
  | .tuple ds, _, h => by
    cases h with
    | tup h t => exact .tup h (DzA_more s ds _ t)
  | .dict ds, _, h => by
    cases h with
    | dct h hn => exact .dct h fun z => (s _ z).elim hn fun e => by rw [h] at e; cases e
theorem DzA_more (s : ∀ a, ex' a → ex a ∨ H a = none) : ∀ (ds : List PyData) (vs : List V), DzA K H ex vs ds → DzA K H ex' vs ds
  | [], _, h => by cases h; exact .nil
  | d :: ds, _, h => by
    cases h with
    | cons h t => exact .cons (Dz_more s d _ h) (DzA_more s ds _ t)
end
end
/-- where what _law_bent made stands -/
def Ex (l F A B C : Addr) (f1 f2 : List Addr) (a : Addr) : Prop := a = l ∨ a = F ∨ a = A ∨ a = B ∨ a = C ∨ a ∈ f1 ∨ a ∈ f2
structure Bn (K : PySem.W.Frag) (H0 H : Hp) (l F A B C : Addr) (cs : List V) (ds : List PyData) (f1 : List Addr) (hss : List (List Rat)) (f2 : List Addr) (tss : List (List Rat)) : Prop where
  hF : H F = some (.lst [.ref A, .ref B, .ref C])
  hA : H A = some (.lst cs)
  dz : DzA K H (Ex l F A B C f1 f2) cs ds
  wB : RwL K H B f1 hss 8
  wC : RwL K H C f2 tss 8
  k : SameB l H0 H
  fF : H0 F = none
  fA : H0 A = none
  fB : H0 B = none
  fC : H0 C = none
  g1 : ∀ x ∈ f1, H0 x = none
  g2 : ∀ x ∈ f2, H0 x = none
  nF : F ≠ l
  nA : A ≠ l
  AF : A ≠ F
  BF : B ≠ F
  CF : C ≠ F
  BA : B ≠ A
  CA : C ≠ A
  CB : C ≠ B
  i1 : ∀ x ∈ f1, x ≠ l ∧ x ≠ F ∧ x ≠ A ∧ x ≠ B ∧ x ≠ C ∧ x ∉ f2
  i2 : ∀ x ∈ f2, x ≠ l ∧ x ≠ F ∧ x ≠ A ∧ x ≠ B ∧ x ≠ C
  d1 : f1.Nodup
  d2 : f2.Nodup
section
variable {K : PySem.W.Frag} {H0 H H' : Hp} {l F A B C : Addr} {cs : List V} {ds : List PyData} {f1 f2 : List Addr} {hss tss : List (List Rat)}
theorem Bn.same (h : Bn K H0 H l F A B C cs ds f1 hss f2 tss) (s : Same H H') : Bn K H0 H' l F A B C cs ds f1 hss f2 tss :=
  { h with hF := s _ _ h.hF, hA := s _ _ h.hA, dz := h.dz.same s, wB := h.wB.same s, wC := h.wC.same s, k := h.k.trans (SameB.of s) }
theorem Bn.but {z : Int} (h : Bn K H0 H l F A B C cs ds f1 hss f2 tss) (hl : H l = some (.lst [.int z])) (s : SameB l H H') : Bn K H0 H' l F A B C cs ds f1 hss f2 tss :=
  { h with hF := s _ _ h.nF h.hF, hA := s _ _ h.nA h.hA, dz := h.dz.cc (Ch.but hl s (.inl rfl)), wB := Rs.RwL.keepB h.wB hl s, wC := Rs.RwL.keepB h.wC hl s, k := h.k.trans s }
theorem Bn.dA (h : Bn K H0 H l F A B C cs ds f1 hss f2 tss) {ex : Addr → Prop} (hx : ∀ a, ex a → Ex l F A B C f1 f2 a) (hn : ¬ ex A) : Dz.Dz K H ex (.ref A) (.list ds) := .lst h.hA hn (DzA.sub hx _ _ h.dz)
theorem Bn.dB (h : Bn K H0 H l F A B C cs ds f1 hss f2 tss) {ex : Addr → Prop} (hn : ¬ ex B) (hr : ∀ x ∈ f1, ¬ ex x) : Dz.Dz K H ex (.ref B) (dRows hss) := .lst h.wB.1 hn (rows_dz h.wB.2 hr)
theorem Bn.dC (h : Bn K H0 H l F A B C cs ds f1 hss f2 tss) {ex : Addr → Prop} (hn : ¬ ex C) (hr : ∀ x ∈ f2, ¬ ex x) : Dz.Dz K H ex (.ref C) (dRows tss) := .lst h.wC.1 hn (rows_dz h.wC.2 hr)
end
theorem ro_dRows {K : PySem.W.Frag} {H : Hp} {f : List Addr} {rss : List (List Rat)} {dd : Nat} (w : RowsAt K H 8 f rss) (hr : ∀ r ∈ rss, r.length = dd) (h6 : dd ≤ 6) : ∀ r ∈ rss.map (fun qs => PyData.list (qs.map dR)), RoB r := fun d hd => by
  obtain ⟨qs, hq, rfl⟩ := List.mem_map.mp hd
  have fw := few_rows w _ hd
  refine ro_row (fun e he => ?_) (by rw [List.length_map, hr qs hq]; omega)
  obtain ⟨q, _, rfl⟩ := List.mem_map.mp he
  exact ce_dR (fw _ he q (ratD_dR q)) (by decide) (by decide)
def spBent (K : PySem.W.Frag) : Sp := fun vs H Q _ => ∃ (l P A B C : Addr) (z : Int) (cs : List V) (ds : List PyData) (rh rt : List Addr) (hss tss : List (List Rat)) (n ww dd : Nat), vs = [.ref l, .ref P] ∧ H l = some (.lst [.int z]) ∧ H P = some (.lst [.ref A, .ref B, .ref C]) ∧ H A = some (.lst cs) ∧ DzA K H (fun a => a = l) cs ds ∧ 1 ≤ ds.length ∧ ds.length ≤ 10 ∧ (∀ d ∈ ds, CeB n d) ∧ 8 ≤ n ∧ n ≤ 12 ∧ RwL K H B rh hss 8 ∧ RwL K H C rt tss 8 ∧
  1 ≤ ww ∧ ww ≤ 5 ∧ 1 ≤ dd ∧ dd ≤ 6 ∧ hss.length = ww ∧ tss.length = ww ∧ (∀ r ∈ hss, r.length = dd) ∧ (∀ r ∈ tss, r.length = dd) ∧
  ∀ F w0 w1 w2 d0 d1 d2 z' H', SameB l H H' → H' l = some (.lst [.int z']) → H' F = some (.lst [w0, w1, w2]) → F ≠ l → Dz.Dz K H' (fun a => a = l) w0 d0 → Dz.Dz K H' (fun a => a = l) w1 d1 → Dz.Dz K H' (fun a => a = l) w2 d2 → P0 (n + 4) d0 → (∀ es, d0 = .list es → es.length ≤ ds.length + 5) → P1 d1 → P1 d2 → Q (.ref F) H'
end K5

set_option Elab.async false
set_option linter.all false
set_option maxRecDepth 100000
set_option maxHeartbeats 16000000
namespace K5
open PySem PySem.Spec PyProof.Rows L2 BX EXB Co Ru
open Dz Cs
open Rs (Rsp Rv Ret tYes_of dV datR Flat Okr spShares spRowsL spTotal spCopied eqv_dR)
open Fr (Bd)
theorem rp_seventh : rp (mkRat (-1) 7) = [V.int (-1), V.int 7] := by
  have h1 : (mkRat (-1) 7).num = -1 := by decide +kernel
  have h2 : ((mkRat (-1) 7).den : Int) = 7 := by decide +kernel
  unfold rp
  rw [h1, h2]
theorem copy_push {K : PySem.W.Frag} {H H' : Hp} {D p : Addr} {rs' : List Addr} {rss : List (List Rat)} {cs : List V} {qs : List Rat} {i : Nat} (hD : H D = none) (hD' : H' D = some (.lst (rs'.map V.ref))) (nd : rs'.Nodup) (ne : D ∉ rs') (fr : ∀ x ∈ rs', H x = none) (s5 : Same H H') (ra : RowsAt K H' 8 rs' (rss.take i)) (e3 : rss[i]? = some qs) (e5 : FrN K H' 8 cs qs) (hp : H' p = none) :
    (upd (upd H' p (.lst cs)) D (.lst (rs'.map V.ref ++ [V.ref p]))) D = some (.lst ((rs' ++ [p]).map V.ref)) ∧ (rs' ++ [p]).Nodup ∧ D ∉ rs' ++ [p] ∧ (∀ x ∈ rs' ++ [p], H x = none) ∧ Same H (upd (upd H' p (.lst cs)) D (.lst (rs'.map V.ref ++ [V.ref p]))) ∧ RowsAt K (upd (upd H' p (.lst cs)) D (.lst (rs'.map V.ref ++ [V.ref p]))) 8 (rs' ++ [p]) (rss.take (i + 1)) := by
  have s6 := same_new hp (.lst cs)
  have hpD : p ≠ D := fun e => by
    rw [e, hD'] at hp
    cases hp
  refine ⟨by rw [upd_same, List.map_append]; rfl, ?_, ?_, ?_, ?_, ?_⟩
  · rw [List.nodup_append]
    refine ⟨nd, by simp, fun x hx y hy => ?_⟩
    have ey : y = p := by simpa using hy
    rw [ey]
    intro e
    obtain ⟨j, hj, ej⟩ := List.getElem_of_mem hx
    obtain ⟨c', q', _, z2, _⟩ := ra.2 j x (by rw [List.getElem?_eq_getElem hj, ej])
    rw [e, hp] at z2
    cases z2
  · intro hm
    rcases List.mem_append.mp hm with hm | hm
    · exact ne hm
    · exact hpD (by simpa using hm : D = p).symm
  · intro x hx
    rcases List.mem_append.mp hx with hx | hx
    · exact fr x hx
    · have ex : x = p := by simpa using hx
      rw [ex]
      exact s5.free hp
  · intro b u e
    rw [upd_ne (ne_of_none e hD)]
    exact s6 _ _ (s5 _ _ e)
  · have sD : SameB D (upd H' p (.lst cs)) (upd (upd H' p (.lst cs)) D (.lst (rs'.map V.ref ++ [V.ref p]))) := SameB.upd
    have t := ((ra.same s6).keep sD (s6 _ _ hD') ne).snoc (r := p) (cs := cs) (qs := qs) (by rw [upd_ne hpD, upd_same]) ((e5.same s6).keep (sD.tup (s6 _ _ hD')))
    rw [List.take_add_one, e3]
    exact t
section
variable {P : Program} {w : World} {K : PySem.W.Frag} {mg : Str → Option Value} {base : Heap}
theorem scBent : FnScope ["_law_left_here", "_law_parts_here", "_law_found", "_law_part", "_law_odd", "_law_way", "_law_at", "_law_row"] ["_law_left_here", "_law_parts_here"] (defScope sBent) := ⟨rfl, rfl, rfl, by decide +kernel, rfl, by decide +kernel, by decide +kernel⟩
theorem ok_Bent {f fD fR fL : Addr} {fd fdD fdR fdL : FuncData} {k : Nat} (F : Fun K "_law_bent" "_law_bent" sBent f fd) (GD : FnOk P w K mg base CX0 k fD fdD ["_law_left_here", "_law_many"] spDigit) (kD : PySem.W.keepIn K (.ref fD) = true) (bD : Binds K fdD ["_law_left_here", "_law_many"] []) (gD : mg "_law_digit" = some (.ref fD)) (GR : FnOk P w K mg base CX0 k fR fdR ["_law_thing"] (spIsRL K)) (kR : PySem.W.keepIn K (.ref fR) = true) (bR : Binds K fdR ["_law_thing"] []) (gR : mg "_law_is_ratio" = some (.ref fR)) (GL : FnOk P w K mg base CX0 k fL fdL ["_law_one", "_law_other"] (spBin K (· - ·))) (kL : PySem.W.keepIn K (.ref fL) = true) (bL : Binds K fdL ["_law_one", "_law_other"] []) (gL : mg "_law_less" = some (.ref fL)) (B : Blt mg) : FnOk P w K mg base CX0 (k + 1) f fd ["_law_left_here", "_law_parts_here"] (spBent K) := by
  refine F.ok scBent (fun vs H Q E h => ?_) (fun cdv A outer s H vs Q E hr h => ?_)
  · obtain ⟨l, P, A, Bh, Ct, z, cs, ds, rh, rt, hss, tss, n, ww, dd, rfl, _⟩ := h
    rfl
  · obtain ⟨l, P, A, Bh, Ct, z, cs, ds, rh, rt, hss, tss, n, ww, dd, rfl, hl, hP, hA, dz, d1, d10, hce, n8, n12, wB, wC, w1, w5, e1, h6, hhl, htl, hhr, htr, q⟩ := h
    refine ⟨_, (pss_cons (ps_set (i := 2) scBent.nd rfl (.inl rfl) (pe_lst (pa_cons (pe_callTy (T := "list") call_list_of (by rfl) B.list_ (by decide +kernel) (pa_cons (pe_ix ix_list (pv 1) pe_int (fun _ _ => rfl)) pa_nil)) (pa_cons (pe_lc (own := [("_law_row", 7)]) (g := gName 7) (tt := tYes) (te := (tCB (rListOf K) (tCons (tVar 7) tNil))) rfl scBent.nd (pi_list (pe_ix ix_list (pv 1) pe_int (fun _ _ => rfl))) (blkOk_by (N := ["_law_left_here", "_law_parts_here", "_law_found", "_law_part", "_law_odd", "_law_way", "_law_at", "_law_row"]) (sc := defScope sBent) (by decide +kernel)) (fun _ _ _ _ _ => (pg_name (i := 7) scBent.nd rfl (Or.inl rfl))) (fun _ _ _ _ _ => pts_nil) (fun _ _ _ _ _ => (pe_callTy (T := "list") call_list_of (by rfl) B.list_ (by decide +kernel) (pa_cons (pv 7) pa_nil)))) (pa_cons (pe_lc (own := [("_law_row", 7)]) (g := gName 7) (tt := tYes) (te := (tCB (rListOf K) (tCons (tVar 7) tNil))) rfl scBent.nd (pi_list (pe_ix ix_list (pv 1) pe_int (fun _ _ => rfl))) (blkOk_by (N := ["_law_left_here", "_law_parts_here", "_law_found", "_law_part", "_law_odd", "_law_way", "_law_at", "_law_row"]) (sc := defScope sBent) (by decide +kernel)) (fun _ _ _ _ _ => (pg_name (i := 7) scBent.nd rfl (Or.inl rfl))) (fun _ _ _ _ _ => pts_nil) (fun _ _ _ _ _ => (pe_callTy (T := "list") call_list_of (by rfl) B.list_ (by decide +kernel) (pa_cons (pv 7) pa_nil)))) pa_nil)))))
      (pss_cons (ps_set (i := 3) scBent.nd rfl (.inl rfl) (pe_call GD hr (by rfl) gD kD bD .nil pass0 (pa_cons (pv 0) (pa_cons pe_int pa_nil))))
      (pss_cons (ps_set (i := 4) scBent.nd rfl (.inl rfl) (pe_ix ix_list (pe_lst (pa_cons pe_non (pa_cons pe_int (pa_cons (pe_tup (pa_cons pe_int (pa_cons pe_int pa_nil))) (pa_cons (pe_tup (pa_cons pe_int (pa_cons pe_int pa_nil))) (pa_cons (pe_tup (pa_cons pe_int (pa_cons pe_int pa_nil))) (pa_cons (pe_tup (pa_cons pe_int (pa_cons (pe_un un_neg pe_int) pa_nil))) (pa_cons pe_bl (pa_cons (pe_tup (pa_cons pe_bl (pa_cons pe_int pa_nil))) (pa_cons (pe_lst (pa_cons pe_int (pa_cons pe_int pa_nil))) (pa_cons pe_str (pa_cons (pe_tup (pa_cons pe_int (pa_cons pe_int (pa_cons pe_int pa_nil)))) pa_nil)))))))))))) (pe_call GD hr (by rfl) gD kD bD .nil pass0 (pa_cons (pv 0) (pa_cons pe_int pa_nil))) (fun _ _ => rfl)))
      (pss_cons (ps_set (i := 5) scBent.nd rfl (.inl rfl) (pe_call GD hr (by rfl) gD kD bD .nil pass0 (pa_cons (pv 0) (pa_cons pe_int pa_nil))))
      (pss_cons (ps_set (i := 6) scBent.nd rfl (.inl rfl) (pe_call GD hr (by rfl) gD kD bD .nil pass0 (pa_cons (pv 0) (pa_cons (pe_callB call_len_seq (by rfl) B.len_ PySem.boot_len (pa_cons (pe_ix ix_list (pv 2) (pv 3) (fun _ _ => rfl)) pa_nil)) pa_nil))))
      (pss_cons (ps_if (pt_cmpR op_eq (pv 5) pe_int (nomark _)) (pss_one (ps_asg (pe_ix ix_list (pe_lst (pa_cons pe_non (pa_cons (pe_tup pa_nil) (pa_cons pe_dnewK (pa_cons pe_int (pa_cons pe_str (pa_cons (pe_callTy (T := "tuple") call_tuple_of (by rfl) B.tuple_ (by decide +kernel) (pa_cons (pe_ix ix_list (pv 2) (pv 3) (fun _ _ => rfl)) pa_nil)) pa_nil))))))) (pe_call GD hr (by rfl) gD kD bD .nil pass0 (pa_cons (pv 0) (pa_cons pe_int pa_nil))) (fun _ _ => rfl)) (pg_sub (pv 2) (pv 3) set_list))) (pss_one (ps_if (pt_cmpR op_eq (pv 5) pe_int (nomark _)) (pss_one (ps_asg (pe_slice sl_list (pe_ix ix_list (pv 2) (pv 3) (fun _ _ => rfl)) (po_some pe_int) po_none) (pg_sub (pv 2) (pv 3) set_list))) (pss_one (ps_if (pt_cmpR op_eq (pv 5) pe_int (nomark _)) (pss_one (ps_asg (pe_op op_cat (pe_ix ix_list (pv 2) (pv 3) (fun _ _ => rfl)) (pe_op op_rep (pe_slice sl_list (pe_ix ix_list (pv 2) (pv 3) (fun _ _ => rfl)) po_none (po_some pe_int)) (pe_ix ix_list (pe_lst (pa_cons pe_int (pa_cons pe_int pa_nil))) (pe_call GD hr (by rfl) gD kD bD .nil pass0 (pa_cons (pv 0) (pa_cons pe_int pa_nil))) (fun _ _ => rfl)))) (pg_sub (pv 2) (pv 3) set_list))) (pss_one (ps_if (PW.pt (pw_and (pt_cmpR op_eq (pv 5) pe_int (nomark _)) (pw_and (pt_cmpR op_eq (pv 3) pe_int (nomark _)) (pw_and1 (pt_val (pe_call GR hr (by rfl) gR kR bR .nil pass0 (pa_cons (pe_ix ix_list (pe_ix ix_list (pv 2) pe_int (fun _ _ => rfl)) (pv 6) (fun _ _ => rfl)) pa_nil))))))) (pss_one (ps_asg (pe_call GL hr (by rfl) gL kL bL .nil pass0 (pa_cons (pe_ix ix_list (pe_ix ix_list (pv 2) pe_int (fun _ _ => rfl)) (pv 6) (fun _ _ => rfl)) (pa_cons (pe_ix ix_list (pe_lst (pa_cons (pe_tup (pa_cons pe_int (pa_cons pe_int pa_nil))) (pa_cons (pe_tup (pa_cons pe_int (pa_cons pe_int pa_nil))) (pa_cons (pe_tup (pa_cons (pe_un un_neg pe_int) (pa_cons pe_int pa_nil))) pa_nil)))) (pe_call GD hr (by rfl) gD kD bD .nil pass0 (pa_cons (pv 0) (pa_cons pe_int pa_nil))) (fun _ _ => rfl)) pa_nil))) (pg_sub (pe_ix ix_list (pv 2) pe_int (fun _ _ => rfl)) (pv 6) set_list))) (pss_one (ps_if (PW.pt (pw_and (pt_cmpR op_eq (pv 5) pe_int (nomark _)) (pw_and1 (pt_cmpR op_gt (pv 3) pe_int (nomark _))))) (pss_cons (ps_set (i := 7) scBent.nd rfl (.inl rfl) (pe_ix ix_list (pe_ix ix_list (pv 2) (pv 3) (fun _ _ => rfl)) (pv 6) (fun _ _ => rfl)))
      (pss_one (ps_asg (pe_ix ix_list (pe_lst (pa_cons (pe_lst pa_nil) (pa_cons (pe_slice sl_list (pv 7) (po_some pe_int) po_none) (pa_cons (pe_op op_rep (pv 7) pe_int) (pa_cons (pe_op op_cat (pv 7) (pe_lst (pa_cons (pe_tup (pa_cons pe_int (pa_cons pe_int pa_nil))) pa_nil))) pa_nil))))) (pe_call GD hr (by rfl) gD kD bD .nil pass0 (pa_cons (pv 0) (pa_cons pe_int pa_nil))) (fun _ _ => rfl)) (pg_sub (pe_ix ix_list (pv 2) (pv 3) (fun _ _ => rfl)) (pv 6) set_list)))) (pss_one (ps_if (PW.pt (pw_and (pt_cmpR op_eq (pv 5) pe_int (nomark _)) (pw_and1 (pt_cmpR op_gt (pv 3) pe_int (nomark _))))) (pss_one (ps_asg (pe_ix ix_list (pe_lst (pa_cons pe_non (pa_cons (pe_callTy (T := "tuple") call_tuple_of (by rfl) B.tuple_ (by decide +kernel) (pa_cons (pe_ix ix_list (pe_ix ix_list (pv 2) (pv 3) (fun _ _ => rfl)) (pv 6) (fun _ _ => rfl)) pa_nil)) (pa_cons pe_dnewK (pa_cons pe_int pa_nil))))) (pe_call GD hr (by rfl) gD kD bD .nil pass0 (pa_cons (pv 0) (pa_cons pe_int pa_nil))) (fun _ _ => rfl)) (pg_sub (pe_ix ix_list (pv 2) (pv 3) (fun _ _ => rfl)) (pv 6) set_list))) (pss_one (ps_if (PW.pt (pw_and (pt_cmpR op_eq (pv 5) pe_int (nomark _)) (pw_and1 (pt_cmpR op_gt (pv 3) pe_int (nomark _))))) (pss_one (ps_asg (pv 4) (pg_sub (pe_ix ix_list (pe_ix ix_list (pv 2) (pv 3) (fun _ _ => rfl)) (pv 6) (fun _ _ => rfl)) (pe_call GD hr (by rfl) gD kD bD .nil pass0 (pa_cons (pv 0) (pa_cons (pe_callB call_len_seq (by rfl) B.len_ PySem.boot_len (pa_cons (pe_ix ix_list (pe_ix ix_list (pv 2) (pv 3) (fun _ _ => rfl)) (pv 6) (fun _ _ => rfl)) pa_nil)) pa_nil))) set_list))) (pss_one (ps_asg (pv 4) (pg_sub (pe_ix ix_list (pv 2) (pv 3) (fun _ _ => rfl)) (pv 6) set_list))))))))))))))))
      (pss_one (ps_ret (pv 2))))))))), ?_⟩
    -- the copies
    refine ⟨_, rfl, P, _, 0, _, rfl, rfl, SqL.of hP, atI_nat (j := 0) rfl, A, cs, rfl, .inl (SqL.of hA), fun A' nA' => ?_⟩
    have sA := same_new nA' (.lst cs)
    have eA : (upd H A' (.lst cs)) A' = some (.lst cs) := upd_same
    generalize upd H A' (.lst cs) = H1 at sA eA ⊢
    refine ⟨_, rfl, P, _, 1, _, rfl, rfl, SqL.of (sA _ _ hP), atI_nat (j := 1) rfl, Bh, rfl, ⟨_, SqL.of ((sA) _ _ wB.1)⟩, fun B' nB' => lc_list (K := K) (a := Bh) (xs := rh.map V.ref) (fun i H' => ∃ rs', rs'.length = i ∧ H' B' = some (.lst (rs'.map V.ref)) ∧ rs'.Nodup ∧ B' ∉ rs' ∧ (∀ x ∈ rs', H1 x = none) ∧ Same H1 H' ∧ RowsAt K H' 8 rs' (hss.take i))
      ⟨[], rfl, upd_same, List.nodup_nil, by simp, fun x hx => by simp at hx, same_new nB' _, RowsAt.nil⟩ (fun i H' _ ⟨_, _, _, _, _, _, s5, _⟩ => SqL.of (s5 _ _ ((sA) _ _ wB.1))) ?_ ?_⟩
    · rintro i v H' hi ⟨rs', hl', hD', nd', ne', fr', s5, ra⟩
      obtain ⟨r, er, rfl⟩ : ∃ r, rh[i]? = some r ∧ v = .ref r := by
        rw [List.getElem?_map] at hi
        cases e : rh[i]? with
        | none => rw [e] at hi; cases hi
        | some r => rw [e] at hi; exact ⟨r, rfl, (Option.some.inj hi).symm⟩
      obtain ⟨cs', qs, e3, e4, e5⟩ := wB.2.2 i r er
      have e4' := s5 _ _ ((sA) _ _ e4)
      have e5' := e5.same ((sA).trans s5)
      have hil : i < hss.length := (List.getElem?_eq_some_iff.mp e3).1
      refine ⟨rfl, tYes_of ?_⟩
      refine ⟨_, rfl, r, cs', rfl, .inl (SqL.of e4'), fun p np => ?_⟩
      obtain ⟨g1, g2, g3, g4, g5, g6⟩ := copy_push nB' hD' nd' ne' fr' s5 ra e3 e5' np
      exact ⟨_, same_new np (.lst cs') _ _ hD', by rw [List.length_map]; exact small1000 (by omega), rs' ++ [p], by rw [List.length_append, hl']; rfl, g1, g2, g3, g4, g5, g6⟩
    rintro H2 ⟨f1, hl1, hB', nd1, ne1, fr1, s12, ra1⟩
    rw [List.length_map] at hl1
    rw [List.length_map, wB.2.1, List.take_length] at ra1
    have S2 := sA.trans s12
    refine ⟨_, rfl, P, _, 2, _, rfl, rfl, SqL.of (S2 _ _ hP), atI_nat (j := 2) rfl, Ct, rfl, ⟨_, SqL.of ((S2) _ _ wC.1)⟩, fun C' nC' => lc_list (K := K) (a := Ct) (xs := rt.map V.ref) (fun i H' => ∃ rs', rs'.length = i ∧ H' C' = some (.lst (rs'.map V.ref)) ∧ rs'.Nodup ∧ C' ∉ rs' ∧ (∀ x ∈ rs', H2 x = none) ∧ Same H2 H' ∧ RowsAt K H' 8 rs' (tss.take i))
      ⟨[], rfl, upd_same, List.nodup_nil, by simp, fun x hx => by simp at hx, same_new nC' _, RowsAt.nil⟩ (fun i H' _ ⟨_, _, _, _, _, _, s5, _⟩ => SqL.of (s5 _ _ ((S2) _ _ wC.1))) ?_ ?_⟩
    · rintro i v H' hi ⟨rs', hl', hD', nd', ne', fr', s5, ra⟩
      obtain ⟨r, er, rfl⟩ : ∃ r, rt[i]? = some r ∧ v = .ref r := by
        rw [List.getElem?_map] at hi
        cases e : rt[i]? with
        | none => rw [e] at hi; cases hi
        | some r => rw [e] at hi; exact ⟨r, rfl, (Option.some.inj hi).symm⟩
      obtain ⟨cs', qs, e3, e4, e5⟩ := wC.2.2 i r er
      have e4' := s5 _ _ ((S2) _ _ e4)
      have e5' := e5.same ((S2).trans s5)
      have hil : i < tss.length := (List.getElem?_eq_some_iff.mp e3).1
      refine ⟨rfl, tYes_of ?_⟩
      refine ⟨_, rfl, r, cs', rfl, .inl (SqL.of e4'), fun p np => ?_⟩
      obtain ⟨g1, g2, g3, g4, g5, g6⟩ := copy_push nC' hD' nd' ne' fr' s5 ra e3 e5' np
      exact ⟨_, same_new np (.lst cs') _ _ hD', by rw [List.length_map]; exact small1000 (by omega), rs' ++ [p], by rw [List.length_append, hl']; rfl, g1, g2, g3, g4, g5, g6⟩
    rintro H3 ⟨f2, hl2, hC', nd2, ne2, fr2, s23, ra2⟩
    rw [List.length_map] at hl2
    rw [List.length_map, wC.2.1, List.take_length] at ra2
    have S3 := S2.trans s23
    refine ⟨(by show 3 ≤ sizeLine; decide), fun F nF => ?_⟩
    have sF := same_new nF (.lst [V.ref A', V.ref B', V.ref C'])
    have eF : (upd H3 F (.lst [V.ref A', V.ref B', V.ref C'])) F = some (.lst [V.ref A', V.ref B', V.ref C']) := upd_same
    generalize upd H3 F (.lst [V.ref A', V.ref B', V.ref C']) = H4 at sF eF ⊢
    have S4 := S3.trans sF
    have eA4 := sF _ _ ((s12.trans s23) _ _ eA)
    have eB4 : RwL K H4 B' f1 hss 8 := RwL.same ⟨s23 _ _ hB', ra1.same s23⟩ sF
    have eC4 : RwL K H4 C' f2 tss 8 := RwL.same ⟨hC', ra2⟩ sF
    have hl4 := S4 _ _ hl
    have fB' : H B' = none := sA.free nB'
    have fC' : H C' = none := S2.free nC'
    have fF : H F = none := S3.free nF
    have ff1 : ∀ x ∈ f1, H x = none := fun x hx => sA.free (fr1 x hx)
    have ff2 : ∀ x ∈ f2, H x = none := fun x hx => S2.free (fr2 x hx)
    have nl : ∀ {x : Addr}, H x = none → x ≠ l := fun {x} e z => by
      rw [z, hl] at e
      cases e
    have rows1 : ∀ x ∈ f1, ∃ c, H2 x = some (.lst c) := fun x hx => by
      obtain ⟨j, hj, ej⟩ := List.getElem_of_mem hx
      obtain ⟨c', q', _, z2, _⟩ := ra1.2 j x (by rw [List.getElem?_eq_getElem hj, ej])
      exact ⟨c', z2⟩
    have rows2 : ∀ x ∈ f2, ∃ c, H3 x = some (.lst c) := fun x hx => by
      obtain ⟨j, hj, ej⟩ := List.getElem_of_mem hx
      obtain ⟨c', q', _, z2, _⟩ := ra2.2 j x (by rw [List.getElem?_eq_getElem hj, ej])
      exact ⟨c', z2⟩
    have dzE : DzA K H4 (Ex l F A' B' C' f1 f2) cs ds := (DzA_more (fun a ha => by
      rcases ha with rfl | rfl | rfl | rfl | rfl | ha | ha
      · exact .inl rfl
      · exact .inr fF
      · exact .inr nA'
      · exact .inr fB'
      · exact .inr fC'
      · exact .inr (ff1 a ha)
      · exact .inr (ff2 a ha)) ds cs dz).same S4
    have ne_ : ∀ {G : Hp} {x y : Addr} {ob : HO}, G x = some ob → G y = none → x ≠ y := fun {G x y ob} e1 e2 z => by
      rw [z, e2] at e1
      cases e1
    have B4 : Bn K H H4 l F A' B' C' cs ds f1 hss f2 tss := {
      hF := eF, hA := eA4, dz := dzE, wB := eB4, wC := eC4, k := SameB.of S4, fF := fF, fA := nA', fB := fB', fC := fC', g1 := ff1, g2 := ff2
      nF := nl fF, nA := nl nA'
      AF := ne_ ((s12.trans s23) _ _ eA) nF, BF := ne_ (s23 _ _ hB') nF, CF := ne_ hC' nF
      BA := Ne.symm (ne_ eA nB'), CA := Ne.symm (ne_ (s12 _ _ eA) nC'), CB := Ne.symm (ne_ hB' nC')
      i1 := fun x hx => ⟨nl (ff1 x hx), (by
          obtain ⟨c, e⟩ := rows1 x hx
          exact ne_ (s23 _ _ e) nF), Ne.symm (ne_ eA (fr1 x hx)), fun e => ne1 (by rw [← e]; exact hx), (by
          obtain ⟨c, e⟩ := rows1 x hx
          exact ne_ e nC'), fun h2 => by
          obtain ⟨c, e⟩ := rows1 x hx
          rw [fr2 x h2] at e
          cases e⟩
      i2 := fun x hx => ⟨nl (ff2 x hx), (by
          obtain ⟨c, e⟩ := rows2 x hx
          exact ne_ e nF), Ne.symm (ne_ (s12 _ _ eA) (fr2 x hx)), Ne.symm (ne_ hB' (fr2 x hx)), fun e => ne2 (by rw [← e]; exact hx)⟩
      d1 := nd1, d2 := nd2 }
    have hf1 : f1.length = ww := by rw [eB4.2.1, hhl]
    have hf2 : f2.length = ww := by rw [eC4.2.1, htl]
    clear dzE eA4 eB4 eC4 S4 rows1 rows2 ff1 ff2 fF fC' fB' hB' hC' ra1 ra2 fr1 fr2 nd1 nd2 ne1 ne2 S3 S2 s12 s23 eA eF sF nF nA' sA nB' nC' hl1 hl2
    -- the part
    refine ⟨_, rfl, l, z, 3, rfl, hl4, by decide, by decide, fun part z1 p0 p3 => ?_⟩
    have B5 := B4.but hl4 (SameB.upd (o := .lst [.int z1]))
    have hl5 : (upd H4 l (.lst [.int z1])) l = some (.lst [.int z1]) := upd_same
    generalize upd H4 l (.lst [.int z1]) = H5 at B5 hl5 ⊢
    clear B4 hl4
    -- the odd one
    refine ⟨(by show 2 ≤ sizeLine; decide), fun t1 nt1 => ?_⟩
    have st1 := same_new nt1 (.tup [V.int 0, V.int 2])
    have et1 : (upd H5 t1 (.tup [V.int 0, V.int 2])) t1 = some (.tup [V.int 0, V.int 2]) := upd_same
    generalize upd H5 t1 (.tup [V.int 0, V.int 2]) = H5a at st1 et1 ⊢
    refine ⟨(by show 2 ≤ sizeLine; decide), fun t2 nt2 => ?_⟩
    have st2 := same_new nt2 (.tup [V.int 2, V.int 4])
    have et2 : (upd H5a t2 (.tup [V.int 2, V.int 4])) t2 = some (.tup [V.int 2, V.int 4]) := upd_same
    generalize upd H5a t2 (.tup [V.int 2, V.int 4]) = H5b at st2 et2 ⊢
    refine ⟨(by show 2 ≤ sizeLine; decide), fun t3 nt3 => ?_⟩
    have st3 := same_new nt3 (.tup [V.int 1, V.int 0])
    have et3 : (upd H5b t3 (.tup [V.int 1, V.int 0])) t3 = some (.tup [V.int 1, V.int 0]) := upd_same
    generalize upd H5b t3 (.tup [V.int 1, V.int 0]) = H5c at st3 et3 ⊢
    refine ⟨2, rfl, ?_⟩
    refine ⟨(by show 2 ≤ sizeLine; decide), fun t4 nt4 => ?_⟩
    have st4 := same_new nt4 (.tup [V.int 1, V.int (-2)])
    have et4 : (upd H5c t4 (.tup [V.int 1, V.int (-2)])) t4 = some (.tup [V.int 1, V.int (-2)]) := upd_same
    generalize upd H5c t4 (.tup [V.int 1, V.int (-2)]) = H5d at st4 et4 ⊢
    refine ⟨(by show 2 ≤ sizeLine; decide), fun t5 nt5 => ?_⟩
    have st5 := same_new nt5 (.tup [V.bl true, V.int 1])
    have et5 : (upd H5d t5 (.tup [V.bl true, V.int 1])) t5 = some (.tup [V.bl true, V.int 1]) := upd_same
    generalize upd H5d t5 (.tup [V.bl true, V.int 1]) = H5e at st5 et5 ⊢
    refine ⟨(by show 2 ≤ sizeLine; decide), fun t6 nt6 => ?_⟩
    have st6 := same_new nt6 (.lst [V.int 1, V.int 2])
    have et6 : (upd H5e t6 (.lst [V.int 1, V.int 2])) t6 = some (.lst [V.int 1, V.int 2]) := upd_same
    generalize upd H5e t6 (.lst [V.int 1, V.int 2]) = H5f at st6 et6 ⊢
    refine ⟨(by show 3 ≤ sizeLine; decide), fun t7 nt7 => ?_⟩
    have st7 := same_new nt7 (.tup [V.int 1, V.int 1, V.int 1])
    have et7 : (upd H5f t7 (.tup [V.int 1, V.int 1, V.int 1])) t7 = some (.tup [V.int 1, V.int 1, V.int 1]) := upd_same
    generalize upd H5f t7 (.tup [V.int 1, V.int 1, V.int 1]) = H5g at st7 et7 ⊢
    refine ⟨(by show 11 ≤ sizeLine; decide), fun t8 nt8 => ?_⟩
    have st8 := same_new nt8 (.lst [V.non, V.int 1, V.ref t1, V.ref t2, V.ref t3, V.ref t4, V.bl true, V.ref t5, V.ref t6, V.str "1/2", V.ref t7])
    have et8 : (upd H5g t8 (.lst [V.non, V.int 1, V.ref t1, V.ref t2, V.ref t3, V.ref t4, V.bl true, V.ref t5, V.ref t6, V.str "1/2", V.ref t7])) t8 = some (.lst [V.non, V.int 1, V.ref t1, V.ref t2, V.ref t3, V.ref t4, V.bl true, V.ref t5, V.ref t6, V.str "1/2", V.ref t7]) := upd_same
    generalize upd H5g t8 (.lst [V.non, V.int 1, V.ref t1, V.ref t2, V.ref t3, V.ref t4, V.bl true, V.ref t5, V.ref t6, V.str "1/2", V.ref t7]) = H5h at st8 et8 ⊢
    have S8 : Same H5 H5h := (((((((st1.trans st2).trans st3).trans st4).trans st5).trans st6).trans st7).trans st8)
    have hl6 := S8 _ _ hl5
    have B6 := B5.same S8
    have et1 := ((((((st2.trans st3).trans st4).trans st5).trans st6).trans st7).trans st8) _ _ et1
    have et2 := (((((st3.trans st4).trans st5).trans st6).trans st7).trans st8) _ _ et2
    have et3 := ((((st4.trans st5).trans st6).trans st7).trans st8) _ _ et3
    have et4 := (((st5.trans st6).trans st7).trans st8) _ _ et4
    have et5 := ((st6.trans st7).trans st8) _ _ et5
    have et6 := (st7.trans st8) _ _ et6
    have et7 := st8 _ _ et7
    have t6f : H5 t6 = none := (((((st1.trans st2).trans st3).trans st4).trans st5)).free nt6
    have t6x : ¬ Ex l F A' B' C' f1 f2 t6 := by
      rintro (rfl | rfl | rfl | rfl | rfl | hm | hm)
      · rw [hl5] at t6f; cases t6f
      · rw [B5.hF] at t6f; cases t6f
      · rw [B5.hA] at t6f; cases t6f
      · rw [B5.wB.1] at t6f; cases t6f
      · rw [B5.wC.1] at t6f; cases t6f
      · obtain ⟨j, hj, ej⟩ := List.getElem_of_mem hm
        obtain ⟨c', q', _, z2, _⟩ := B5.wB.2.2 j t6 (by rw [List.getElem?_eq_getElem hj, ej])
        rw [z2] at t6f; cases t6f
      · obtain ⟨j, hj, ej⟩ := List.getElem_of_mem hm
        obtain ⟨c', q', _, z2, _⟩ := B5.wC.2.2 j t6 (by rw [List.getElem?_eq_getElem hj, ej])
        rw [z2] at t6f; cases t6f
    clear S8 B5 hl5 st1 st2 st3 st4 st5 st6 st7 st8 t6f
    have ht8 : t8 ≠ l := fun e => by
      rw [e, hl6] at et8
      cases et8
    refine ⟨_, rfl, l, z1, 11, rfl, hl6, by decide, by decide, fun od z2 o0 o11 => ?_⟩
    obtain ⟨ov, odd, eo, co, ce, cl⟩ : ∃ ov odd, atI [V.non, V.int 1, V.ref t1, V.ref t2, V.ref t3, V.ref t4, V.bl true, V.ref t5, V.ref t6, V.str "1/2", V.ref t7] od = some ov ∧ Dz.Dz K H5h (Ex l F A' B' C' f1 f2) ov odd ∧ CeB 8 odd ∧ ∀ es, odd = .list es → ∀ e ∈ es, CeB 8 e := by
      have : od = 0 ∨ od = 1 ∨ od = 2 ∨ od = 3 ∨ od = 4 ∨ od = 5 ∨ od = 6 ∨ od = 7 ∨ od = 8 ∨ od = 9 ∨ od = 10 := by omega
      have two : ∀ x y, DzA K H5h (Ex l F A' B' C' f1 f2) [V.int x, V.int y] [.int x, .int y] := fun x y => .cons (.int _) (.cons (.int _) .nil)
      have cb : ∀ {d : PyData}, d.showable = true → d.depth ≤ 1 → d.shown.length ≤ 60 → d.canLay0 = true → d.hasDict = false → ratD d = none → CeB 8 d := fun h1 h2 h3 h4 h5 h6 => ce_odd ⟨h1, h2, h3, h4⟩ h5 h6
      rcases this with rfl | rfl | rfl | rfl | rfl | rfl | rfl | rfl | rfl | rfl | rfl
      · exact ⟨_, _, atI_nat (j := 0) rfl, .non, cb rfl (by decide) (by decide +kernel) rfl rfl rfl, fun es e => by cases e⟩
      · exact ⟨_, _, atI_nat (j := 1) rfl, .int 1, cb (by decide +kernel) (by decide) (by decide +kernel) rfl rfl rfl, fun es e => by cases e⟩
      · exact ⟨_, _, atI_nat (j := 2) rfl, .tup (SqT.of et1) (two 0 2), cb (by decide +kernel) (by decide +kernel) (by decide +kernel) (by decide +kernel) rfl (by decide +kernel), fun es e => by cases e⟩
      · exact ⟨_, _, atI_nat (j := 3) rfl, .tup (SqT.of et2) (two 2 4), cb (by decide +kernel) (by decide +kernel) (by decide +kernel) (by decide +kernel) rfl (by decide +kernel), fun es e => by cases e⟩
      · exact ⟨_, _, atI_nat (j := 4) rfl, .tup (SqT.of et3) (two 1 0), cb (by decide +kernel) (by decide +kernel) (by decide +kernel) (by decide +kernel) rfl (by decide +kernel), fun es e => by cases e⟩
      · exact ⟨_, _, atI_nat (j := 5) rfl, .tup (SqT.of et4) (two 1 (-2)), cb (by decide +kernel) (by decide +kernel) (by decide +kernel) (by decide +kernel) rfl (by decide +kernel), fun es e => by cases e⟩
      · exact ⟨_, _, atI_nat (j := 6) rfl, .bl true, cb rfl (by decide) (by decide +kernel) rfl rfl rfl, fun es e => by cases e⟩
      · exact ⟨_, _, atI_nat (j := 7) rfl, .tup (SqT.of et5) (.cons (.bl true) (.cons (.int 1) .nil)), cb (by decide +kernel) (by decide +kernel) (by decide +kernel) (by decide +kernel) rfl (by decide +kernel), fun es e => by cases e⟩
      · refine ⟨_, _, atI_nat (j := 8) rfl, .lst et6 t6x (two 1 2), cb (by decide +kernel) (by decide +kernel) (by decide +kernel) (by decide +kernel) rfl (by decide +kernel), fun es e x hx => ?_⟩
        injection e with e
        rw [← e] at hx
        rcases List.mem_cons.mp hx with rfl | hx
        · exact cb (by decide +kernel) (by decide) (by decide +kernel) rfl rfl rfl
        · rw [List.mem_singleton.mp hx]
          exact cb (by decide +kernel) (by decide) (by decide +kernel) rfl rfl rfl
      · exact ⟨_, _, atI_nat (j := 9) rfl, .str "1/2", cb rfl (by decide) (by decide +kernel) (by decide +kernel) rfl rfl, fun es e => by cases e⟩
      · exact ⟨_, _, atI_nat (j := 10) rfl, .tup (SqT.of et7) (.cons (.int 1) (.cons (.int 1) (.cons (.int 1) .nil))), cb (by decide +kernel) (by decide +kernel) (by decide +kernel) (by decide +kernel) rfl (by decide +kernel), fun es e => by cases e⟩
    have sb6 : SameB l H5h (upd H5h l (.lst [.int z2])) := SameB.upd
    refine ⟨t8, _, od, ov, rfl, rfl, SqL.of (by rw [upd_ne ht8]; exact et8), eo, ?_⟩
    have co7 := co.cc (Ch.but hl6 sb6 (.inl rfl))
    have B7 := B6.but hl6 sb6
    have hl7 : (upd H5h l (.lst [.int z2])) l = some (.lst [.int z2]) := upd_same
    generalize upd H5h l (.lst [.int z2]) = H7 at co7 B7 hl7 ⊢
    clear B6 hl6 sb6 co eo o0 o11 ht8 et1 et2 et3 et4 et5 et6 et7 et8 t6x
    -- the way
    refine ⟨_, rfl, l, z2, 8, rfl, hl7, by decide, by decide, fun way z3 w0 w8 => ?_⟩
    have co8 := co7.cc (Ch.but hl7 (SameB.upd (o := .lst [.int z3])) (.inl rfl))
    have B8 := B7.but hl7 (SameB.upd (o := .lst [.int z3]))
    have hl8 : (upd H7 l (.lst [.int z3])) l = some (.lst [.int z3]) := upd_same
    generalize upd H7 l (.lst [.int z3]) = H8 at co8 B8 hl8 ⊢
    clear B7 hl7 co7
    -- the part that is bent
    have exW : ∀ a, (a = l ∨ a = F ∨ a = A' ∨ a = B' ∨ a = C') → Ex l F A' B' C' f1 f2 a := fun a ha => by
      rcases ha with h | h | h | h | h
      · exact .inl h
      · exact .inr (.inl h)
      · exact .inr (.inr (.inl h))
      · exact .inr (.inr (.inr (.inl h)))
      · exact .inr (.inr (.inr (.inr (.inl h))))
    have row1 : ∀ x ∈ f1, ¬ (x = l ∨ x = F ∨ x = A' ∨ x = B' ∨ x = C') := fun x hx z => by
      obtain ⟨z1, z2, z3, z4, z5, _⟩ := B8.i1 x hx
      rcases z with h | h | h | h | h
      · exact z1 h
      · exact z2 h
      · exact z3 h
      · exact z4 h
      · exact z5 h
    have row2 : ∀ x ∈ f2, ¬ (x = l ∨ x = F ∨ x = A' ∨ x = B' ∨ x = C') := fun x hx z => by
      obtain ⟨z1, z2, z3, z4, z5⟩ := B8.i2 x hx
      rcases z with h | h | h | h | h
      · exact z1 h
      · exact z2 h
      · exact z3 h
      · exact z4 h
      · exact z5 h
    have nB : B' ≠ l := Rs.ne_num hl8 B8.wB
    have nC : C' ≠ l := Rs.ne_num hl8 B8.wC
    have good0 : ∀ d ∈ ds, CeB (n + 4) d := fun d hd => (hce d hd).mono (by omega)
    have p1B : P1 (dRows hss) := p1_list (ro_dRows B8.wB.2 hhr h6) (by rw [List.length_map]; omega)
    have p1C : P1 (dRows tss) := p1_list (ro_dRows B8.wC.2 htr h6) (by rw [List.length_map]; omega)
    have p0A : P0 (n + 4) (.list ds) := p0_list good0 (by omega)
    have lA : ∀ es, PyData.list ds = .list es → es.length ≤ ds.length + 5 := fun es e => by injection e with e; rw [← e]; omega
    obtain ⟨pn, Ap, ys, dys, Pd, It, eAp, epn, y1, y10, ptAt, its, oIt, pl, pt, fNon, fDct, fInt, fStr, fin1, fin2, cIt_, rIt_⟩ : ∃ (pn : Nat) (Ap : Addr) (ys : List V) (dys : List PyData) (Pd It : PyData → Prop), atI [V.ref A', V.ref B', V.ref C'] part = some (.ref Ap) ∧ part = (pn : Int) ∧ 1 ≤ ys.length ∧ ys.length ≤ 10 ∧
        (∀ H6, Bn K H H6 l F A' B' C' cs ds f1 hss f2 tss → H6 Ap = some (.lst ys) ∧ DzA K H6 (fun a => a = l ∨ a = F ∨ a = A' ∨ a = B' ∨ a = C') ys dys) ∧ (∀ e ∈ dys, It e) ∧ It odd ∧
        (∀ es, (∀ e ∈ es, It e) → (part = 0 → es.length ≤ ds.length + 5) → es.length ≤ 15 → Pd (.list es)) ∧ (∀ es, (∀ e ∈ es, It e) → es.length ≤ 15 → Pd (.tuple es)) ∧ Pd .none ∧ Pd (.dict []) ∧ Pd (.int 0) ∧ Pd (.str "") ∧
        (∀ (v : V) (d : PyData) (H6 : Hp) (z6 : Int), Bn K H H6 l F A' B' C' cs ds f1 hss f2 tss → H6 l = some (.lst [.int z6]) → Dz.Dz K H6 (fun a => a = l ∨ a = F ∨ a = A' ∨ a = B' ∨ a = C') v d → Pd d → Q (.ref F) (upd H6 F (.lst ([V.ref A', V.ref B', V.ref C'].set pn v)))) ∧
        (∀ (j : Nat) (v : V) (d : PyData) (H6 : Hp) (z6 : Int), Bn K H H6 l F A' B' C' cs ds f1 hss f2 tss → H6 l = some (.lst [.int z6]) → Dz.Dz K H6 (fun a => a = l ∨ a = F ∨ a = A' ∨ a = B' ∨ a = C') v d → It d → Q (.ref F) (upd H6 Ap (.lst (ys.set j v)))) ∧ (part = 0 → ∀ q : Rat, Bd (n + 3 + 1) q → It (dR q)) ∧ (part ≠ 0 → ∀ {d : PyData}, RoB d → It d) := by
      have : part = 0 ∨ part = 1 ∨ part = 2 := by omega
      rcases this with rfl | rfl | rfl
      · refine ⟨0, A', cs, ds, (fun d => P0 (n + 4) d ∧ ∀ es, d = .list es → es.length ≤ ds.length + 5), (CeB (n + 4)), atI_nat (j := 0) rfl, rfl, by rw [dz.len]; omega, by rw [dz.len]; exact d10, fun H6 B6 => ⟨B6.hA, DzA.sub exW _ _ B6.dz⟩, good0, ce.mono (by omega), fun es h h5 h15 => ⟨p0_list h h15, fun es' e => by injection e with e; rw [← e]; exact h5 rfl⟩, fun es h h15 => ⟨p0_tup h h15, fun es' e => by cases e⟩, ⟨⟨⟨rfl, by decide, by decide +kernel⟩, fun es e => by cases e⟩, fun es e => by cases e⟩, ⟨⟨sz_dct.mono (by decide) (by decide), fun es e => by cases e⟩, fun es e => by cases e⟩, ⟨⟨⟨by decide +kernel, by decide, by decide +kernel⟩, fun es e => by cases e⟩, fun es e => by cases e⟩, ⟨⟨⟨rfl, by decide, by decide +kernel⟩, fun es e => by cases e⟩, fun es e => by cases e⟩, ?_, ?_, ?_, ?_⟩
        · exact fun v d H6 z6 B6 hl6 hv hd => by
            refine q F v (.ref B') (.ref C') d (dRows hss) (dRows tss) z6 _ (fun b u hb e => ?_) ?_ upd_same B6.nF (Dz.sub (fun a h => .inl h) _ _ ((Dz.sub (ex' := fun a => a = l ∨ a = F) (fun a h => h.elim (fun h => .inl h) fun h => .inr (.inl h)) _ _ hv).cc (Ch.put B6.hF (.inr rfl)))) (Dz.sub (fun a h => .inl h) _ _ ((B6.dB (ex := fun a => a = l ∨ a = F) (fun h => h.elim nB B6.BF) (fun x hx h => h.elim (B6.i1 x hx).1 (B6.i1 x hx).2.1)).cc (Ch.put B6.hF (.inr rfl)))) (Dz.sub (fun a h => .inl h) _ _ ((B6.dC (ex := fun a => a = l ∨ a = F) (fun h => h.elim nC B6.CF) (fun x hx h => h.elim (B6.i2 x hx).1 (B6.i2 x hx).2.1)).cc (Ch.put B6.hF (.inr rfl)))) hd.1 hd.2 p1B p1C
            · rw [upd_ne (ne_of_none e B6.fF)]
              exact B6.k b u hb e
            · rw [upd_ne (Ne.symm B6.nF)]
              exact hl6
        · exact fun j v d H6 z6 B6 hl6 hv hd => by
            have its : ∀ e ∈ ds, CeB (n + 4) e := good0
            refine q F (.ref A') (.ref B') (.ref C') (.list (ds.set j d)) (dRows hss) (dRows tss) z6 _ (fun b u hb e => ?_) ?_ ?_ B6.nF (.lst upd_same B6.nA (DzA.sub (fun a h => .inl h) _ _ (((DzA.sub (ex' := fun a => a = l ∨ a = A') (fun a h => h.elim (fun h => .inl h) fun h => .inr (.inr (.inl h))) _ _ B6.dz).set j (Dz.sub (ex' := fun a => a = l ∨ a = A') (fun a h => h.elim (fun h => .inl h) fun h => .inr (.inr (.inl h))) _ _ hv)).cc (Ch.put (ex := fun a => a = l ∨ a = A') B6.hA (.inr rfl))))) (Dz.sub (fun a h => .inl h) _ _ ((B6.dB (ex := fun a => a = l ∨ a = A') (fun h => h.elim nB B6.BA) (fun x hx h => h.elim (B6.i1 x hx).1 (B6.i1 x hx).2.2.1)).cc (Ch.put (ex := fun a => a = l ∨ a = A') B6.hA (.inr rfl)))) (Dz.sub (fun a h => .inl h) _ _ ((B6.dC (ex := fun a => a = l ∨ a = A') (fun h => h.elim nC B6.CA) (fun x hx h => h.elim (B6.i2 x hx).1 (B6.i2 x hx).2.2.1)).cc (Ch.put (ex := fun a => a = l ∨ a = A') B6.hA (.inr rfl)))) (p0_list (fun e he => (List.mem_or_eq_of_mem_set he).elim (its e) fun z => by rw [z]; exact hd) (by rw [List.length_set]; omega)) (fun es e => by injection e with e; rw [← e, List.length_set]; omega) p1B p1C
            · rw [upd_ne (ne_of_none e B6.fA)]
              exact B6.k b u hb e
            · rw [upd_ne (Ne.symm B6.nA)]
              exact hl6
            · rw [upd_ne (Ne.symm B6.AF)]
              exact B6.hF
        · exact fun _ q h => ce_dR h (by omega) (by omega)
        · exact fun e => absurd rfl e
      · refine ⟨1, B', (f1.map V.ref), (hss.map fun qs => .list (qs.map dR)), P1, RoB, atI_nat (j := 1) rfl, rfl, by rw [List.length_map]; omega, by rw [List.length_map]; omega, fun H6 B6 => ⟨B6.wB.1, rows_dz B6.wB.2 row1⟩, ro_dRows B8.wB.2 hhr h6, ce.ro cl, fun es h _ h15 => p1_list h h15, fun es h h15 => p1_tup h h15, ⟨⟨rfl, by decide, by decide +kernel⟩, fun es e => by cases e⟩, ⟨sz_dct.mono (by decide) (by decide), fun es e => by cases e⟩, ⟨⟨by decide +kernel, by decide, by decide +kernel⟩, fun es e => by cases e⟩, ⟨⟨rfl, by decide, by decide +kernel⟩, fun es e => by cases e⟩, ?_, ?_, ?_, ?_⟩
        · exact fun v d H6 z6 B6 hl6 hv hd => by
            refine q F (.ref A') v (.ref C') (.list ds) d (dRows tss) z6 _ (fun b u hb e => ?_) ?_ upd_same B6.nF (Dz.sub (fun a h => .inl h) _ _ ((B6.dA (ex := fun a => a = l ∨ a = F) (fun a h => h.elim (fun h => .inl h) fun h => .inr (.inl h)) (fun h => h.elim B6.nA B6.AF)).cc (Ch.put B6.hF (.inr rfl)))) (Dz.sub (fun a h => .inl h) _ _ ((Dz.sub (ex' := fun a => a = l ∨ a = F) (fun a h => h.elim (fun h => .inl h) fun h => .inr (.inl h)) _ _ hv).cc (Ch.put B6.hF (.inr rfl)))) (Dz.sub (fun a h => .inl h) _ _ ((B6.dC (ex := fun a => a = l ∨ a = F) (fun h => h.elim nC B6.CF) (fun x hx h => h.elim (B6.i2 x hx).1 (B6.i2 x hx).2.1)).cc (Ch.put B6.hF (.inr rfl)))) p0A lA hd p1C
            · rw [upd_ne (ne_of_none e B6.fF)]
              exact B6.k b u hb e
            · rw [upd_ne (Ne.symm B6.nF)]
              exact hl6
        · exact fun j v d H6 z6 B6 hl6 hv hd => by
            have its := ro_dRows B6.wB.2 hhr h6
            refine q F (.ref A') (.ref B') (.ref C') (.list ds) (.list ((hss.map fun qs => .list (qs.map dR)).set j d)) (dRows tss) z6 _ (fun b u hb e => ?_) ?_ ?_ B6.nF (Dz.sub (fun a h => .inl h) _ _ ((B6.dA (ex := fun a => a = l ∨ a = B') (fun a h => h.elim (fun h => .inl h) fun h => .inr (.inr (.inr (.inl h)))) (fun h => h.elim B6.nA (Ne.symm B6.BA))).cc (Ch.put (ex := fun a => a = l ∨ a = B') B6.wB.1 (.inr rfl)))) (.lst upd_same nB (DzA.sub (fun a h => .inl h) _ _ (((rows_dz (ex := fun a => a = l ∨ a = B') B6.wB.2 (fun x hx h => h.elim (B6.i1 x hx).1 (B6.i1 x hx).2.2.2.1)).set j (Dz.sub (ex' := fun a => a = l ∨ a = B') (fun a h => h.elim (fun h => .inl h) fun h => .inr (.inr (.inr (.inl h)))) _ _ hv)).cc (Ch.put (ex := fun a => a = l ∨ a = B') B6.wB.1 (.inr rfl))))) (Dz.sub (fun a h => .inl h) _ _ ((B6.dC (ex := fun a => a = l ∨ a = B') (fun h => h.elim nC B6.CB) (fun x hx h => h.elim (B6.i2 x hx).1 (B6.i2 x hx).2.2.2.1)).cc (Ch.put (ex := fun a => a = l ∨ a = B') B6.wB.1 (.inr rfl)))) p0A lA (p1_list (fun e he => (List.mem_or_eq_of_mem_set he).elim (its e) fun z => by rw [z]; exact hd) (by rw [List.length_set, List.length_map]; omega)) p1C
            · rw [upd_ne (ne_of_none e B6.fB)]
              exact B6.k b u hb e
            · rw [upd_ne (Ne.symm nB)]
              exact hl6
            · rw [upd_ne (Ne.symm B6.BF)]
              exact B6.hF
        · exact fun e => absurd e (by decide)
        · exact fun _ _ h => h
      · refine ⟨2, C', (f2.map V.ref), (tss.map fun qs => .list (qs.map dR)), P1, RoB, atI_nat (j := 2) rfl, rfl, by rw [List.length_map]; omega, by rw [List.length_map]; omega, fun H6 B6 => ⟨B6.wC.1, rows_dz B6.wC.2 row2⟩, ro_dRows B8.wC.2 htr h6, ce.ro cl, fun es h _ h15 => p1_list h h15, fun es h h15 => p1_tup h h15, ⟨⟨rfl, by decide, by decide +kernel⟩, fun es e => by cases e⟩, ⟨sz_dct.mono (by decide) (by decide), fun es e => by cases e⟩, ⟨⟨by decide +kernel, by decide, by decide +kernel⟩, fun es e => by cases e⟩, ⟨⟨rfl, by decide, by decide +kernel⟩, fun es e => by cases e⟩, ?_, ?_, ?_, ?_⟩
        · exact fun v d H6 z6 B6 hl6 hv hd => by
            refine q F (.ref A') (.ref B') v (.list ds) (dRows hss) d z6 _ (fun b u hb e => ?_) ?_ upd_same B6.nF (Dz.sub (fun a h => .inl h) _ _ ((B6.dA (ex := fun a => a = l ∨ a = F) (fun a h => h.elim (fun h => .inl h) fun h => .inr (.inl h)) (fun h => h.elim B6.nA B6.AF)).cc (Ch.put B6.hF (.inr rfl)))) (Dz.sub (fun a h => .inl h) _ _ ((B6.dB (ex := fun a => a = l ∨ a = F) (fun h => h.elim nB B6.BF) (fun x hx h => h.elim (B6.i1 x hx).1 (B6.i1 x hx).2.1)).cc (Ch.put B6.hF (.inr rfl)))) (Dz.sub (fun a h => .inl h) _ _ ((Dz.sub (ex' := fun a => a = l ∨ a = F) (fun a h => h.elim (fun h => .inl h) fun h => .inr (.inl h)) _ _ hv).cc (Ch.put B6.hF (.inr rfl)))) p0A lA p1B hd
            · rw [upd_ne (ne_of_none e B6.fF)]
              exact B6.k b u hb e
            · rw [upd_ne (Ne.symm B6.nF)]
              exact hl6
        · exact fun j v d H6 z6 B6 hl6 hv hd => by
            have its := ro_dRows B6.wC.2 htr h6
            refine q F (.ref A') (.ref B') (.ref C') (.list ds) (dRows hss) (.list ((tss.map fun qs => .list (qs.map dR)).set j d)) z6 _ (fun b u hb e => ?_) ?_ ?_ B6.nF (Dz.sub (fun a h => .inl h) _ _ ((B6.dA (ex := fun a => a = l ∨ a = C') (fun a h => h.elim (fun h => .inl h) fun h => .inr (.inr (.inr (.inr (.inl h))))) (fun h => h.elim B6.nA (Ne.symm B6.CA))).cc (Ch.put (ex := fun a => a = l ∨ a = C') B6.wC.1 (.inr rfl)))) (Dz.sub (fun a h => .inl h) _ _ ((B6.dB (ex := fun a => a = l ∨ a = C') (fun h => h.elim nB (Ne.symm B6.CB)) (fun x hx h => h.elim (B6.i1 x hx).1 (B6.i1 x hx).2.2.2.2.1)).cc (Ch.put (ex := fun a => a = l ∨ a = C') B6.wC.1 (.inr rfl)))) (.lst upd_same nC (DzA.sub (fun a h => .inl h) _ _ (((rows_dz (ex := fun a => a = l ∨ a = C') B6.wC.2 (fun x hx h => h.elim (B6.i2 x hx).1 (B6.i2 x hx).2.2.2.2)).set j (Dz.sub (ex' := fun a => a = l ∨ a = C') (fun a h => h.elim (fun h => .inl h) fun h => .inr (.inr (.inr (.inr h)))) _ _ hv)).cc (Ch.put (ex := fun a => a = l ∨ a = C') B6.wC.1 (.inr rfl))))) p0A lA p1B (p1_list (fun e he => (List.mem_or_eq_of_mem_set he).elim (its e) fun z => by rw [z]; exact hd) (by rw [List.length_set, List.length_map]; omega))
            · rw [upd_ne (ne_of_none e B6.fC)]
              exact B6.k b u hb e
            · rw [upd_ne (Ne.symm nC)]
              exact hl6
            · rw [upd_ne (Ne.symm B6.CF)]
              exact B6.hF
        · exact fun e => absurd e (by decide)
        · exact fun _ _ h => h
    have hpn : pn < 3 := by omega
    obtain ⟨hAp8, dzy8⟩ := ptAt H8 B8
    have ylen := dzy8.len
    have y0 : part = 0 → ys.length = ds.length := fun e => by
      subst e
      have e2 := (show atI [V.ref A', V.ref B', V.ref C'] 0 = some (.ref A') from atI_nat (j := 0) rfl)
      rw [e2] at eAp
      have e3 : A' = Ap := V.ref.inj (Option.some.inj eAp)
      rw [← e3, B8.hA] at hAp8
      have e4 := Option.some.inj hAp8
      injection e4 with e4
      rw [← e4]
      exact dz.len
    -- the place
    refine ⟨_, rfl, _, rfl, _, rfl, F, _, part, .ref Ap, rfl, rfl, SqL.of B8.hF, eAp, Ap, ys, rfl, .inl (SqL.of hAp8), l, z3, _, rfl, hl8, ?_, ?_, fun at_ z4 a0 a9 => ?_⟩
    · show (0 : Int) < (ys.length : Int)
      omega
    · show ((ys.length : Int)).natAbs < 2 ^ 200
      exact Nat.lt_of_lt_of_le (show _ < 64 by omega) (by decide)
    have co9 := co8.cc (Ch.but hl8 (SameB.upd (o := .lst [.int z4])) (.inl rfl))
    have B9 := B8.but hl8 (SameB.upd (o := .lst [.int z4]))
    have hl9 : (upd H8 l (.lst [.int z4])) l = some (.lst [.int z4]) := upd_same
    generalize upd H8 l (.lst [.int z4]) = H9 at co9 B9 hl9 ⊢
    clear B8 hl8 co8 hAp8 dzy8
    obtain ⟨hAp, dzy⟩ := ptAt H9 B9
    obtain ⟨j, rfl⟩ : ∃ j : Nat, at_ = (j : Int) := ⟨at_.toNat, by omega⟩
    have hj : j < ys.length := by omega
    have ixp : ixN ([V.ref A', V.ref B', V.ref C'] : List V).length part = some pn := by
      show ixN 3 part = some pn
      unfold ixN
      rw [if_pos p0, if_pos (by omega), epn, Int.toNat_natCast]
    have ixj : ixN ys.length (j : Int) = some j := by
      unfold ixN
      rw [if_pos (by omega), if_pos (by omega), Int.toNat_natCast]
    have exs : ∀ {p : Addr}, H9 p = none → ¬ (p = l ∨ p = F ∨ p = A' ∨ p = B' ∨ p = C') := fun {p} e z => by
      rcases z with h | h | h | h | h
      · rw [h, hl9] at e; cases e
      · rw [h, B9.hF] at e; cases e
      · rw [h, B9.hA] at e; cases e
      · rw [h, B9.wB.1] at e; cases e
      · rw [h, B9.wC.1] at e; cases e
    have coW := Dz.sub exW _ _ co9
    have cutl : ∀ (lo hi : Option Int), DzA K H9 (fun a => a = l ∨ a = F ∨ a = A' ∨ a = B' ∨ a = C') (cutV ys lo hi) ((dys.drop (HT.sIx ys.length 0 lo)).take (HT.sIx ys.length ys.length hi - HT.sIx ys.length 0 lo)) := fun lo hi => (dzy.drop _).take _
    clear a0 a9
    have : way = 0 ∨ way = 1 ∨ way = 2 ∨ way = 3 ∨ way = 4 ∨ way = 5 ∨ way = 6 ∨ way = 7 := by omega
    clear w0 w8
    have cIt : part = 0 → ∀ q : Rat, Bd (n + 3 + 1) q → It (dR q) := cIt_
    have rIt : part ≠ 0 → ∀ {d : PyData}, RoB d → It d := rIt_
    rcases this with rfl | rfl | rfl | rfl | rfl | rfl | rfl | rfl
    · refine ⟨_, rfl, rfl, _, rfl, iteT ?_⟩
      refine ⟨(by show 0 ≤ sizeLine; decide), fun q1 nq1 => ?_⟩
      have sq1 := same_new nq1 (.tup [])
      have eq1 : (upd H9 q1 (.tup [])) q1 = some (.tup []) := upd_same
      generalize upd H9 q1 (.tup []) = G1 at sq1 eq1 ⊢
      refine fun q2 nq2 => ?_
      have sq2 := same_new nq2 (.dK [])
      have eq2 : (upd G1 q2 (.dK [])) q2 = some (.dK []) := upd_same
      generalize upd G1 q2 (.dK []) = G2 at sq2 eq2 ⊢
      have U2 := sq1.trans sq2
      refine ⟨_, rfl, _, rfl, F, _, part, .ref Ap, rfl, rfl, SqL.of (U2 _ _ B9.hF), eAp, Ap, ys, rfl, .inl ⟨SqL.of (U2 _ _ hAp), fun q3 nq3 => ?_⟩⟩
      have sq3 := same_new nq3 (.tup ys)
      have eq3 : (upd G2 q3 (.tup ys)) q3 = some (.tup ys) := upd_same
      generalize upd G2 q3 (.tup ys) = G3 at sq3 eq3 ⊢
      refine ⟨(by show 6 ≤ sizeLine; decide), fun q4 nq4 => ?_⟩
      have sq4 := same_new nq4 (.lst [V.non, V.ref q1, V.ref q2, V.int 0, V.str "", V.ref q3])
      have eq4 : (upd G3 q4 (.lst [V.non, V.ref q1, V.ref q2, V.int 0, V.str "", V.ref q3])) q4 = some (.lst [V.non, V.ref q1, V.ref q2, V.int 0, V.str "", V.ref q3]) := upd_same
      generalize upd G3 q4 (.lst [V.non, V.ref q1, V.ref q2, V.int 0, V.str "", V.ref q3]) = G4 at sq4 eq4 ⊢
      have U4 := U2.trans (sq3.trans sq4)
      have B10 := B9.same U4
      have hl10 := U4 _ _ hl9
      have eq1 := ((sq2.trans sq3).trans sq4) _ _ eq1
      have eq2 := (sq3.trans sq4) _ _ eq2
      have eq3 := sq4 _ _ eq3
      have nq4l : q4 ≠ l := fun e => by
        rw [e, hl10] at eq4
        cases eq4
      refine ⟨_, rfl, l, z4, 6, rfl, hl10, by decide, by decide, fun dd' z5 d0 d6 => ?_⟩
      obtain ⟨wv, wd, ew, dw, pw⟩ : ∃ wv wd, atI [V.non, V.ref q1, V.ref q2, V.int 0, V.str "", V.ref q3] dd' = some wv ∧ Dz.Dz K G4 (fun a => a = l ∨ a = F ∨ a = A' ∨ a = B' ∨ a = C') wv wd ∧ Pd wd := by
        have : dd' = 0 ∨ dd' = 1 ∨ dd' = 2 ∨ dd' = 3 ∨ dd' = 4 ∨ dd' = 5 := by omega
        rcases this with rfl | rfl | rfl | rfl | rfl | rfl
        · exact ⟨_, _, atI_nat (j := 0) rfl, .non, fNon⟩
        · exact ⟨_, _, atI_nat (j := 1) rfl, .tup (SqT.of eq1) .nil, pt [] (fun e he => by simp at he) (by decide)⟩
        · exact ⟨_, _, atI_nat (j := 2) rfl, .dct eq2 (exs (sq1.free nq2)), fDct⟩
        · exact ⟨_, _, atI_nat (j := 3) rfl, .int 0, fInt⟩
        · exact ⟨_, _, atI_nat (j := 4) rfl, .str "", fStr⟩
        · exact ⟨_, _, atI_nat (j := 5) rfl, .tup (SqT.of eq3) (dzy.same U4), pt dys its (by omega)⟩
      refine ⟨q4, _, dd', wv, rfl, rfl, SqL.of (by rw [upd_ne nq4l]; exact eq4), ew, ?_⟩
      have B11 := B10.but hl10 (SameB.upd (o := .lst [.int z5]))
      have dw11 := dw.cc (Ch.but hl10 (SameB.upd (o := .lst [.int z5])) (.inl rfl))
      refine ⟨_, rfl, _, rfl, F, _, part, pn, rfl, rfl, B11.hF, ixp, ?_⟩
      exact ⟨_, rfl, fin1 wv wd _ z5 B11 upd_same dw11 pw⟩
    · refine ⟨_, rfl, rfl, _, rfl, iteF ?_⟩
      refine ⟨_, rfl, rfl, _, rfl, iteT ?_⟩
      refine ⟨_, rfl, _, rfl, F, _, part, .ref Ap, rfl, rfl, SqL.of ((Same.refl H9) _ _ B9.hF), eAp, 1, rfl, Ap, ys, rfl, SqL.of hAp, fun q1 nq1 => ?_⟩
      have sq1 := same_new nq1 (.lst (cutV ys (some 1) none))
      have eq1 : (upd H9 q1 (.lst (cutV ys (some 1) none))) q1 = some (.lst (cutV ys (some 1) none)) := upd_same
      generalize upd H9 q1 (.lst (cutV ys (some 1) none)) = G1 at sq1 eq1 ⊢
      have B10 := B9.same sq1
      refine ⟨_, rfl, _, rfl, F, _, part, pn, rfl, rfl, B10.hF, ixp, ?_⟩
      have cl_ := (cutl (some 1) none).len
      have cl2 := cutV_length ys (some 1) none
      exact ⟨_, rfl, fin1 _ _ _ z4 B10 (sq1 _ _ hl9) (.lst eq1 (exs nq1) ((cutl (some 1) none).same sq1)) (pl _ (fun e he => its e (List.mem_of_mem_drop (List.mem_of_mem_take he))) (fun e => by have := y0 e; omega) (by omega))⟩
    · refine ⟨_, rfl, rfl, _, rfl, iteF ?_⟩
      refine ⟨_, rfl, rfl, _, rfl, iteF ?_⟩
      refine ⟨_, rfl, rfl, _, rfl, iteT ?_⟩
      refine ⟨_, rfl, _, rfl, F, _, part, .ref Ap, rfl, rfl, SqL.of ((Same.refl H9) _ _ B9.hF), eAp, _, rfl, _, rfl, F, _, part, .ref Ap, rfl, rfl, SqL.of ((Same.refl H9) _ _ B9.hF), eAp, 1, rfl, Ap, ys, rfl, SqL.of hAp, fun q1 nq1 => ?_⟩
      have sq1 := same_new nq1 (.lst (cutV ys none (some 1)))
      have eq1 : (upd H9 q1 (.lst (cutV ys none (some 1)))) q1 = some (.lst (cutV ys none (some 1))) := upd_same
      generalize upd H9 q1 (.lst (cutV ys none (some 1))) = G1 at sq1 eq1 ⊢
      refine ⟨(by show 2 ≤ sizeLine; decide), fun q2 nq2 => ?_⟩
      have sq2 := same_new nq2 (.lst [V.int 1, V.int 5])
      have eq2 : (upd G1 q2 (.lst [V.int 1, V.int 5])) q2 = some (.lst [V.int 1, V.int 5]) := upd_same
      generalize upd G1 q2 (.lst [V.int 1, V.int 5]) = G2 at sq2 eq2 ⊢
      have U2 := sq1.trans sq2
      have hl10 := U2 _ _ hl9
      have nq2l : q2 ≠ l := fun e => by
        rw [e, hl10] at eq2
        cases eq2
      have nq1l : q1 ≠ l := fun e => by
        rw [e, hl9] at nq1
        cases nq1
      refine ⟨_, rfl, l, z4, 2, rfl, hl10, by decide, by decide, fun dd' z5 d0 d2 => ?_⟩
      obtain ⟨kk, ek, k1, k5⟩ : ∃ kk : Nat, atI [V.int 1, V.int 5] dd' = some (V.int (kk : Int)) ∧ 1 ≤ kk ∧ kk ≤ 5 := by
        have : dd' = 0 ∨ dd' = 1 := by omega
        rcases this with rfl | rfl
        · exact ⟨1, atI_nat (j := 0) rfl, by decide, by decide⟩
        · exact ⟨5, atI_nat (j := 1) rfl, by decide, by decide⟩
      refine ⟨q2, _, dd', .int (kk : Int), rfl, rfl, SqL.of (by rw [upd_ne nq2l]; exact eq2), ek, ?_⟩
      have B10 := (B9.same U2).but hl10 (SameB.upd (o := .lst [.int z5]))
      have hl11 : (upd G2 l (.lst [.int z5])) l = some (.lst [.int z5]) := upd_same
      have eq1' : (upd G2 l (.lst [.int z5])) q1 = some (.lst (cutV ys none (some 1))) := by rw [upd_ne nq1l]; exact sq2 _ _ eq1
      generalize upd G2 l (.lst [.int z5]) = G3 at B10 hl11 eq1' ⊢
      obtain ⟨hAp10, dzy10⟩ := ptAt G3 B10
      have c1 : (cutV ys none (some 1)).length ≤ 1 := by
        unfold cutV
        rw [List.length_take]
        have : HT.sIx ys.length ys.length (some 1) ≤ 1 := by
          rw [show (some (1 : Int)) = some ((1 : Nat) : Int) from rfl, HT.sIx_nat]
          omega
        omega
      have rl : ((List.replicate (kk : Int).toNat (cutV ys none (some 1))).flatten).length ≤ 5 := by
        rw [List.length_flatten, List.map_replicate, List.sum_replicate_nat, Int.toNat_natCast]
        exact Nat.le_trans (Nat.mul_le_mul k5 c1) (by decide)
      refine ⟨q1, (kk : Int), _, rfl, rfl, eq1', by omega, by omega, ?_, fun q3 nq3 => ?_⟩
      · rw [Int.toNat_natCast]
        exact Nat.le_trans (Nat.mul_le_mul c1 k5) (by decide)
      have sq3 := same_new nq3 (.lst (List.replicate (kk : Int).toNat (cutV ys none (some 1))).flatten)
      have eq3 : (upd G3 q3 (.lst (List.replicate (kk : Int).toNat (cutV ys none (some 1))).flatten)) q3 = some (.lst (List.replicate (kk : Int).toNat (cutV ys none (some 1))).flatten) := upd_same
      generalize upd G3 q3 (.lst (List.replicate (kk : Int).toNat (cutV ys none (some 1))).flatten) = G4 at sq3 eq3 ⊢
      refine ⟨Ap, q3, ys, _, rfl, rfl, sq3 _ _ hAp10, eq3, ?_, fun q4 nq4 => ?_⟩
      · exact Nat.le_of_lt (small1000 (by omega))
      have sq4 := same_new nq4 (.lst (ys ++ (List.replicate (kk : Int).toNat (cutV ys none (some 1))).flatten))
      have eq4 : (upd G4 q4 (.lst (ys ++ (List.replicate (kk : Int).toNat (cutV ys none (some 1))).flatten))) q4 = some (.lst (ys ++ (List.replicate (kk : Int).toNat (cutV ys none (some 1))).flatten)) := upd_same
      generalize upd G4 q4 (.lst (ys ++ (List.replicate (kk : Int).toNat (cutV ys none (some 1))).flatten)) = G5 at sq4 eq4 ⊢
      have U5 := sq3.trans sq4
      have B11 := B10.same U5
      refine ⟨_, rfl, _, rfl, F, _, part, pn, rfl, rfl, B11.hF, ixp, ?_⟩
      have dzc : DzA K G5 (fun a => a = l ∨ a = F ∨ a = A' ∨ a = B' ∨ a = C') (cutV ys none (some 1)) ((dys.drop (HT.sIx ys.length 0 none)).take (HT.sIx ys.length ys.length (some 1) - HT.sIx ys.length 0 none)) := ((dzy10.same U5).drop _).take _
      have dzn := (dzy10.same U5).app (dzc.rep (kk : Int).toNat)
      have exq : ¬ (q4 = l ∨ q4 = F ∨ q4 = A' ∨ q4 = B' ∨ q4 = C') := by
        have f4 := sq3.free nq4
        rintro (h | h | h | h | h)
        · rw [h, hl11] at f4; cases f4
        · rw [h, B10.hF] at f4; cases f4
        · rw [h, B10.hA] at f4; cases f4
        · rw [h, B10.wB.1] at f4; cases f4
        · rw [h, B10.wC.1] at f4; cases f4
      have ln := dzn.len
      rw [List.length_append] at ln
      refine ⟨_, rfl, fin1 _ _ _ z5 B11 (U5 _ _ hl11) (.lst eq4 exq dzn) (pl _ (fun e he => ?_) (fun e => by have := y0 e; omega) (by omega))⟩
      rcases List.mem_append.mp he with he | he
      · exact its e he
      · obtain ⟨xs, hx, he⟩ := List.mem_flatten.mp he
        rw [List.eq_of_mem_replicate hx] at he
        exact its e (List.mem_of_mem_drop (List.mem_of_mem_take he))
    · refine ⟨_, rfl, rfl, _, rfl, iteF ?_⟩
      refine ⟨_, rfl, rfl, _, rfl, iteF ?_⟩
      refine ⟨_, rfl, rfl, _, rfl, iteF ?_⟩
      have p3s : part = 0 ∨ part = 1 ∨ part = 2 := by omega
      rcases p3s with rfl | rfl | rfl
      · obtain ⟨dj, ej, dzj⟩ := B9.dz.at_ (i := j) (v := cs[j]'(by rw [dz.len]; have := y0 rfl; omega)) (List.getElem?_eq_getElem _)
        have hjc : j < cs.length := by rw [dz.len]; have := y0 rfl; omega
        have hcj := hce dj (List.mem_of_getElem? ej)
        refine ⟨_, rfl, rfl, _, rfl, iteT ⟨_, rfl, rfl, _, rfl, iteT ?_⟩⟩
        refine ⟨_, rfl, F, _, 0, .ref A', rfl, rfl, SqL.of B9.hF, atI_nat (j := 0) rfl, _, rfl, A', cs, _, cs[j], rfl, rfl, SqL.of B9.hA, atI_nat (List.getElem?_eq_getElem hjc), _, cs[j], dj, rfl, dzj, hcj.sm.sh, fun G1 sq1 => ⟨_, rfl, ?_⟩⟩
        have B10 := B9.same sq1
        have hl10 := sq1 _ _ hl9
        cases er : ratD dj with
        | none =>
          refine iteF ?_
          refine ⟨_, rfl, rfl, _, rfl, iteF (iteF ?_)⟩
          refine ⟨_, rfl, rfl, _, rfl, iteF (iteF ?_)⟩
          refine ⟨_, rfl, rfl, _, rfl, iteF (iteF ?_)⟩
          obtain ⟨hAp10, _⟩ := ptAt G1 B10
          refine ⟨_, rfl, _, rfl, _, rfl, F, _, 0, .ref Ap, rfl, rfl, SqL.of B10.hF, eAp, _, rfl, Ap, ys, _, j, rfl, rfl, hAp10, ixj, ?_⟩
          exact ⟨_, rfl, fin2 j ov odd G1 z4 B10 hl10 (coW.same sq1) oIt⟩
        | some r =>
          refine iteT ?_
          obtain ⟨ad, ead, had, edd⟩ := (dzj.same sq1).rat er
          have hbr := hcj.fw r er
          refine ⟨_, rfl, F, _, 0, .ref A', rfl, rfl, SqL.of B10.hF, atI_nat (j := 0) rfl, _, rfl, A', cs, _, cs[j], rfl, rfl, SqL.of B10.hA, atI_nat (List.getElem?_eq_getElem hjc), ?_⟩
          rw [ead]
          refine ⟨(by show 2 ≤ sizeLine; decide), fun q1 nq1 => ?_⟩
          have sq1' := same_new nq1 (.tup [V.int 1, V.int 1])
          have eq1 : (upd G1 q1 (.tup [V.int 1, V.int 1])) q1 = some (.tup [V.int 1, V.int 1]) := upd_same
          generalize upd G1 q1 (.tup [V.int 1, V.int 1]) = G2 at sq1' eq1 ⊢
          refine ⟨(by show 2 ≤ sizeLine; decide), fun q2 nq2 => ?_⟩
          have sq2 := same_new nq2 (.tup [V.int 1, V.int 7])
          have eq2 : (upd G2 q2 (.tup [V.int 1, V.int 7])) q2 = some (.tup [V.int 1, V.int 7]) := upd_same
          generalize upd G2 q2 (.tup [V.int 1, V.int 7]) = G3 at sq2 eq2 ⊢
          refine ⟨1, rfl, ?_⟩
          refine ⟨(by show 2 ≤ sizeLine; decide), fun q3 nq3 => ?_⟩
          have sq3 := same_new nq3 (.tup [V.int (-1), V.int 7])
          have eq3 : (upd G3 q3 (.tup [V.int (-1), V.int 7])) q3 = some (.tup [V.int (-1), V.int 7]) := upd_same
          generalize upd G3 q3 (.tup [V.int (-1), V.int 7]) = G4 at sq3 eq3 ⊢
          refine ⟨(by show 3 ≤ sizeLine; decide), fun q4 nq4 => ?_⟩
          have sq4 := same_new nq4 (.lst [V.ref q1, V.ref q2, V.ref q3])
          have eq4 : (upd G4 q4 (.lst [V.ref q1, V.ref q2, V.ref q3])) q4 = some (.lst [V.ref q1, V.ref q2, V.ref q3]) := upd_same
          generalize upd G4 q4 (.lst [V.ref q1, V.ref q2, V.ref q3]) = G5 at sq4 eq4 ⊢
          have U5 := ((sq1'.trans sq2).trans sq3).trans sq4
          have hl11 := U5 _ _ hl10
          have nq4l : q4 ≠ l := fun e => by
            rw [e, hl11] at eq4
            cases eq4
          refine ⟨_, rfl, l, z4, 3, rfl, hl11, by decide, by decide, fun dd' z5 d0 d3 => ?_⟩
          obtain ⟨qa, qr, eqa, hqa, bqa⟩ : ∃ (qa : Addr) (qr : Rat), atI [V.ref q1, V.ref q2, V.ref q3] dd' = some (V.ref qa) ∧ SqT K G5 qa (rp qr) ∧ Bd 3 qr := by
            have : dd' = 0 ∨ dd' = 1 ∨ dd' = 2 := by omega
            rcases this with rfl | rfl | rfl
            · exact ⟨q1, 1, atI_nat (j := 0) rfl, SqT.of (((sq2.trans sq3).trans sq4) _ _ eq1), by unfold Bd; decide +kernel⟩
            · exact ⟨q2, mkRat 1 7, atI_nat (j := 1) rfl, SqT.of ((sq3.trans sq4) _ _ eq2), by unfold Bd; decide +kernel⟩
            · exact ⟨q3, mkRat (-1) 7, atI_nat (j := 2) rfl, SqT.of (by rw [rp_seventh]; exact sq4 _ _ eq3), by unfold Bd; decide +kernel⟩
          refine ⟨q4, _, dd', .ref qa, rfl, rfl, SqL.of (by rw [upd_ne nq4l]; exact eq4), eqa, ?_⟩
          have B11 := (B10.same U5).but hl11 (SameB.upd (o := .lst [.int z5]))
          have hl12 : (upd G5 l (.lst [.int z5])) l = some (.lst [.int z5]) := upd_same
          have had' : SqT K (upd G5 l (.lst [.int z5])) ad (rp r) := SameB.tup SameB.upd hl11 _ _ (seqT U5 had)
          have hqa' : SqT K (upd G5 l (.lst [.int z5])) qa (rp qr) := SameB.tup SameB.upd hl11 _ _ hqa
          generalize upd G5 l (.lst [.int z5]) = G6 at B11 hl12 had' hqa' ⊢
          refine ⟨ad, qa, r, qr, n, 3, rfl, had', hqa', hbr, bqa, by omega, fun q5 nq5 => ?_⟩
          have sq5 := same_new nq5 (.tup (rp (r - qr)))
          have eq5 : (upd G6 q5 (.tup (rp (r - qr)))) q5 = some (.tup (rp (r - qr))) := upd_same
          generalize upd G6 q5 (.tup (rp (r - qr))) = G7 at sq5 eq5 ⊢
          have B12 := B11.same sq5
          refine ⟨_, rfl, F, _, 0, .ref A', rfl, rfl, SqL.of B12.hF, atI_nat (j := 0) rfl, _, rfl, A', cs, _, j, rfl, rfl, B12.hA, (by unfold ixN; rw [if_pos (by omega), if_pos (by omega), Int.toNat_natCast]), ?_⟩
          have eA : A' = Ap := V.ref.inj (Option.some.inj ((show atI [V.ref A', V.ref B', V.ref C'] 0 = some (.ref A') from atI_nat (j := 0) rfl).symm.trans eAp))
          have ey : cs = ys := by
            have z := (ptAt G7 B12).1
            rw [← eA, B12.hA] at z
            have z := Option.some.inj z
            injection z
          have fin := fin2 j (.ref q5) (dR (r - qr)) G7 z5 B12 (sq5 _ _ hl12) (dz_dR (SqT.of eq5)) (cIt rfl _ (Fr.bd_sub hbr bqa))
          rw [← eA, ← ey] at fin
          exact ⟨_, rfl, fin⟩
      · refine ⟨_, rfl, rfl, _, rfl, iteT ⟨_, rfl, rfl, _, rfl, iteF (iteF ?_)⟩⟩
        refine ⟨_, rfl, rfl, _, rfl, iteF (iteF ?_)⟩
        refine ⟨_, rfl, rfl, _, rfl, iteF (iteF ?_)⟩
        refine ⟨_, rfl, rfl, _, rfl, iteF (iteF ?_)⟩
        refine ⟨_, rfl, _, rfl, _, rfl, F, _, 1, .ref Ap, rfl, rfl, SqL.of ((Same.refl H9) _ _ B9.hF), eAp, _, rfl, Ap, ys, _, j, rfl, rfl, hAp, ixj, ?_⟩
        exact ⟨_, rfl, fin2 j ov odd H9 z4 B9 hl9 coW oIt⟩
      · refine ⟨_, rfl, rfl, _, rfl, iteT ⟨_, rfl, rfl, _, rfl, iteF (iteF ?_)⟩⟩
        refine ⟨_, rfl, rfl, _, rfl, iteF (iteF ?_)⟩
        refine ⟨_, rfl, rfl, _, rfl, iteF (iteF ?_)⟩
        refine ⟨_, rfl, rfl, _, rfl, iteF (iteF ?_)⟩
        refine ⟨_, rfl, _, rfl, _, rfl, F, _, 2, .ref Ap, rfl, rfl, SqL.of ((Same.refl H9) _ _ B9.hF), eAp, _, rfl, Ap, ys, _, j, rfl, rfl, hAp, ixj, ?_⟩
        exact ⟨_, rfl, fin2 j ov odd H9 z4 B9 hl9 coW oIt⟩
    · refine ⟨_, rfl, rfl, _, rfl, iteF ?_⟩
      refine ⟨_, rfl, rfl, _, rfl, iteF ?_⟩
      refine ⟨_, rfl, rfl, _, rfl, iteF ?_⟩
      refine ⟨_, rfl, rfl, _, rfl, iteF (iteF ?_)⟩
      have p3s : part = 0 ∨ part = 1 ∨ part = 2 := by omega
      rcases p3s with rfl | rfl | rfl
      · refine ⟨_, rfl, rfl, _, rfl, iteT ⟨_, rfl, _, _, rfl, rfl, _, rfl, iteF ?_⟩⟩
        refine ⟨_, rfl, rfl, _, rfl, iteF (iteF ?_)⟩
        refine ⟨_, rfl, rfl, _, rfl, iteF (iteF ?_)⟩
        refine ⟨_, rfl, _, rfl, _, rfl, F, _, 0, .ref Ap, rfl, rfl, SqL.of ((Same.refl H9) _ _ B9.hF), eAp, _, rfl, Ap, ys, _, j, rfl, rfl, hAp, ixj, ?_⟩
        exact ⟨_, rfl, fin2 j ov odd H9 z4 B9 hl9 coW oIt⟩
      · have eA : B' = Ap := V.ref.inj (Option.some.inj ((show atI [V.ref A', V.ref B', V.ref C'] 1 = some (.ref B') from atI_nat (j := 1) rfl).symm.trans eAp))
        have ey : f1.map V.ref = ys := by
          have z := hAp
          rw [← eA, B9.wB.1] at z
          have z := Option.some.inj z
          injection z
        have hjf : j < f1.length := by
          rw [← ey, List.length_map] at hj
          exact hj
        have ejf : f1[j]? = some f1[j] := List.getElem?_eq_getElem hjf
        obtain ⟨rc, rq, u1, u2, u3⟩ := B9.wB.2.2 j _ ejf
        have rcl : rc.length = dd := by
          rw [u3.len]
          exact hhr rq (List.mem_of_getElem? u1)
        have ixr : atI ys (j : Int) = some (V.ref f1[j]) := by
          rw [← ey]
          exact atI_nat (by rw [List.getElem?_map, ejf]; rfl)
        have rcd : DzA K H9 (fun a => a = l ∨ a = F ∨ a = A' ∨ a = B' ∨ a = C') rc (rq.map dR) := frn_dz u3
        have rce : ∀ e ∈ rq.map dR, CeB 8 e := fun e he => by
          obtain ⟨q, _, rfl⟩ := List.mem_map.mp he
          exact ce_dR (few_dR u3 _ he q (ratD_dR q)) (by decide) (by decide)
        have rql : rq.length = dd := by rw [← u3.len]; exact rcl
        have rRo : ∀ {d : PyData}, RoB d → It d := rIt (by decide)
        refine ⟨_, rfl, rfl, _, rfl, iteT ⟨_, rfl, _, _, rfl, rfl, _, rfl, iteT ?_⟩⟩
        refine ⟨_, rfl, _, rfl, F, _, 1, .ref Ap, rfl, rfl, SqL.of ((Same.refl H9) _ _ B9.hF), eAp, _, rfl, Ap, ys, _, .ref f1[j], rfl, rfl, SqL.of ((Same.refl H9) _ _ hAp), ixr, ?_⟩
        refine ⟨(by show 0 ≤ sizeLine; decide), fun q1 nq1 => ?_⟩
        have sq1 := same_new nq1 (.lst [])
        have eq1 : (upd H9 q1 (.lst [])) q1 = some (.lst []) := upd_same
        generalize upd H9 q1 (.lst []) = G1 at sq1 eq1 ⊢
        refine ⟨_, rfl, 1, rfl, f1[j], rc, rfl, SqL.of (sq1 _ _ u2), fun q2 nq2 => ?_⟩
        have sq2 := same_new nq2 (.lst (cutV rc (some 1) none))
        have eq2 : (upd G1 q2 (.lst (cutV rc (some 1) none))) q2 = some (.lst (cutV rc (some 1) none)) := upd_same
        generalize upd G1 q2 (.lst (cutV rc (some 1) none)) = G2 at sq2 eq2 ⊢
        have U2 := sq1.trans sq2
        refine ⟨_, rfl, f1[j], 7, rc, rfl, rfl, U2 _ _ u2, by decide, by decide, ?_, fun q3 nq3 => ?_⟩
        · rw [rcl]
          exact Nat.le_of_lt (small1000 (by show dd * 7 ≤ 1000; omega))
        have sq3 := same_new nq3 (.lst (List.replicate (Int.toNat 7) rc).flatten)
        have eq3 : (upd G2 q3 (.lst (List.replicate (Int.toNat 7) rc).flatten)) q3 = some (.lst (List.replicate (Int.toNat 7) rc).flatten) := upd_same
        generalize upd G2 q3 (.lst (List.replicate (Int.toNat 7) rc).flatten) = G3 at sq3 eq3 ⊢
        have U3 := U2.trans sq3
        refine ⟨_, rfl, ?_⟩
        refine ⟨(by show 2 ≤ sizeLine; decide), fun q4 nq4 => ?_⟩
        have sq4 := same_new nq4 (.tup [V.int 1, V.int 1])
        have eq4 : (upd G3 q4 (.tup [V.int 1, V.int 1])) q4 = some (.tup [V.int 1, V.int 1]) := upd_same
        generalize upd G3 q4 (.tup [V.int 1, V.int 1]) = G4 at sq4 eq4 ⊢
        refine ⟨(by show 1 ≤ sizeLine; decide), fun q5 nq5 => ?_⟩
        have sq5 := same_new nq5 (.lst [V.ref q4])
        have eq5 : (upd G4 q5 (.lst [V.ref q4])) q5 = some (.lst [V.ref q4]) := upd_same
        generalize upd G4 q5 (.lst [V.ref q4]) = G5 at sq5 eq5 ⊢
        have U5 := U3.trans (sq4.trans sq5)
        refine ⟨f1[j], q5, rc, _, rfl, rfl, U5 _ _ u2, eq5, ?_, fun q6 nq6 => ?_⟩
        · rw [rcl]
          exact Nat.le_of_lt (small1000 (by show dd + 1 ≤ 1000; omega))
        have sq6 := same_new nq6 (.lst (rc ++ [V.ref q4]))
        have eq6 : (upd G5 q6 (.lst (rc ++ [V.ref q4]))) q6 = some (.lst (rc ++ [V.ref q4])) := upd_same
        generalize upd G5 q6 (.lst (rc ++ [V.ref q4])) = G6 at sq6 eq6 ⊢
        refine ⟨(by show 4 ≤ sizeLine; decide), fun q7 nq7 => ?_⟩
        have sq7 := same_new nq7 (.lst [V.ref q1, V.ref q2, V.ref q3, V.ref q6])
        have eq7 : (upd G6 q7 (.lst [V.ref q1, V.ref q2, V.ref q3, V.ref q6])) q7 = some (.lst [V.ref q1, V.ref q2, V.ref q3, V.ref q6]) := upd_same
        generalize upd G6 q7 (.lst [V.ref q1, V.ref q2, V.ref q3, V.ref q6]) = G7 at sq7 eq7 ⊢
        have U7 := U5.trans (sq6.trans sq7)
        have B10 := B9.same U7
        have hl10 := U7 _ _ hl9
        have nq7l : q7 ≠ l := fun e => by
          rw [e, hl10] at eq7
          cases eq7
        have rc7 := rcd.same U7
        refine ⟨_, rfl, l, z4, 4, rfl, hl10, by decide, by decide, fun dd' z5 d0 d4 => ?_⟩
        have c1 : Dz.Dz K G7 (fun a => a = l ∨ a = F ∨ a = A' ∨ a = B' ∨ a = C') (.ref q1) (.list []) := .lst ((sq2.trans (sq3.trans ((sq4.trans sq5).trans (sq6.trans sq7)))) _ _ eq1) (exs nq1) .nil
        have c2 : Dz.Dz K G7 (fun a => a = l ∨ a = F ∨ a = A' ∨ a = B' ∨ a = C') (.ref q2) _ := .lst ((sq3.trans ((sq4.trans sq5).trans (sq6.trans sq7))) _ _ eq2) (exs (sq1.free nq2)) ((rc7.drop (HT.sIx rc.length 0 (some 1))).take (HT.sIx rc.length rc.length none - HT.sIx rc.length 0 (some 1)))
        have c3 : Dz.Dz K G7 (fun a => a = l ∨ a = F ∨ a = A' ∨ a = B' ∨ a = C') (.ref q3) _ := .lst (((sq4.trans sq5).trans (sq6.trans sq7)) _ _ eq3) (exs (U2.free nq3)) (rc7.rep (Int.toNat 7))
        have c6 : Dz.Dz K G7 (fun a => a = l ∨ a = F ∨ a = A' ∨ a = B' ∨ a = C') (.ref q6) _ := .lst (sq7 _ _ eq6) (exs (U5.free nq6)) (rc7.app (.cons (dz_dR (q := 1) (SqT.of (((sq5.trans sq6).trans sq7) _ _ eq4))) .nil))
        obtain ⟨wv, wd, ew, dw, pw⟩ : ∃ wv wd, atI [V.ref q1, V.ref q2, V.ref q3, V.ref q6] dd' = some wv ∧ Dz.Dz K G7 (fun a => a = l ∨ a = F ∨ a = A' ∨ a = B' ∨ a = C') wv wd ∧ It wd := by
          have : dd' = 0 ∨ dd' = 1 ∨ dd' = 2 ∨ dd' = 3 := by omega
          rcases this with rfl | rfl | rfl | rfl
          · exact ⟨_, _, atI_nat (j := 0) rfl, c1, rRo (ro_row (fun e he => by simp at he) (by decide))⟩
          · exact ⟨_, _, atI_nat (j := 1) rfl, c2, rRo (ro_row (fun e he => rce e (List.mem_of_mem_drop (List.mem_of_mem_take he))) (by rw [List.length_take, List.length_drop, List.length_map]; omega))⟩
          · refine ⟨_, _, atI_nat (j := 2) rfl, c3, rRo (ro_row (fun e he => ?_) (by rw [List.length_flatten, List.map_replicate, List.sum_replicate_nat, List.length_map, rql]; show 7 * dd ≤ 60; omega))⟩
            obtain ⟨xs, hx, he⟩ := List.mem_flatten.mp he
            rw [List.eq_of_mem_replicate hx] at he
            exact rce e he
          · refine ⟨_, _, atI_nat (j := 3) rfl, c6, rRo (ro_row (fun e he => ?_) (by rw [List.length_append, List.length_map, rql]; show dd + 1 ≤ 60; omega))⟩
            rcases List.mem_append.mp he with he | he
            · exact rce e he
            · rw [List.mem_singleton.mp he]
              exact ce_dR Lw.bd_one (by decide) (by decide)
        refine ⟨q7, _, dd', wv, rfl, rfl, SqL.of (by rw [upd_ne nq7l]; exact eq7), ew, ?_⟩
        have B11 := B10.but hl10 (SameB.upd (o := .lst [.int z5]))
        have dw11 := dw.cc (Ch.but hl10 (SameB.upd (o := .lst [.int z5])) (.inl rfl))
        refine ⟨_, rfl, _, rfl, F, _, 1, .ref Ap, rfl, rfl, SqL.of ((Same.refl _) _ _ B11.hF), eAp, _, rfl, Ap, ys, _, j, rfl, rfl, (ptAt _ B11).1, ixj, ?_⟩
        exact ⟨_, rfl, fin2 j wv wd _ z5 B11 upd_same dw11 pw⟩
      · have eA : C' = Ap := V.ref.inj (Option.some.inj ((show atI [V.ref A', V.ref B', V.ref C'] 2 = some (.ref C') from atI_nat (j := 2) rfl).symm.trans eAp))
        have ey : f2.map V.ref = ys := by
          have z := hAp
          rw [← eA, B9.wC.1] at z
          have z := Option.some.inj z
          injection z
        have hjf : j < f2.length := by
          rw [← ey, List.length_map] at hj
          exact hj
        have ejf : f2[j]? = some f2[j] := List.getElem?_eq_getElem hjf
        obtain ⟨rc, rq, u1, u2, u3⟩ := B9.wC.2.2 j _ ejf
        have rcl : rc.length = dd := by
          rw [u3.len]
          exact htr rq (List.mem_of_getElem? u1)
        have ixr : atI ys (j : Int) = some (V.ref f2[j]) := by
          rw [← ey]
          exact atI_nat (by rw [List.getElem?_map, ejf]; rfl)
        have rcd : DzA K H9 (fun a => a = l ∨ a = F ∨ a = A' ∨ a = B' ∨ a = C') rc (rq.map dR) := frn_dz u3
        have rce : ∀ e ∈ rq.map dR, CeB 8 e := fun e he => by
          obtain ⟨q, _, rfl⟩ := List.mem_map.mp he
          exact ce_dR (few_dR u3 _ he q (ratD_dR q)) (by decide) (by decide)
        have rql : rq.length = dd := by rw [← u3.len]; exact rcl
        have rRo : ∀ {d : PyData}, RoB d → It d := rIt (by decide)
        refine ⟨_, rfl, rfl, _, rfl, iteT ⟨_, rfl, _, _, rfl, rfl, _, rfl, iteT ?_⟩⟩
        refine ⟨_, rfl, _, rfl, F, _, 2, .ref Ap, rfl, rfl, SqL.of ((Same.refl H9) _ _ B9.hF), eAp, _, rfl, Ap, ys, _, .ref f2[j], rfl, rfl, SqL.of ((Same.refl H9) _ _ hAp), ixr, ?_⟩
        refine ⟨(by show 0 ≤ sizeLine; decide), fun q1 nq1 => ?_⟩
        have sq1 := same_new nq1 (.lst [])
        have eq1 : (upd H9 q1 (.lst [])) q1 = some (.lst []) := upd_same
        generalize upd H9 q1 (.lst []) = G1 at sq1 eq1 ⊢
        refine ⟨_, rfl, 1, rfl, f2[j], rc, rfl, SqL.of (sq1 _ _ u2), fun q2 nq2 => ?_⟩
        have sq2 := same_new nq2 (.lst (cutV rc (some 1) none))
        have eq2 : (upd G1 q2 (.lst (cutV rc (some 1) none))) q2 = some (.lst (cutV rc (some 1) none)) := upd_same
        generalize upd G1 q2 (.lst (cutV rc (some 1) none)) = G2 at sq2 eq2 ⊢
        have U2 := sq1.trans sq2
        refine ⟨_, rfl, f2[j], 7, rc, rfl, rfl, U2 _ _ u2, by decide, by decide, ?_, fun q3 nq3 => ?_⟩
        · rw [rcl]
          exact Nat.le_of_lt (small1000 (by show dd * 7 ≤ 1000; omega))
        have sq3 := same_new nq3 (.lst (List.replicate (Int.toNat 7) rc).flatten)
        have eq3 : (upd G2 q3 (.lst (List.replicate (Int.toNat 7) rc).flatten)) q3 = some (.lst (List.replicate (Int.toNat 7) rc).flatten) := upd_same
        generalize upd G2 q3 (.lst (List.replicate (Int.toNat 7) rc).flatten) = G3 at sq3 eq3 ⊢
        have U3 := U2.trans sq3
        refine ⟨_, rfl, ?_⟩
        refine ⟨(by show 2 ≤ sizeLine; decide), fun q4 nq4 => ?_⟩
        have sq4 := same_new nq4 (.tup [V.int 1, V.int 1])
        have eq4 : (upd G3 q4 (.tup [V.int 1, V.int 1])) q4 = some (.tup [V.int 1, V.int 1]) := upd_same
        generalize upd G3 q4 (.tup [V.int 1, V.int 1]) = G4 at sq4 eq4 ⊢
        refine ⟨(by show 1 ≤ sizeLine; decide), fun q5 nq5 => ?_⟩
        have sq5 := same_new nq5 (.lst [V.ref q4])
        have eq5 : (upd G4 q5 (.lst [V.ref q4])) q5 = some (.lst [V.ref q4]) := upd_same
        generalize upd G4 q5 (.lst [V.ref q4]) = G5 at sq5 eq5 ⊢
        have U5 := U3.trans (sq4.trans sq5)
        refine ⟨f2[j], q5, rc, _, rfl, rfl, U5 _ _ u2, eq5, ?_, fun q6 nq6 => ?_⟩
        · rw [rcl]
          exact Nat.le_of_lt (small1000 (by show dd + 1 ≤ 1000; omega))
        have sq6 := same_new nq6 (.lst (rc ++ [V.ref q4]))
        have eq6 : (upd G5 q6 (.lst (rc ++ [V.ref q4]))) q6 = some (.lst (rc ++ [V.ref q4])) := upd_same
        generalize upd G5 q6 (.lst (rc ++ [V.ref q4])) = G6 at sq6 eq6 ⊢
        refine ⟨(by show 4 ≤ sizeLine; decide), fun q7 nq7 => ?_⟩
        have sq7 := same_new nq7 (.lst [V.ref q1, V.ref q2, V.ref q3, V.ref q6])
        have eq7 : (upd G6 q7 (.lst [V.ref q1, V.ref q2, V.ref q3, V.ref q6])) q7 = some (.lst [V.ref q1, V.ref q2, V.ref q3, V.ref q6]) := upd_same
        generalize upd G6 q7 (.lst [V.ref q1, V.ref q2, V.ref q3, V.ref q6]) = G7 at sq7 eq7 ⊢
        have U7 := U5.trans (sq6.trans sq7)
        have B10 := B9.same U7
        have hl10 := U7 _ _ hl9
        have nq7l : q7 ≠ l := fun e => by
          rw [e, hl10] at eq7
          cases eq7
        have rc7 := rcd.same U7
        refine ⟨_, rfl, l, z4, 4, rfl, hl10, by decide, by decide, fun dd' z5 d0 d4 => ?_⟩
        have c1 : Dz.Dz K G7 (fun a => a = l ∨ a = F ∨ a = A' ∨ a = B' ∨ a = C') (.ref q1) (.list []) := .lst ((sq2.trans (sq3.trans ((sq4.trans sq5).trans (sq6.trans sq7)))) _ _ eq1) (exs nq1) .nil
        have c2 : Dz.Dz K G7 (fun a => a = l ∨ a = F ∨ a = A' ∨ a = B' ∨ a = C') (.ref q2) _ := .lst ((sq3.trans ((sq4.trans sq5).trans (sq6.trans sq7))) _ _ eq2) (exs (sq1.free nq2)) ((rc7.drop (HT.sIx rc.length 0 (some 1))).take (HT.sIx rc.length rc.length none - HT.sIx rc.length 0 (some 1)))
        have c3 : Dz.Dz K G7 (fun a => a = l ∨ a = F ∨ a = A' ∨ a = B' ∨ a = C') (.ref q3) _ := .lst (((sq4.trans sq5).trans (sq6.trans sq7)) _ _ eq3) (exs (U2.free nq3)) (rc7.rep (Int.toNat 7))
        have c6 : Dz.Dz K G7 (fun a => a = l ∨ a = F ∨ a = A' ∨ a = B' ∨ a = C') (.ref q6) _ := .lst (sq7 _ _ eq6) (exs (U5.free nq6)) (rc7.app (.cons (dz_dR (q := 1) (SqT.of (((sq5.trans sq6).trans sq7) _ _ eq4))) .nil))
        obtain ⟨wv, wd, ew, dw, pw⟩ : ∃ wv wd, atI [V.ref q1, V.ref q2, V.ref q3, V.ref q6] dd' = some wv ∧ Dz.Dz K G7 (fun a => a = l ∨ a = F ∨ a = A' ∨ a = B' ∨ a = C') wv wd ∧ It wd := by
          have : dd' = 0 ∨ dd' = 1 ∨ dd' = 2 ∨ dd' = 3 := by omega
          rcases this with rfl | rfl | rfl | rfl
          · exact ⟨_, _, atI_nat (j := 0) rfl, c1, rRo (ro_row (fun e he => by simp at he) (by decide))⟩
          · exact ⟨_, _, atI_nat (j := 1) rfl, c2, rRo (ro_row (fun e he => rce e (List.mem_of_mem_drop (List.mem_of_mem_take he))) (by rw [List.length_take, List.length_drop, List.length_map]; omega))⟩
          · refine ⟨_, _, atI_nat (j := 2) rfl, c3, rRo (ro_row (fun e he => ?_) (by rw [List.length_flatten, List.map_replicate, List.sum_replicate_nat, List.length_map, rql]; show 7 * dd ≤ 60; omega))⟩
            obtain ⟨xs, hx, he⟩ := List.mem_flatten.mp he
            rw [List.eq_of_mem_replicate hx] at he
            exact rce e he
          · refine ⟨_, _, atI_nat (j := 3) rfl, c6, rRo (ro_row (fun e he => ?_) (by rw [List.length_append, List.length_map, rql]; show dd + 1 ≤ 60; omega))⟩
            rcases List.mem_append.mp he with he | he
            · exact rce e he
            · rw [List.mem_singleton.mp he]
              exact ce_dR Lw.bd_one (by decide) (by decide)
        refine ⟨q7, _, dd', wv, rfl, rfl, SqL.of (by rw [upd_ne nq7l]; exact eq7), ew, ?_⟩
        have B11 := B10.but hl10 (SameB.upd (o := .lst [.int z5]))
        have dw11 := dw.cc (Ch.but hl10 (SameB.upd (o := .lst [.int z5])) (.inl rfl))
        refine ⟨_, rfl, _, rfl, F, _, 2, .ref Ap, rfl, rfl, SqL.of ((Same.refl _) _ _ B11.hF), eAp, _, rfl, Ap, ys, _, j, rfl, rfl, (ptAt _ B11).1, ixj, ?_⟩
        exact ⟨_, rfl, fin2 j wv wd _ z5 B11 upd_same dw11 pw⟩
    · refine ⟨_, rfl, rfl, _, rfl, iteF ?_⟩
      refine ⟨_, rfl, rfl, _, rfl, iteF ?_⟩
      refine ⟨_, rfl, rfl, _, rfl, iteF ?_⟩
      refine ⟨_, rfl, rfl, _, rfl, iteF (iteF ?_)⟩
      refine ⟨_, rfl, rfl, _, rfl, iteF (iteF ?_)⟩
      have p3s : part = 0 ∨ part = 1 ∨ part = 2 := by omega
      rcases p3s with rfl | rfl | rfl
      · refine ⟨_, rfl, rfl, _, rfl, iteT ⟨_, rfl, _, _, rfl, rfl, _, rfl, iteF ?_⟩⟩
        refine ⟨_, rfl, rfl, _, rfl, iteF (iteF ?_)⟩
        refine ⟨_, rfl, _, rfl, _, rfl, F, _, 0, .ref Ap, rfl, rfl, SqL.of ((Same.refl H9) _ _ B9.hF), eAp, _, rfl, Ap, ys, _, j, rfl, rfl, hAp, ixj, ?_⟩
        exact ⟨_, rfl, fin2 j ov odd H9 z4 B9 hl9 coW oIt⟩
      · have eA : B' = Ap := V.ref.inj (Option.some.inj ((show atI [V.ref A', V.ref B', V.ref C'] 1 = some (.ref B') from atI_nat (j := 1) rfl).symm.trans eAp))
        have ey : f1.map V.ref = ys := by
          have z := hAp
          rw [← eA, B9.wB.1] at z
          have z := Option.some.inj z
          injection z
        have hjf : j < f1.length := by
          rw [← ey, List.length_map] at hj
          exact hj
        have ejf : f1[j]? = some f1[j] := List.getElem?_eq_getElem hjf
        obtain ⟨rc, rq, u1, u2, u3⟩ := B9.wB.2.2 j _ ejf
        have rcl : rc.length = dd := by
          rw [u3.len]
          exact hhr rq (List.mem_of_getElem? u1)
        have ixr : atI ys (j : Int) = some (V.ref f1[j]) := by
          rw [← ey]
          exact atI_nat (by rw [List.getElem?_map, ejf]; rfl)
        have rcd : DzA K H9 (fun a => a = l ∨ a = F ∨ a = A' ∨ a = B' ∨ a = C') rc (rq.map dR) := frn_dz u3
        have rce : ∀ e ∈ rq.map dR, CeB 8 e := fun e he => by
          obtain ⟨q, _, rfl⟩ := List.mem_map.mp he
          exact ce_dR (few_dR u3 _ he q (ratD_dR q)) (by decide) (by decide)
        have rql : rq.length = dd := by rw [← u3.len]; exact rcl
        have rRo : ∀ {d : PyData}, RoB d → It d := rIt (by decide)
        refine ⟨_, rfl, rfl, _, rfl, iteT ⟨_, rfl, _, _, rfl, rfl, _, rfl, iteT ?_⟩⟩
        refine ⟨_, rfl, _, rfl, F, _, 1, .ref Ap, rfl, rfl, SqL.of ((Same.refl H9) _ _ B9.hF), eAp, _, rfl, Ap, ys, _, .ref f1[j], rfl, rfl, SqL.of ((Same.refl H9) _ _ hAp), ixr, f1[j], rc, rfl, .inl ⟨SqL.of u2, fun q1 nq1 => ?_⟩⟩
        have sq1 := same_new nq1 (.tup rc)
        have eq1 : (upd H9 q1 (.tup rc)) q1 = some (.tup rc) := upd_same
        generalize upd H9 q1 (.tup rc) = G1 at sq1 eq1 ⊢
        refine fun q2 nq2 => ?_
        have sq2 := same_new nq2 (.dK [])
        have eq2 : (upd G1 q2 (.dK [])) q2 = some (.dK []) := upd_same
        generalize upd G1 q2 (.dK []) = G2 at sq2 eq2 ⊢
        refine ⟨(by show 4 ≤ sizeLine; decide), fun q3 nq3 => ?_⟩
        have sq3 := same_new nq3 (.lst [V.non, V.ref q1, V.ref q2, V.int 5])
        have eq3 : (upd G2 q3 (.lst [V.non, V.ref q1, V.ref q2, V.int 5])) q3 = some (.lst [V.non, V.ref q1, V.ref q2, V.int 5]) := upd_same
        generalize upd G2 q3 (.lst [V.non, V.ref q1, V.ref q2, V.int 5]) = G3 at sq3 eq3 ⊢
        have U3 := (sq1.trans sq2).trans sq3
        have B10 := B9.same U3
        have hl10 := U3 _ _ hl9
        have nq3l : q3 ≠ l := fun e => by
          rw [e, hl10] at eq3
          cases eq3
        refine ⟨_, rfl, l, z4, 4, rfl, hl10, by decide, by decide, fun dd' z5 d0 d4 => ?_⟩
        have c1 : Dz.Dz K G3 (fun a => a = l ∨ a = F ∨ a = A' ∨ a = B' ∨ a = C') (.ref q1) _ := .tup (SqT.of ((sq2.trans sq3) _ _ eq1)) (rcd.same U3)
        have c2 : Dz.Dz K G3 (fun a => a = l ∨ a = F ∨ a = A' ∨ a = B' ∨ a = C') (.ref q2) _ := .dct (sq3 _ _ eq2) (exs (sq1.free nq2))
        obtain ⟨wv, wd, ew, dw, pw⟩ : ∃ wv wd, atI [V.non, V.ref q1, V.ref q2, V.int 5] dd' = some wv ∧ Dz.Dz K G3 (fun a => a = l ∨ a = F ∨ a = A' ∨ a = B' ∨ a = C') wv wd ∧ It wd := by
          have : dd' = 0 ∨ dd' = 1 ∨ dd' = 2 ∨ dd' = 3 := by omega
          rcases this with rfl | rfl | rfl | rfl
          · exact ⟨_, _, atI_nat (j := 0) rfl, .non, rRo ⟨sz_non.mono (by decide) (by decide), fun es e => by cases e⟩⟩
          · exact ⟨_, _, atI_nat (j := 1) rfl, c1, rRo (ro_tup rce (by rw [List.length_map]; omega))⟩
          · exact ⟨_, _, atI_nat (j := 2) rfl, c2, rRo ⟨sz_dct.mono (by decide) (by decide), fun es e => by cases e⟩⟩
          · exact ⟨_, _, atI_nat (j := 3) rfl, .int 5, rRo ⟨⟨by decide +kernel, by decide, by decide +kernel⟩, fun es e => by cases e⟩⟩
        refine ⟨q3, _, dd', wv, rfl, rfl, SqL.of (by rw [upd_ne nq3l]; exact eq3), ew, ?_⟩
        have B11 := B10.but hl10 (SameB.upd (o := .lst [.int z5]))
        have dw11 := dw.cc (Ch.but hl10 (SameB.upd (o := .lst [.int z5])) (.inl rfl))
        refine ⟨_, rfl, _, rfl, F, _, 1, .ref Ap, rfl, rfl, SqL.of ((Same.refl _) _ _ B11.hF), eAp, _, rfl, Ap, ys, _, j, rfl, rfl, (ptAt _ B11).1, ixj, ?_⟩
        exact ⟨_, rfl, fin2 j wv wd _ z5 B11 upd_same dw11 pw⟩
      · have eA : C' = Ap := V.ref.inj (Option.some.inj ((show atI [V.ref A', V.ref B', V.ref C'] 2 = some (.ref C') from atI_nat (j := 2) rfl).symm.trans eAp))
        have ey : f2.map V.ref = ys := by
          have z := hAp
          rw [← eA, B9.wC.1] at z
          have z := Option.some.inj z
          injection z
        have hjf : j < f2.length := by
          rw [← ey, List.length_map] at hj
          exact hj
        have ejf : f2[j]? = some f2[j] := List.getElem?_eq_getElem hjf
        obtain ⟨rc, rq, u1, u2, u3⟩ := B9.wC.2.2 j _ ejf
        have rcl : rc.length = dd := by
          rw [u3.len]
          exact htr rq (List.mem_of_getElem? u1)
        have ixr : atI ys (j : Int) = some (V.ref f2[j]) := by
          rw [← ey]
          exact atI_nat (by rw [List.getElem?_map, ejf]; rfl)
        have rcd : DzA K H9 (fun a => a = l ∨ a = F ∨ a = A' ∨ a = B' ∨ a = C') rc (rq.map dR) := frn_dz u3
        have rce : ∀ e ∈ rq.map dR, CeB 8 e := fun e he => by
          obtain ⟨q, _, rfl⟩ := List.mem_map.mp he
          exact ce_dR (few_dR u3 _ he q (ratD_dR q)) (by decide) (by decide)
        have rql : rq.length = dd := by rw [← u3.len]; exact rcl
        have rRo : ∀ {d : PyData}, RoB d → It d := rIt (by decide)
        refine ⟨_, rfl, rfl, _, rfl, iteT ⟨_, rfl, _, _, rfl, rfl, _, rfl, iteT ?_⟩⟩
        refine ⟨_, rfl, _, rfl, F, _, 2, .ref Ap, rfl, rfl, SqL.of ((Same.refl H9) _ _ B9.hF), eAp, _, rfl, Ap, ys, _, .ref f2[j], rfl, rfl, SqL.of ((Same.refl H9) _ _ hAp), ixr, f2[j], rc, rfl, .inl ⟨SqL.of u2, fun q1 nq1 => ?_⟩⟩
        have sq1 := same_new nq1 (.tup rc)
        have eq1 : (upd H9 q1 (.tup rc)) q1 = some (.tup rc) := upd_same
        generalize upd H9 q1 (.tup rc) = G1 at sq1 eq1 ⊢
        refine fun q2 nq2 => ?_
        have sq2 := same_new nq2 (.dK [])
        have eq2 : (upd G1 q2 (.dK [])) q2 = some (.dK []) := upd_same
        generalize upd G1 q2 (.dK []) = G2 at sq2 eq2 ⊢
        refine ⟨(by show 4 ≤ sizeLine; decide), fun q3 nq3 => ?_⟩
        have sq3 := same_new nq3 (.lst [V.non, V.ref q1, V.ref q2, V.int 5])
        have eq3 : (upd G2 q3 (.lst [V.non, V.ref q1, V.ref q2, V.int 5])) q3 = some (.lst [V.non, V.ref q1, V.ref q2, V.int 5]) := upd_same
        generalize upd G2 q3 (.lst [V.non, V.ref q1, V.ref q2, V.int 5]) = G3 at sq3 eq3 ⊢
        have U3 := (sq1.trans sq2).trans sq3
        have B10 := B9.same U3
        have hl10 := U3 _ _ hl9
        have nq3l : q3 ≠ l := fun e => by
          rw [e, hl10] at eq3
          cases eq3
        refine ⟨_, rfl, l, z4, 4, rfl, hl10, by decide, by decide, fun dd' z5 d0 d4 => ?_⟩
        have c1 : Dz.Dz K G3 (fun a => a = l ∨ a = F ∨ a = A' ∨ a = B' ∨ a = C') (.ref q1) _ := .tup (SqT.of ((sq2.trans sq3) _ _ eq1)) (rcd.same U3)
        have c2 : Dz.Dz K G3 (fun a => a = l ∨ a = F ∨ a = A' ∨ a = B' ∨ a = C') (.ref q2) _ := .dct (sq3 _ _ eq2) (exs (sq1.free nq2))
        obtain ⟨wv, wd, ew, dw, pw⟩ : ∃ wv wd, atI [V.non, V.ref q1, V.ref q2, V.int 5] dd' = some wv ∧ Dz.Dz K G3 (fun a => a = l ∨ a = F ∨ a = A' ∨ a = B' ∨ a = C') wv wd ∧ It wd := by
          have : dd' = 0 ∨ dd' = 1 ∨ dd' = 2 ∨ dd' = 3 := by omega
          rcases this with rfl | rfl | rfl | rfl
          · exact ⟨_, _, atI_nat (j := 0) rfl, .non, rRo ⟨sz_non.mono (by decide) (by decide), fun es e => by cases e⟩⟩
          · exact ⟨_, _, atI_nat (j := 1) rfl, c1, rRo (ro_tup rce (by rw [List.length_map]; omega))⟩
          · exact ⟨_, _, atI_nat (j := 2) rfl, c2, rRo ⟨sz_dct.mono (by decide) (by decide), fun es e => by cases e⟩⟩
          · exact ⟨_, _, atI_nat (j := 3) rfl, .int 5, rRo ⟨⟨by decide +kernel, by decide, by decide +kernel⟩, fun es e => by cases e⟩⟩
        refine ⟨q3, _, dd', wv, rfl, rfl, SqL.of (by rw [upd_ne nq3l]; exact eq3), ew, ?_⟩
        have B11 := B10.but hl10 (SameB.upd (o := .lst [.int z5]))
        have dw11 := dw.cc (Ch.but hl10 (SameB.upd (o := .lst [.int z5])) (.inl rfl))
        refine ⟨_, rfl, _, rfl, F, _, 2, .ref Ap, rfl, rfl, SqL.of ((Same.refl _) _ _ B11.hF), eAp, _, rfl, Ap, ys, _, j, rfl, rfl, (ptAt _ B11).1, ixj, ?_⟩
        exact ⟨_, rfl, fin2 j wv wd _ z5 B11 upd_same dw11 pw⟩
    · refine ⟨_, rfl, rfl, _, rfl, iteF ?_⟩
      refine ⟨_, rfl, rfl, _, rfl, iteF ?_⟩
      refine ⟨_, rfl, rfl, _, rfl, iteF ?_⟩
      refine ⟨_, rfl, rfl, _, rfl, iteF (iteF ?_)⟩
      refine ⟨_, rfl, rfl, _, rfl, iteF (iteF ?_)⟩
      refine ⟨_, rfl, rfl, _, rfl, iteF (iteF ?_)⟩
      have p3s : part = 0 ∨ part = 1 ∨ part = 2 := by omega
      rcases p3s with rfl | rfl | rfl
      · refine ⟨_, rfl, rfl, _, rfl, iteT ⟨_, rfl, _, _, rfl, rfl, _, rfl, iteF ?_⟩⟩
        refine ⟨_, rfl, _, rfl, _, rfl, F, _, 0, .ref Ap, rfl, rfl, SqL.of ((Same.refl H9) _ _ B9.hF), eAp, _, rfl, Ap, ys, _, j, rfl, rfl, hAp, ixj, ?_⟩
        exact ⟨_, rfl, fin2 j ov odd H9 z4 B9 hl9 coW oIt⟩
      · have eA : B' = Ap := V.ref.inj (Option.some.inj ((show atI [V.ref A', V.ref B', V.ref C'] 1 = some (.ref B') from atI_nat (j := 1) rfl).symm.trans eAp))
        have ey : f1.map V.ref = ys := by
          have z := hAp
          rw [← eA, B9.wB.1] at z
          have z := Option.some.inj z
          injection z
        have hjf : j < f1.length := by
          rw [← ey, List.length_map] at hj
          exact hj
        have ejf : f1[j]? = some f1[j] := List.getElem?_eq_getElem hjf
        obtain ⟨rc, rq, u1, u2, u3⟩ := B9.wB.2.2 j _ ejf
        have rcl : rc.length = dd := by
          rw [u3.len]
          exact hhr rq (List.mem_of_getElem? u1)
        have ixr : atI ys (j : Int) = some (V.ref f1[j]) := by
          rw [← ey]
          exact atI_nat (by rw [List.getElem?_map, ejf]; rfl)
        have rcd : DzA K H9 (fun a => a = l ∨ a = F ∨ a = A' ∨ a = B' ∨ a = C') rc (rq.map dR) := frn_dz u3
        have rce : ∀ e ∈ rq.map dR, CeB 8 e := fun e he => by
          obtain ⟨q, _, rfl⟩ := List.mem_map.mp he
          exact ce_dR (few_dR u3 _ he q (ratD_dR q)) (by decide) (by decide)
        have rql : rq.length = dd := by rw [← u3.len]; exact rcl
        have rRo : ∀ {d : PyData}, RoB d → It d := rIt (by decide)
        refine ⟨_, rfl, rfl, _, rfl, iteT ⟨_, rfl, _, _, rfl, rfl, _, rfl, iteT ?_⟩⟩
        refine ⟨_, rfl, _, rfl, _, rfl, F, _, 1, .ref Ap, rfl, rfl, SqL.of ((Same.refl H9) _ _ B9.hF), eAp, _, rfl, Ap, ys, _, .ref f1[j], rfl, rfl, SqL.of ((Same.refl H9) _ _ hAp), ixr, _, rfl, _, rfl, _, rfl, F, _, 1, .ref Ap, rfl, rfl, SqL.of ((Same.refl H9) _ _ B9.hF), eAp, _, rfl, Ap, ys, _, .ref f1[j], rfl, rfl, SqL.of ((Same.refl H9) _ _ hAp), ixr, f1[j], rc, rfl, .inl (SqL.of u2), l, z4, _, rfl, hl9, ?_, ?_, fun dd' z5 d0 d5 => ?_⟩
        · show (0 : Int) < (rc.length : Int)
          omega
        · show ((rc.length : Int)).natAbs < 2 ^ 200
          exact Nat.lt_of_lt_of_le (show _ < 64 by omega) (by decide)
        have rI := B9.i1 _ (List.getElem_mem hjf)
        have B10 := B9.but hl9 (SameB.upd (o := .lst [.int z5]))
        have co10 := co9.cc (Ch.but hl9 (SameB.upd (o := .lst [.int z5])) (.inl rfl))
        have w26 : (upd H9 l (.lst [.int z5])) f1[j] = some (.lst rc) := by rw [upd_ne rI.1]; exact u2
        have rcd10 : DzA K (upd H9 l (.lst [.int z5])) (fun a => a = l ∨ a = f1[j]) rc (rq.map dR) := frn_dz (u3.keep (SameB.tup SameB.upd hl9))
        have hl10 : (upd H9 l (.lst [.int z5])) l = some (.lst [.int z5]) := upd_same
        generalize upd H9 l (.lst [.int z5]) = G1 at B10 co10 w26 rcd10 hl10 ⊢
        refine ⟨f1[j], rc, dd', dd'.toNat, rfl, rfl, w26, ?_, ?_⟩
        · unfold ixN
          rw [if_pos d0, if_pos d5]
        refine ⟨_, rfl, ?_⟩
        have coR : Dz.Dz K G1 (fun a => a = l ∨ a = f1[j]) ov odd := Dz.sub (fun a h => h.elim (fun h => .inl h) fun h => .inr (.inr (.inr (.inr (.inr (.inl (by rw [h]; exact List.getElem_mem hjf))))))) _ _ co10
        have nr : ∀ x ∈ f1, x ≠ f1[j] → Dz.Dz K (upd G1 f1[j] (.lst (rc.set dd'.toNat ov))) (fun a => a = l) (.ref x) (.list []) ∨ True := fun _ _ _ => .inr trivial
        obtain ⟨wds, own_, wok, wlen⟩ : ∃ wds, DzA K (upd G1 f1[j] (.lst (rc.set dd'.toNat ov))) (fun a => a = l) (f1.map V.ref) wds ∧ (∀ e ∈ wds, RoB e) ∧ (f1.map V.ref).length = wds.length := by
          have each : ∀ x ∈ f1, ∃ d, Dz.Dz K (upd G1 f1[j] (.lst (rc.set dd'.toNat ov))) (fun a => a = l) (.ref x) d ∧ RoB d := fun x hx => by
            by_cases e : x = f1[j]
            · subst e
              refine ⟨.list ((rq.map dR).set dd'.toNat odd), .lst upd_same rI.1 (DzA.sub (fun a h => .inl h) _ _ ((rcd10.set dd'.toNat coR).cc (Ch.put (ex := fun a => a = l ∨ a = f1[j]) w26 (.inr rfl)))), ro_row (fun e he => ?_) (by rw [List.length_set, List.length_map]; omega)⟩
              rcases List.mem_or_eq_of_mem_set he with he | rfl
              · exact rce e he
              · exact ce
            · obtain ⟨i, hi, ei⟩ := List.getElem_of_mem hx
              obtain ⟨xc, xq, x1, x2, x3⟩ := B10.wB.2.2 i x (by rw [List.getElem?_eq_getElem hi, ei])
              have xq6 := hhr xq (List.mem_of_getElem? x1)
              refine ⟨.list (xq.map dR), .lst (by rw [upd_ne e]; exact x2) (B10.i1 x hx).1 (DzA.sub (fun a h => .inl h) _ _ ((frn_dz (ex := fun a => a = l ∨ a = f1[j]) x3).cc (Ch.put (ex := fun a => a = l ∨ a = f1[j]) w26 (.inr rfl)))), ro_row (fun e he => ?_) (by rw [List.length_map]; omega)⟩
              obtain ⟨q, _, rfl⟩ := List.mem_map.mp he
              exact ce_dR (few_dR x3 _ he q (ratD_dR q)) (by decide) (by decide)
          have go : ∀ xs : List Addr, (∀ x ∈ xs, x ∈ f1) → ∃ wds, DzA K (upd G1 f1[j] (.lst (rc.set dd'.toNat ov))) (fun a => a = l) (xs.map V.ref) wds ∧ ∀ e ∈ wds, RoB e := by
            intro xs
            induction xs with
            | nil => intro _; exact ⟨[], .nil, fun e he => by simp at he⟩
            | cons x xs ih =>
              intro hx
              obtain ⟨d, g1, g2⟩ := each x (hx x (List.mem_cons_self ..))
              obtain ⟨wds, g3, g4⟩ := ih fun y hy => hx y (List.mem_cons_of_mem _ hy)
              refine ⟨d :: wds, .cons g1 g3, fun e he => ?_⟩
              rcases List.mem_cons.mp he with rfl | he
              · exact g2
              · exact g4 e he
          obtain ⟨wds, g3, g4⟩ := go f1 fun _ h => h
          exact ⟨wds, g3, g4, g3.len⟩
        have own : Dz.Dz K (upd G1 f1[j] (.lst (rc.set dd'.toNat ov))) (fun a => a = l) (.ref B') (.list wds) := .lst (by rw [upd_ne (fun e => rI.2.2.2.1 e.symm)]; exact B10.wB.1) nB own_
        refine q F (.ref A') (.ref B') (.ref C') (.list ds) (.list wds) (dRows tss) z5 _ (fun b u hb e => ?_) ?_ ?_ B10.nF (Dz.sub (fun a h => .inl h) _ _ ((B10.dA (ex := fun a => a = l ∨ a = f1[j]) (fun a h => h.elim (fun h => .inl h) fun h => .inr (.inr (.inr (.inr (.inr (.inl (by rw [h]; exact List.getElem_mem hjf))))))) (fun h => h.elim B10.nA (fun e => rI.2.2.1 e.symm))).cc (Ch.put (ex := fun a => a = l ∨ a = f1[j]) w26 (.inr rfl)))) own (Dz.sub (fun a h => .inl h) _ _ ((B10.dC (ex := fun a => a = l ∨ a = f1[j]) (fun h => h.elim nC (fun e => rI.2.2.2.2.1 e.symm)) (fun x hx h => h.elim (B10.i2 x hx).1 (fun e => rI.2.2.2.2.2 (by rw [← e]; exact hx)))).cc (Ch.put (ex := fun a => a = l ∨ a = f1[j]) w26 (.inr rfl)))) p0A lA (p1_list wok (by rw [← wlen, List.length_map]; omega)) p1C
        · rw [upd_ne (ne_of_none e (B10.g1 _ (List.getElem_mem hjf)))]
          exact B10.k b u hb e
        · rw [upd_ne (Ne.symm rI.1)]
          exact hl10
        · rw [upd_ne (Ne.symm rI.2.1)]
          exact B10.hF
      · have eA : C' = Ap := V.ref.inj (Option.some.inj ((show atI [V.ref A', V.ref B', V.ref C'] 2 = some (.ref C') from atI_nat (j := 2) rfl).symm.trans eAp))
        have ey : f2.map V.ref = ys := by
          have z := hAp
          rw [← eA, B9.wC.1] at z
          have z := Option.some.inj z
          injection z
        have hjf : j < f2.length := by
          rw [← ey, List.length_map] at hj
          exact hj
        have ejf : f2[j]? = some f2[j] := List.getElem?_eq_getElem hjf
        obtain ⟨rc, rq, u1, u2, u3⟩ := B9.wC.2.2 j _ ejf
        have rcl : rc.length = dd := by
          rw [u3.len]
          exact htr rq (List.mem_of_getElem? u1)
        have ixr : atI ys (j : Int) = some (V.ref f2[j]) := by
          rw [← ey]
          exact atI_nat (by rw [List.getElem?_map, ejf]; rfl)
        have rcd : DzA K H9 (fun a => a = l ∨ a = F ∨ a = A' ∨ a = B' ∨ a = C') rc (rq.map dR) := frn_dz u3
        have rce : ∀ e ∈ rq.map dR, CeB 8 e := fun e he => by
          obtain ⟨q, _, rfl⟩ := List.mem_map.mp he
          exact ce_dR (few_dR u3 _ he q (ratD_dR q)) (by decide) (by decide)
        have rql : rq.length = dd := by rw [← u3.len]; exact rcl
        have rRo : ∀ {d : PyData}, RoB d → It d := rIt (by decide)
        refine ⟨_, rfl, rfl, _, rfl, iteT ⟨_, rfl, _, _, rfl, rfl, _, rfl, iteT ?_⟩⟩
        refine ⟨_, rfl, _, rfl, _, rfl, F, _, 2, .ref Ap, rfl, rfl, SqL.of ((Same.refl H9) _ _ B9.hF), eAp, _, rfl, Ap, ys, _, .ref f2[j], rfl, rfl, SqL.of ((Same.refl H9) _ _ hAp), ixr, _, rfl, _, rfl, _, rfl, F, _, 2, .ref Ap, rfl, rfl, SqL.of ((Same.refl H9) _ _ B9.hF), eAp, _, rfl, Ap, ys, _, .ref f2[j], rfl, rfl, SqL.of ((Same.refl H9) _ _ hAp), ixr, f2[j], rc, rfl, .inl (SqL.of u2), l, z4, _, rfl, hl9, ?_, ?_, fun dd' z5 d0 d5 => ?_⟩
        · show (0 : Int) < (rc.length : Int)
          omega
        · show ((rc.length : Int)).natAbs < 2 ^ 200
          exact Nat.lt_of_lt_of_le (show _ < 64 by omega) (by decide)
        have rI := B9.i2 _ (List.getElem_mem hjf)
        have B10 := B9.but hl9 (SameB.upd (o := .lst [.int z5]))
        have co10 := co9.cc (Ch.but hl9 (SameB.upd (o := .lst [.int z5])) (.inl rfl))
        have w26 : (upd H9 l (.lst [.int z5])) f2[j] = some (.lst rc) := by rw [upd_ne rI.1]; exact u2
        have rcd10 : DzA K (upd H9 l (.lst [.int z5])) (fun a => a = l ∨ a = f2[j]) rc (rq.map dR) := frn_dz (u3.keep (SameB.tup SameB.upd hl9))
        have hl10 : (upd H9 l (.lst [.int z5])) l = some (.lst [.int z5]) := upd_same
        generalize upd H9 l (.lst [.int z5]) = G1 at B10 co10 w26 rcd10 hl10 ⊢
        refine ⟨f2[j], rc, dd', dd'.toNat, rfl, rfl, w26, ?_, ?_⟩
        · unfold ixN
          rw [if_pos d0, if_pos d5]
        refine ⟨_, rfl, ?_⟩
        have coR : Dz.Dz K G1 (fun a => a = l ∨ a = f2[j]) ov odd := Dz.sub (fun a h => h.elim (fun h => .inl h) fun h => .inr (.inr (.inr (.inr (.inr (.inr (by rw [h]; exact List.getElem_mem hjf))))))) _ _ co10
        have nr : ∀ x ∈ f2, x ≠ f2[j] → Dz.Dz K (upd G1 f2[j] (.lst (rc.set dd'.toNat ov))) (fun a => a = l) (.ref x) (.list []) ∨ True := fun _ _ _ => .inr trivial
        obtain ⟨wds, own_, wok, wlen⟩ : ∃ wds, DzA K (upd G1 f2[j] (.lst (rc.set dd'.toNat ov))) (fun a => a = l) (f2.map V.ref) wds ∧ (∀ e ∈ wds, RoB e) ∧ (f2.map V.ref).length = wds.length := by
          have each : ∀ x ∈ f2, ∃ d, Dz.Dz K (upd G1 f2[j] (.lst (rc.set dd'.toNat ov))) (fun a => a = l) (.ref x) d ∧ RoB d := fun x hx => by
            by_cases e : x = f2[j]
            · subst e
              refine ⟨.list ((rq.map dR).set dd'.toNat odd), .lst upd_same rI.1 (DzA.sub (fun a h => .inl h) _ _ ((rcd10.set dd'.toNat coR).cc (Ch.put (ex := fun a => a = l ∨ a = f2[j]) w26 (.inr rfl)))), ro_row (fun e he => ?_) (by rw [List.length_set, List.length_map]; omega)⟩
              rcases List.mem_or_eq_of_mem_set he with he | rfl
              · exact rce e he
              · exact ce
            · obtain ⟨i, hi, ei⟩ := List.getElem_of_mem hx
              obtain ⟨xc, xq, x1, x2, x3⟩ := B10.wC.2.2 i x (by rw [List.getElem?_eq_getElem hi, ei])
              have xq6 := htr xq (List.mem_of_getElem? x1)
              refine ⟨.list (xq.map dR), .lst (by rw [upd_ne e]; exact x2) (B10.i2 x hx).1 (DzA.sub (fun a h => .inl h) _ _ ((frn_dz (ex := fun a => a = l ∨ a = f2[j]) x3).cc (Ch.put (ex := fun a => a = l ∨ a = f2[j]) w26 (.inr rfl)))), ro_row (fun e he => ?_) (by rw [List.length_map]; omega)⟩
              obtain ⟨q, _, rfl⟩ := List.mem_map.mp he
              exact ce_dR (few_dR x3 _ he q (ratD_dR q)) (by decide) (by decide)
          have go : ∀ xs : List Addr, (∀ x ∈ xs, x ∈ f2) → ∃ wds, DzA K (upd G1 f2[j] (.lst (rc.set dd'.toNat ov))) (fun a => a = l) (xs.map V.ref) wds ∧ ∀ e ∈ wds, RoB e := by
            intro xs
            induction xs with
            | nil => intro _; exact ⟨[], .nil, fun e he => by simp at he⟩
            | cons x xs ih =>
              intro hx
              obtain ⟨d, g1, g2⟩ := each x (hx x (List.mem_cons_self ..))
              obtain ⟨wds, g3, g4⟩ := ih fun y hy => hx y (List.mem_cons_of_mem _ hy)
              refine ⟨d :: wds, .cons g1 g3, fun e he => ?_⟩
              rcases List.mem_cons.mp he with rfl | he
              · exact g2
              · exact g4 e he
          obtain ⟨wds, g3, g4⟩ := go f2 fun _ h => h
          exact ⟨wds, g3, g4, g3.len⟩
        have own : Dz.Dz K (upd G1 f2[j] (.lst (rc.set dd'.toNat ov))) (fun a => a = l) (.ref C') (.list wds) := .lst (by rw [upd_ne (fun e => rI.2.2.2.2 e.symm)]; exact B10.wC.1) nC own_
        refine q F (.ref A') (.ref B') (.ref C') (.list ds) (dRows hss) (.list wds) z5 _ (fun b u hb e => ?_) ?_ ?_ B10.nF (Dz.sub (fun a h => .inl h) _ _ ((B10.dA (ex := fun a => a = l ∨ a = f2[j]) (fun a h => h.elim (fun h => .inl h) fun h => .inr (.inr (.inr (.inr (.inr (.inr (by rw [h]; exact List.getElem_mem hjf))))))) (fun h => h.elim B10.nA (fun e => rI.2.2.1 e.symm))).cc (Ch.put (ex := fun a => a = l ∨ a = f2[j]) w26 (.inr rfl)))) (Dz.sub (fun a h => .inl h) _ _ ((B10.dB (ex := fun a => a = l ∨ a = f2[j]) (fun h => h.elim nB (fun e => rI.2.2.2.1 e.symm)) (fun x hx h => h.elim (B10.i1 x hx).1 (fun e => (B10.i1 x hx).2.2.2.2.2 (by rw [e]; exact List.getElem_mem hjf)))).cc (Ch.put (ex := fun a => a = l ∨ a = f2[j]) w26 (.inr rfl)))) own p0A lA p1B (p1_list wok (by rw [← wlen, List.length_map]; omega))
        · rw [upd_ne (ne_of_none e (B10.g2 _ (List.getElem_mem hjf)))]
          exact B10.k b u hb e
        · rw [upd_ne (Ne.symm rI.1)]
          exact hl10
        · rw [upd_ne (Ne.symm rI.2.1)]
          exact B10.hF
    · refine ⟨_, rfl, rfl, _, rfl, iteF ?_⟩
      refine ⟨_, rfl, rfl, _, rfl, iteF ?_⟩
      refine ⟨_, rfl, rfl, _, rfl, iteF ?_⟩
      refine ⟨_, rfl, rfl, _, rfl, iteF (iteF ?_)⟩
      refine ⟨_, rfl, rfl, _, rfl, iteF (iteF ?_)⟩
      refine ⟨_, rfl, rfl, _, rfl, iteF (iteF ?_)⟩
      refine ⟨_, rfl, rfl, _, rfl, iteF (iteF ?_)⟩
      refine ⟨_, rfl, _, rfl, _, rfl, F, _, part, .ref Ap, rfl, rfl, SqL.of ((Same.refl H9) _ _ B9.hF), eAp, _, rfl, Ap, ys, _, j, rfl, rfl, hAp, ixj, ?_⟩
      exact ⟨_, rfl, fin2 j ov odd H9 z4 B9 hl9 coW oIt⟩
end
end K5

set_option Elab.async false
set_option linter.all false
set_option maxRecDepth 100000
set_option maxHeartbeats 16000000
namespace K5
open PySem PySem.Spec PyProof.Rows L2 BX EXB Co Ru
open Dz Cs
open Rs (Rsp Rv Ret tYes_of dV datR Flat Okr spShares spRowsL spTotal spCopied eqv_dR)
open Fr (Bd)
def spLaw (K : PySem.W.Frag) : Sp := fun vs H Q _ => ∃ (a : Addr) (ns : List Int), vs = [.ref a] ∧ SqL K H a (ns.map V.int) ∧ ns.length ≤ 63 ∧ ∀ H', Q (.bl true) H'
/-! ### answers as data -/
def datA : Ans → PyData
  | none => .none
  | some (p, n) => .tuple [.str p, dV n]
def OkA : Ans → Prop
  | none => True
  | some (p, n) => (PyData.str p).canLay0 = true ∧ Flat n
theorem RvT.dp {K : PySem.W.Frag} {H : Hp} {v : V} {r : Ans} (ok : OkA r) (h : RvT H v r) : Dp K H v (datA r) := by
  cases r with
  | none => cases (show v = .non from h); exact .non
  | some pn =>
    obtain ⟨p, n⟩ := pn
    obtain ⟨a, rfl, ha⟩ := h
    exact .tup (SqT.of ha) (.cons (.str _) (.cons (Rs.flat_dp ok.2) .nil))
theorem datA_lay {r : Ans} (ok : OkA r) : (datA r).canLay0 = true := by
  cases r with
  | none => rfl
  | some pn =>
    obtain ⟨p, n⟩ := pn
    show ((PyData.str p).canLay0 && ((dV n).canLay0 && true)) = true
    rw [ok.1, ok.2.2]
    rfl
theorem datA_sh {r : Ans} (ok : OkA r) : SeqAt.shaped (datA r) = true := by
  unfold SeqAt.shaped
  rw [datA_lay ok, Bool.true_and]
  refine decide_eq_true ?_
  cases r with
  | none => decide
  | some pn =>
    obtain ⟨p, n⟩ := pn
    have : PyData.depth (dV n) = 0 := by cases n <;> rfl
    show max 0 (max (PyData.depth (dV n)) 0) + 1 ≤ 64
    rw [this]
    decide
theorem badS_flat {d : PyData} {n : V} (h : badS d = some n) : Flat n := by
  unfold badS at h
  split at h
  · unfold numS at h
    split at h
    · cases h
      exact Rs.fl_int _
    · split at h
      · cases h
      · cases h
        exact Rs.fl_non
  · cases h
    exact Rs.fl_non
theorem badG_flat {d : PyData} {ww lo hi : Int} {n : V} (h : badG d ww lo hi = some n) : Flat n := by
  unfold badG at h
  split at h
  · cases e : firstWrongZ (itemsD d) 0 lo hi with
    | none => rw [e] at h; cases h
    | some j => rw [e] at h; cases h; exact Rs.fl_int _
  · cases h
    exact Rs.fl_non
theorem okA_or {p : Str} {o : Option V} {r : Ans} (hp : (PyData.str p).canLay0 = true) (ho : ∀ n, o = some n → Flat n) (hr : OkA r) : OkA (orP p o r) := by
  cases o with
  | none => exact hr
  | some n => exact ⟨hp, ho n rfl⟩
theorem okA_C (d0 d1 d2 : PyData) : OkA (badC d0 d1 d2) :=
  okA_or (by decide +kernel) (fun n h => badS_flat h) (okA_or (by decide +kernel) (fun n h => badG_flat h) (okA_or (by decide +kernel) (fun n h => badG_flat h) True.intro))
theorem okA_W (ww : Int) (d : PyData) : OkA (ansW ww d) := by
  unfold ansW
  cases e : badW ww d with
  | none => exact True.intro
  | some n =>
    refine ⟨by decide +kernel, ?_⟩
    unfold badW at e
    split at e
    · exact badS_flat e
    · cases e
      exact Rs.fl_non
theorem P0.few {n : Nat} {d : PyData} (h : P0 n d) {m : Nat} (l : n ≤ m) : Few m (itemsD d) := fun e he q eq => by
  cases d with
  | list es => exact (((h.it es rfl).2 e he).fw q eq).mono l
  | _ => cases he
theorem P0.ce {n : Nat} {d : PyData} (h : P0 n d) (l : n ≤ 1000) : ∀ e ∈ itemsD d, CeD e := fun e he => by
  cases d with
  | list es => exact ((h.it es rfl).2 e he).ce l
  | _ => cases he
theorem P1.ce {d : PyData} (h : P1 d) : ∀ r ∈ itemsD d, ∀ e ∈ itemsD r, CeD e := fun r hr e he => by
  cases d with
  | list es =>
    cases r with
    | list rs => exact (((h.it es rfl) _ hr).it rs rfl e he).ce (by decide)
    | _ => cases he
  | _ => cases hr
theorem P1.few {d : PyData} (h : P1 d) : ∀ r ∈ itemsD d, Few 1000 (itemsD r) := fun r hr e he q eq => (h.ce r hr e he).fw q eq
theorem P0.mono {n m : Nat} {d : PyData} (h : P0 n d) (l : n ≤ m) : P0 m d := ⟨h.sm, fun es e => ⟨(h.it es e).1, fun x hx => ((h.it es e).2 x hx).mono l⟩⟩
/-- the good parts as data -/
abbrev dG (qs : List Rat) (hss tss : List (List Rat)) : PyData := .list [dS qs, dRows hss, dRows tss]
theorem parts_dz {K : PySem.W.Frag} {H : Hp} {l P : Addr} {z : Int} {qs : List Rat} {hss tss : List (List Rat)} (h : Lw.PartsAt K H P qs hss tss) (hl : H l = some (.lst [.int z])) : Dz.Dz K H (fun a => a = l) (.ref P) (dG qs hss tss) := by
  obtain ⟨A, B, C, cs, rh, rt, e1, e2, e3, e4, e5⟩ := h
  refine .lst e1 (fun e => ?_) (.cons (.lst e2 (fun e => ?_) (frn_dz e3)) (.cons (.lst e4.1 (Rs.ne_num hl e4) (rows_dz e4.2 fun x hx e => Rs.nr_num hl e4.2 (by rw [← e]; exact hx))) (.cons (.lst e5.1 (Rs.ne_num hl e5) (rows_dz e5.2 fun x hx e => Rs.nr_num hl e5.2 (by rw [← e]; exact hx))) .nil)))
  · rw [e, hl] at e1
    cases e1
  · rw [e, hl] at e2
    cases e2
    exact Lw.frn_num e3
theorem parts_p {K : PySem.W.Frag} {H : Hp} {P : Addr} {qs : List Rat} {hss tss : List (List Rat)} {ww dd : Nat} (h : Lw.PartsAt K H P qs hss tss) (g : GoodC qs hss tss ww dd) : P0 8 (dS qs) ∧ P1 (dRows hss) ∧ P1 (dRows tss) := by
  obtain ⟨A, B, C, cs, rh, rt, e1, e2, e3, e4, e5⟩ := h
  have w5 := g.w5
  refine ⟨p0_list (fun e he => ?_) (by rw [List.length_map, g.sh.1]; omega), p1_list (ro_dRows e4.2 g.hr g.d6) (by rw [List.length_map, g.hl]; omega), p1_list (ro_dRows e5.2 g.tr g.d6) (by rw [List.length_map, g.tl]; omega)⟩
  obtain ⟨q, _, rfl⟩ := List.mem_map.mp he
  exact ce_dR (few_dR e3 _ he q (ratD_dR q)) (by decide) (by decide)
theorem sz_three {a b c : PyData} (ha : Sz a 3 70000) (hb : Sz b 3 70000) (hc : Sz c 3 70000) : Sz (.list [a, b, c]) 4 300000 :=
  sz_list (k := 3) (b := 70000) (n := 3) (fun d hd => by
    rcases List.mem_cons.mp hd with rfl | hd
    · exact ha
    rcases List.mem_cons.mp hd with rfl | hd
    · exact hb
    rw [List.mem_singleton.mp hd]
    exact hc) (by show 3 ≤ 3; decide) (by decide)
theorem sz_two {a b : PyData} (ha : Sz a 4 300000) (hb : Sz b 4 300000) : Sz (.list [a, b]) 5 700000 :=
  sz_list (k := 4) (b := 300000) (n := 2) (fun d hd => by
    rcases List.mem_cons.mp hd with rfl | hd
    · exact ha
    rw [List.mem_singleton.mp hd]
    exact hb) (by show 2 ≤ 2; decide) (by decide)
theorem sz_line {d : PyData} (h : Sz d 5 700000) : d.showable = true ∧ d.depth ≤ 64 ∧ d.shown.length ≤ sizeLine := ⟨h.sh, Nat.le_trans h.dp (by decide), Nat.le_trans h.sz (by rw [sizeLine_eq]; decide)⟩
section
variable {P : Program} {w : World} {K : PySem.W.Frag} {mg : Str → Option Value} {base : Heap}
/-- Case(..) of good parts -/
theorem mk_caseG {C CN A B' C' : Addr} {H : Hp} {cs : List V} {rh rt : List Addr} {qs : List Rat} {hss tss : List (List Rat)} {ww dd : Nat} {Q : Addr → Hp → Prop} (e2 : H A = some (.lst cs)) (e3 : FrN K H 8 cs qs) (e4 : RwL K H B' rh hss 8) (e5 : RwL K H C' rt tss 8) (g : GoodC qs hss tss ww dd) (q : ∀ x H', Same H H' → H x = none → IsCase K H' C x qs hss tss 16 → Q x H') :
    ∀ x dx, H x = none → H dx = none → dx ≠ x → spCInit K C CN [.ref x, .ref A, .ref B', .ref C'] (upd (upd H dx (.own x)) x (.ins C dx [])) (fun v H2 => v = .non ∧ Q x H2) E0 := by
  intro x dx hx hdx hne
  have s1 := same_new hdx (.own x)
  have hx1 : (upd H dx (.own x)) x = none := by rw [upd_ne (Ne.symm hne)]; exact hx
  have s2 := s1.trans (same_new hx1 (.ins C dx []))
  refine ⟨fun _ => False, 16, x, dx, .ref A, .ref B', .ref C', dS qs, dRows hss, dRows tss, rfl, upd_same, .lst (s2 _ _ e2) (fun z => z) ((frn_dz e3).same s2), .lst (s2 _ _ e4.1) (fun z => z) ((rows_dz e4.2 fun _ _ z => z).same s2), .lst (s2 _ _ e5.1) (fun z => z) ((rows_dz e5.2 fun _ _ z => z).same s2), by decide, few_mono (few_dR e3) (by decide), fun d hd => few_mono (few_rows e4.2 d hd) (by decide), fun d hd => few_mono (few_rows e5.2 d hd) (by decide), fun p r er => ?_, fun _ sa ha ta cs' rh' rt' qs' hss' tss' H' kp hx' g1 g2 g3 g4 i1 i2 i3 => ⟨rfl, ?_⟩⟩
  · rw [badC_good g] at er
    cases er
  · have j1 := dS_inj i1
    have j2 := dRows_inj i2
    have j3 := dRows_inj i3
    subst j1 j2 j3
    exact q x H' (fun b ob e => kp b ob (ne_of_none e hx) (s2 _ _ e)) hx ⟨dx, sa, ha, ta, cs', rh', rt', hx', g1, g2, g3, g4⟩
structure Defs (P : Program) (w : World) (K : PySem.W.Frag) (mg : Str → Option Value) (base : Heap) (C fI CN : Addr) (k : Nat) : Prop where
  T : CaT K mg C fI
  init : ∃ fd, FnOk P w K mg base (L2.CX P w) k fI fd ["self", "shares", "hearer", "teller"] (spCInit K C CN) ∧ Binds K fd ["self", "shares", "hearer", "teller"] []
  left : ∃ f fd, FnOk P w K mg base CX0 k f fd ["_law_cell"] spLeft ∧ PySem.W.keepIn K (.ref f) = true ∧ Binds K fd ["_law_cell"] [] ∧ mg "_law_left" = some (.ref f)
  dig : ∃ f fd, FnOk P w K mg base CX0 k f fd ["_law_left_here", "_law_many"] spDigit ∧ PySem.W.keepIn K (.ref f) = true ∧ Binds K fd ["_law_left_here", "_law_many"] [] ∧ mg "_law_digit" = some (.ref f)
  parts : ∃ f fd, FnOk P w K mg base CX0 k f fd ["_law_left_here", "_law_most_worlds", "_law_most_deeds"] (Lw.spParts K) ∧ PySem.W.keepIn K (.ref f) = true ∧ Binds K fd ["_law_left_here", "_law_most_worlds", "_law_most_deeds"] [] ∧ mg "_law_parts" = some (.ref f)
  bent : ∃ f fd, FnOk P w K mg base CX0 k f fd ["_law_left_here", "_law_parts_here"] (spBent K) ∧ PySem.W.keepIn K (.ref f) = true ∧ Binds K fd ["_law_left_here", "_law_parts_here"] [] ∧ mg "_law_bent" = some (.ref f)
  told : ∃ f fd, FnOk P w K mg base CX0 k f fd ["_law_parts_here"] (spToldC K) ∧ PySem.W.keepIn K (.ref f) = true ∧ Binds K fd ["_law_parts_here"] [] ∧ mg "_law_told" = some (.ref f)
  due : ∃ f fd, FnOk P w K mg base CX0 k f fd ["_law_parts_here"] (spDue K) ∧ PySem.W.keepIn K (.ref f) = true ∧ Binds K fd ["_law_parts_here"] [] ∧ mg "_law_due" = some (.ref f)
  shdue : ∃ f fd, FnOk P w K mg base CX0 k f fd ["_law_thing"] (spShDue K) ∧ PySem.W.keepIn K (.ref f) = true ∧ Binds K fd ["_law_thing"] [] ∧ mg "_law_shares_due" = some (.ref f)
  toldw : ∃ f fd, FnOk P w K mg base CX0 k f fd ["_law_case", "_law_shares_here"] (spToldW K C) ∧ PySem.W.keepIn K (.ref f) = true ∧ Binds K fd ["_law_case", "_law_shares_here"] [] ∧ mg "_law_told_with" = some (.ref f)
theorem scLaw : FnScope ["_law_script", "_law_cell", "_law_left_here", "_law_good", "_law_bent_here", "_law_kept", "_law_due_here"] ["_law_script"] (defScope sLaw) := ⟨rfl, rfl, rfl, by decide +kernel, rfl, by decide +kernel, by decide +kernel⟩
theorem ok_law {C fI CN f : Addr} {fd : FuncData} {k : Nat} (F : Fun K "law" "law" sLaw f fd) (D : Defs P w K mg base C fI CN k) (B : Blt mg) : FnOkG P w K mg base CX0 (k + 2) f fd ["_law_script"] (spLaw K) := by
  obtain ⟨fdI, GI, bI⟩ := D.init
  obtain ⟨f1, fd1, G1, k1, b1, g1⟩ := D.left
  obtain ⟨f2, fd2, G2, k2, b2, g2⟩ := D.dig
  obtain ⟨f3, fd3, G3, k3, b3, g3⟩ := D.parts
  obtain ⟨f4, fd4, G4, k4, b4, g4⟩ := D.bent
  obtain ⟨f5, fd5, G5, k5, b5, g5⟩ := D.told
  obtain ⟨f6, fd6, G6, k6, b6, g6⟩ := D.due
  obtain ⟨f7, fd7, G7, k7, b7, g7⟩ := D.shdue
  obtain ⟨f8, fd8, G8, k8, b8, g8⟩ := D.toldw
  refine okG F scLaw (fun vs H Q E h => ?_) (fun cdv A outer s H vs Q E hr hgd h => ?_)
  · obtain ⟨a, ns, rfl, _⟩ := h
    rfl
  · obtain ⟨a, ns, rfl, hS, hlen, q⟩ := h
    have hk : Room k _ := hr.mono (by omega)
    have hu : (A.deeper (envOfC "law" (defScope sLaw) s.heap.objs.size f cdv)).units + 80 < cLine := by have := hr.un; omega
    refine ⟨_, (pss_cons (ps_for PassesOwn.never rfl (pi_list (pe_op op_cat (pe_slice sl_list (pv 0) po_none (po_some pe_int)) (pe_lst (pa_cons pe_int pa_nil)))) (pg_name (i := 1) scLaw.nd rfl (.inl rfl)) (pss_cons (ps_set (i := 2) scLaw.nd rfl (.inl rfl) (pe_call G1 hk (by rfl) g1 k1 b1 .nil pass0 (pa_cons (pv 1) pa_nil)))
      (pss_cons (ps_set (i := 3) scLaw.nd rfl (.inl rfl) (pe_call G3 hk (by rfl) g3 k3 b3 .nil pass0 (pa_cons (pv 2) (pa_cons pe_int (pa_cons pe_int pa_nil)))))
      (pss_cons (ps_set (i := 4) scLaw.nd rfl (.inl rfl) (pe_call G4 hk (by rfl) g4 k4 b4 .nil pass0 (pa_cons (pv 2) (pa_cons (pv 3) pa_nil))))
      (pss_cons (ps_if (PW.pt (pw_and (pt_cmpR op_eq (pe_call G2 hk (by rfl) g2 k2 b2 .nil pass0 (pa_cons (pv 2) (pa_cons pe_int pa_nil))) pe_int (nomark _)) (pw_and (pt_val (pe_callB call_isi (by rfl) B.isinstance_ (by decide +kernel) (pa_cons (pe_ix ix_list (pv 4) pe_int (fun _ _ => rfl)) (pa_cons (pe_bltn (v := .ty "list") (by rfl) B.list_ (by decide +kernel) rfl) pa_nil)))) (pw_and1 (pt_cmpR (op_neD hk.units) (pe_ix ix_list (pv 4) pe_int (fun _ _ => rfl)) (pe_lst pa_nil) (nomark _)))))) (pss_one (ps_set (i := 4) scLaw.nd rfl (.inl rfl) (pe_call G4 hk (by rfl) g4 k4 b4 .nil pass0 (pa_cons (pv 2) (pa_cons (pe_lst (pa_cons (pe_ix ix_list (pv 4) pe_int (fun _ _ => rfl)) (pa_cons (pe_ix ix_list (pv 3) pe_int (fun _ _ => rfl)) (pa_cons (pe_ix ix_list (pv 3) pe_int (fun _ _ => rfl)) pa_nil)))) pa_nil))))) pss_nil)
      (pss_cons (ps_set (i := 5) scLaw.nd rfl (.inl rfl) (pe_callB (call_reprZ hgd hu) (by rfl) B.repr_ (by decide +kernel) (pa_cons (pe_lst (pa_cons (pv 3) (pa_cons (pv 4) pa_nil))) pa_nil)))
      (pss_cons (ps_if (PW.pt (pw_or (pt_cmpR (op_neD hk.units) (pe_call G5 hk (by rfl) g5 k5 b5 .nil pass0 (pa_cons (pv 4) pa_nil)) (pe_call G6 hk (by rfl) g6 k6 b6 .nil pass0 (pa_cons (pv 4) pa_nil)) (nomark _)) (pw_or (pt_cmpR op_notN (pe_call G5 hk (by rfl) g5 k5 b5 .nil pass0 (pa_cons (pv 3) pa_nil)) pe_non (nomark _)) (pw_or1 (pt_cmpR op_ne (pe_callB (call_reprZ hgd hu) (by rfl) B.repr_ (by decide +kernel) (pa_cons (pe_lst (pa_cons (pv 3) (pa_cons (pv 4) pa_nil))) pa_nil)) (pv 5) (nomark _)))))) (pss_one (ps_ret pe_bl)) pss_nil)
      (pss_cons (ps_set (i := 6) scLaw.nd rfl (.inl rfl) (pe_call G7 hk (by rfl) g7 k7 b7 .nil pass0 (pa_cons (pe_ix ix_list (pv 4) pe_int (fun _ _ => rfl)) pa_nil)))
      (pss_cons (ps_if (PW.pt (pw_or (PW.pt (pw_and (pt_cmpR op_isN (pv 6) pe_non (nomark _)) (pw_and1 (pt_cmpR op_ne (pe_callB call_len_seq (by rfl) B.len_ PySem.boot_len (pa_cons (pe_ix ix_list (pv 4) pe_int (fun _ _ => rfl)) pa_nil)) (pe_callB call_len_seq (by rfl) B.len_ PySem.boot_len (pa_cons (pe_ix ix_list (pv 3) pe_int (fun _ _ => rfl)) pa_nil)) (nomark _))))) (pw_or1 (PW.pt (pw_and (pt_val (pe_callB call_isi (by rfl) B.isinstance_ (by decide +kernel) (pa_cons (pe_ix ix_list (pv 4) pe_int (fun _ _ => rfl)) (pa_cons (pe_bltn (v := .ty "list") (by rfl) B.list_ (by decide +kernel) rfl) pa_nil)))) (pw_and1 (pt_cmpR op_ne (pe_callB call_len_seq (by rfl) B.len_ PySem.boot_len (pa_cons (pe_ix ix_list (pv 4) pe_int (fun _ _ => rfl)) pa_nil)) (pe_callB call_len_seq (by rfl) B.len_ PySem.boot_len (pa_cons (pe_ix ix_list (pv 3) pe_int (fun _ _ => rfl)) pa_nil)) (nomark _)))))))) (pss_one (ps_set (i := 6) scLaw.nd rfl (.inl rfl) (pe_tup (pa_cons pe_str (pa_cons pe_non pa_nil))))) pss_nil)
      (pss_one (ps_if (pt_cmpR (op_neD hk.units) (pe_call G8 hk (by rfl) g8 k8 b8 .nil pass0 (pa_cons (pe_make D.T.mkC (Rs.quiet GI) hr (by rfl) D.T.gC bI .nil pass0 (pa_cons (pe_ix ix_list (pv 3) pe_int (fun _ _ => rfl)) (pa_cons (pe_ix ix_list (pv 3) pe_int (fun _ _ => rfl)) (pa_cons (pe_ix ix_list (pv 3) pe_int (fun _ _ => rfl)) pa_nil)))) (pa_cons (pe_ix ix_list (pv 4) pe_int (fun _ _ => rfl)) pa_nil))) (pv 6) (nomark _)) (pss_one (ps_ret pe_bl)) pss_nil)))))))))))
      (pss_one (ps_ret pe_bl))), ?_⟩
    refine ⟨.ref a, rfl, 20, rfl, a, ns.map V.int, rfl, hS, fun p8 n8 => ?_⟩
    have z8 := same_new n8 (.lst (cutV (ns.map V.int) none (some 20)))
    refine ⟨(by show 1 ≤ sizeLine; decide), fun p9 n9 => ?_⟩
    have z9 := same_new n9 (.lst [V.int 4])
    refine ⟨p8, p9, _, _, rfl, rfl, z9 _ _ upd_same, upd_same, ?_, fun L nL => ?_⟩
    · have h1 := cutV_length (ns.map V.int) none (some 20)
      rw [List.length_map] at h1
      rw [List.length_singleton]
      exact Nat.le_of_lt (small1000 (by omega))
    refine ⟨L, rfl, ⟨_, SqL.of upd_same⟩, for_list (K := K) (a := L) (xs := cutV (ns.map V.int) none (some 20) ++ [V.int 4]) (fun i σ H' => ∃ y1 y2 y3 y4 y5 y6 : Option V, σ = [some (.ref a), y1, y2, y3, y4, y5, y6] ∧ H' L = some (.lst (cutV (ns.map V.int) none (some 20) ++ [V.int 4])))
      ⟨_, _, _, _, _, _, rfl, upd_same⟩ (fun i σ H' _ ⟨_, _, _, _, _, _, _, e⟩ => SqL.of e) ?_ ?_⟩
    rotate_left
    · rintro σ H1 ⟨y1, y2, y3, y4, y5, y6, rfl, _⟩
      exact q _
    rintro i xx σ H0 hi ⟨y1, y2, y3, y4, y5, y6, rfl, hL⟩
    obtain ⟨c, rfl⟩ := int_of hi
    clear hi
    generalize cutV (ns.map V.int) none (some 20) ++ [V.int 4] = xs at hL ⊢
    refine ⟨_, rfl, c, rfl, fun l n nl => ?_⟩
    have hLl : L ≠ l := ne_of_none hL nl
    have hl1 : (upd H0 l (.lst [.int n])) l = some (.lst [.int n]) := upd_same
    have hL1 : (upd H0 l (.lst [.int n])) L = some (.lst xs) := by rw [upd_ne hLl]; exact hL
    generalize upd H0 l (.lst [.int n]) = H1 at hl1 hL1 ⊢
    clear hL nl
    -- the good parts
    refine ⟨_, rfl, l, n, 5, 6, rfl, hl1, by decide, by decide, by decide, by decide, fun P qs hss tss ww dd z2 H2 sb2 hl2 PA2 g gw5 gd6 fP nP => ?_⟩
    have hL2 := sb2 _ _ hLl hL1
    obtain ⟨A, B1, C1, cs, rh, rt, e1, e2, e3, e4, e5⟩ := id PA2
    have nAl : A ≠ l := fun e => by
      rw [e, hl2] at e2
      cases e2
      exact Lw.frn_num e3
    have cl1 : 1 ≤ (qs.map dR).length ∧ (qs.map dR).length ≤ 5 := by
      rw [List.length_map, g.sh.1]
      exact ⟨g.w1, g.w5⟩
    have cb8 : ∀ d ∈ qs.map dR, CeB 8 d := fun e he => by
      obtain ⟨q, _, rfl⟩ := List.mem_map.mp he
      exact ce_dR (few_dR e3 _ he q (ratD_dR q)) (by decide) (by decide)
    refine ⟨_, rfl, _, rfl, l, P, A, B1, C1, z2, cs, qs.map dR, rh, rt, hss, tss, 8, ww, dd, rfl, hl2, e1, e2, frn_dz e3, cl1.1, by omega, cb8, by decide, by decide, e4, e5, g.w1, g.w5, g.d1, g.d6, g.hl, g.tl, g.hr, g.tr, fun F w0 w1 w2 d0 d1 d2 z3 H3 sb3 hl3 hF3 nF dz0 dz1 dz2 P00' l00 P11 P12 => ?_⟩
    have PA3 := PA2.but hl2 sb3
    have hL3 := sb3 _ _ hLl hL2
    clear e1 e2 e3 e4 e5 PA2 hL2 hl1 hL1 sb2
    refine ⟨_, rfl, l, z3, 2, rfl, hl3, by decide, by decide, fun dg z4 g0 g2 => ?_⟩
    have sb4 : SameB l H3 (upd H3 l (.lst [.int z4])) := SameB.upd
    have PA4 := PA3.but hl3 sb4
    have hL4 := sb4 _ _ hLl hL3
    have hF4 := sb4 _ _ nF hF3
    have du0 := dz0.cc (Ch.but hl3 sb4 rfl)
    have du1 := dz1.cc (Ch.but hl3 sb4 rfl)
    have du2 := dz2.cc (Ch.but hl3 sb4 rfl)
    have hl4 : (upd H3 l (.lst [.int z4])) l = some (.lst [.int z4]) := upd_same
    generalize upd H3 l (.lst [.int z4]) = H4 at sb4 PA4 hL4 hF4 du0 du1 du2 hl4 ⊢
    clear PA3 hL3 hF3 dz0 dz1 dz2 sb4 hl3
    refine ⟨rfl, _, rfl, ?_⟩
    have P00 : P0 16 d0 := P00'.mono (by decide)
    by_cases hdg : dg = 0
    rotate_left
    · rw [decide_eq_false (fun z => hdg (V.int.inj z))]
      refine iteF (iteF ?_)
      clear hdg g0 g2
      obtain ⟨A, B1, C1, cs, rh, rt, e1, e2, e3, e4, e5⟩ := id PA4
      have dzG := parts_dz PA4 hl4
      obtain ⟨pa, pb, pc⟩ := parts_p PA4 g
      have szG : Sz (dG qs hss tss) 4 300000 := sz_three (pa.sm.mono (by decide) (by decide)) pb.sm pc.sm
      have szB : Sz (.list [d0, d1, d2]) 4 300000 := sz_three (P00.sm.mono (by decide) (by decide)) P11.sm P12.sm
      obtain ⟨sh1, sh2, sh3⟩ := sz_line (sz_two szG szB)
      have nFl : F ≠ l := fun e => by
        rw [e, hl4] at hF4
        cases hF4
      have dzF : Dz.Dz K H4 (fun a => a = l) (.ref F) (.list [d0, d1, d2]) := .lst hF4 nFl (.cons du0 (.cons du1 (.cons du2 .nil)))
      refine ⟨_, rfl, _, rfl, (by show 2 ≤ sizeLine; decide), fun R1 nR1 => ?_⟩
      have sR1 := same_new nR1 (.lst [V.ref P, V.ref F])
      have eR1 : (upd H4 R1 (.lst [V.ref P, V.ref F])) R1 = some (.lst [V.ref P, V.ref F]) := upd_same
      generalize upd H4 R1 (.lst [V.ref P, V.ref F]) = J1 at sR1 eR1 ⊢
      have lne : ∀ {G : Hp} {R : Addr}, Same H4 G → G R = some (.lst [V.ref P, V.ref F]) → ¬ (R = l) := fun {G R} s e z => by
        rw [z, s _ _ hl4] at e
        cases e
      refine ⟨fun a => a = l, .ref R1, dG qs hss tss, [.list [d0, d1, d2]], rfl, .lst eR1 (lne sR1 eR1) (.cons (dzG.same sR1) (.cons (dzF.same sR1) .nil)), sh1, sh2, sh3, ?_⟩
      refine ⟨_, rfl, fun a => a = l, F, w0, w1, w2, d0, d1, d2, rfl, sR1 _ _ hF4, du0.same sR1, du1.same sR1, du2.same sR1, P00.few (by decide), P11.few, P12.few, fun rv1 J2 sJ2 hr1 => ?_⟩
      have s2 := sR1.trans sJ2
      refine ⟨_, rfl, fun a => a = l, F, w0, w1, w2, d0, d1, d2, rfl, s2 _ _ hF4, du0.same s2, du1.same s2, du2.same s2, P00.ce (by decide), P11.ce, P12.ce, fun rv2 J3 sJ3 hr2 => ?_⟩
      have s3 := s2.trans sJ3
      have okc := okA_C d0 d1 d2
      refine ⟨_, _, (hr1.same sJ3).dp okc, hr2.dp okc, datA_sh okc, datA_sh okc, _, rfl, ?_⟩
      rw [SeqAt.eqv_refl _ (datA_lay okc)]
      refine iteF ?_
      refine ⟨_, rfl, fun a => a = l, P, .ref A, .ref B1, .ref C1, dS qs, dRows hss, dRows tss, rfl, s3 _ _ e1, ?_, ?_, ?_, pa.few (by decide), pb.few, pc.few, fun rv3 J4 sJ4 hr3 => ?_⟩
      · cases dzG with
        | lst h hn t =>
          rw [e1] at h
          cases h
          cases t with
          | cons h1 t => exact h1.same s3
      · cases dzG with
        | lst h hn t =>
          rw [e1] at h
          cases h
          cases t with
          | cons h1 t =>
            cases t with
            | cons h2 t => exact h2.same s3
      · cases dzG with
        | lst h hn t =>
          rw [e1] at h
          cases h
          cases t with
          | cons h1 t =>
            cases t with
            | cons h2 t =>
              cases t with
              | cons h3 t => exact h3.same s3
      have s4 := s3.trans sJ4
      rw [badC_good g] at hr3
      cases (show rv3 = .non from hr3)
      refine ⟨rfl, _, rfl, iteF ?_⟩
      refine ⟨_, rfl, _, rfl, (by show 2 ≤ sizeLine; decide), fun R2 nR2 => ?_⟩
      have sR2 := same_new nR2 (.lst [V.ref P, V.ref F])
      have eR2 : (upd J4 R2 (.lst [V.ref P, V.ref F])) R2 = some (.lst [V.ref P, V.ref F]) := upd_same
      generalize upd J4 R2 (.lst [V.ref P, V.ref F]) = J5 at sR2 eR2 ⊢
      have s5 := s4.trans sR2
      refine ⟨fun a => a = l, .ref R2, dG qs hss tss, [.list [d0, d1, d2]], rfl, .lst eR2 (lne s5 eR2) (.cons (dzG.same s5) (.cons (dzF.same s5) .nil)), sh1, sh2, sh3, _, rfl, rfl, _, rfl, ?_⟩
      rw [decide_eq_true rfl]
      refine iteF ?_
      -- the shares
      refine ⟨_, rfl, F, _, 0, w0, rfl, rfl, SqL.of (s5 _ _ hF4), atI_nat (j := 0) rfl, fun a => a = l, w0, d0, rfl, du0.same s5, P00.ce (by decide), fun rv4 J6 sJ6 hr4 => ?_⟩
      have s6 := s5.trans sJ6
      have gw : qs.length = ww := g.sh.1
      have csl : cs.length = ww := by rw [e3.len]; exact gw
      have fin : ∀ (dv : V) (J7 : Hp), Same H4 J7 → RvT J7 dv (ansW (ww : Int) d0) → (tIfS (tTest (tOp (rNeD K) (tCall (spToldW K C) [] E0 (tCons (tMake C (fun vs H Q _ => spCInit K C CN vs H Q E0) [] E0 (tCons (tOp (rIxL K) (tVar 3) (tC (.int 0))) (tCons (tOp (rIxL K) (tVar 3) (tC (.int 1))) (tCons (tOp (rIxL K) (tVar 3) (tC (.int 2))) tNil)))) (tCons (tOp (rIxL K) (tVar 4) (tC (.int 0))) tNil))) (tVar 6))) (tRet (tC (.bl false))) (fun D σ H => D.nx σ H)) { nx := fun σ H' => ∃ y1 y2 y3 y4 y5 y6 : Option V, σ = [some (.ref a), y1, y2, y3, y4, y5, y6] ∧ H' L = some (.lst xs), rt := Q } [some (.ref a), some (.int c), some (.ref l), some (.ref P), some (.ref F), some (.str (PyData.list [dG qs hss tss, .list [d0, d1, d2]]).shown), some dv] J7 := fun dv J7 s7 hr => by
        refine ⟨_, rfl, P, _, 0, .ref A, rfl, rfl, SqL.of (s7 _ _ e1), atI_nat (j := 0) rfl, _, rfl, P, _, 1, .ref B1, rfl, rfl, SqL.of (s7 _ _ e1), atI_nat (j := 1) rfl, _, rfl, P, _, 2, .ref C1, rfl, rfl, SqL.of (s7 _ _ e1), atI_nat (j := 2) rfl, ?_⟩
        dsimp only [tNil]
        refine mk_caseG (s7 _ _ e2) (e3.same s7) (e4.same s7) (e5.same s7) g fun x J8 s8 hx8 hc8 => ?_
        have s78 := s7.trans s8
        refine ⟨_, rfl, F, _, 0, w0, rfl, rfl, SqL.of (s78 _ _ hF4), atI_nat (j := 0) rfl, fun a => a = l, 16, x, w0, d0, qs, hss, tss, ww, dd, rfl, hc8, g, (fun a ha z => by rw [ha, s78 _ _ hl4] at z; cases z), du0.same s78, by decide, P00.few (Nat.le_refl _), fun rv5 J9 s9 hr5 => ?_⟩
        have okw := okA_W (ww : Int) d0
        refine ⟨_, rfl, _, _, hr5.dp okw, (hr.same (s8.trans s9)).dp okw, datA_sh okw, datA_sh okw, _, rfl, ?_⟩
        rw [SeqAt.eqv_refl _ (datA_lay okw)]
        exact iteF ⟨_, _, _, _, _, _, rfl, (s78.trans s9) _ _ hL4⟩
      have oth : ∀ {es : List PyData}, d0 = .list es → es.length ≠ ww → ansW (ww : Int) d0 = some (("shares" : Str), V.non) := fun {es} e hne => by
        unfold ansW badW
        rw [e, if_neg (fun z => hne (by have := lenOk_iff.mp (show lenOk (some es.length) (ww : Int) (ww : Int) = true from z); omega))]
        rfl
      have set_ : ansW (ww : Int) d0 = some (("shares" : Str), V.non) → ∀ J7, Same H4 J7 → (2 ≤ sizeLine ∧ ∀ p : Addr, J7 p = none → (tIfS (tTest (tOp (rNeD K) (tCall (spToldW K C) [] E0 (tCons (tMake C (fun vs H Q _ => spCInit K C CN vs H Q E0) [] E0 (tCons (tOp (rIxL K) (tVar 3) (tC (.int 0))) (tCons (tOp (rIxL K) (tVar 3) (tC (.int 1))) (tCons (tOp (rIxL K) (tVar 3) (tC (.int 2))) tNil)))) (tCons (tOp (rIxL K) (tVar 4) (tC (.int 0))) tNil))) (tVar 6))) (tRet (tC (.bl false))) (fun D σ H => D.nx σ H)) { nx := fun σ H' => ∃ y1 y2 y3 y4 y5 y6 : Option V, σ = [some (.ref a), y1, y2, y3, y4, y5, y6] ∧ H' L = some (.lst xs), rt := Q } [some (.ref a), some (.int c), some (.ref l), some (.ref P), some (.ref F), some (.str (PyData.list [dG qs hss tss, .list [d0, d1, d2]]).shown), some (.ref p)] (upd J7 p (.tup [V.str "shares", V.non]))) := fun e J7 s7 => ⟨by decide, fun p hp => fin _ _ (s7.trans (same_new hp _)) (by rw [e]; exact ⟨p, rfl, upd_same⟩)⟩
      cases d0 with
      | list es =>
        cases du0 with
        | @lst a0 x0 _ h0 _ t0 =>
        have l0 := t0.len
        have GL := fun (S : Hp) (s : Same H4 S) => s _ _ hF4
        have evalLen : ∀ {S : Hp}, Same H4 S → True := fun _ => trivial
        by_cases hw : es.length = ww
        · have ea : ansW (ww : Int) (.list es) = ansS (.list es) := by
            unfold ansW badW ansS
            rw [if_pos (show lenOk (lenD (.list es)) (ww : Int) (ww : Int) = true from lenOk_iff.mpr (by omega))]
          rw [← ea] at hr4
          have dl : decide (V.int (x0.length : Int) = V.int (cs.length : Int)) = true := decide_eq_true (by rw [l0, csl, hw])
          cases eb : badS (.list es) with
          | none =>
            have en : ansW (ww : Int) (.list es) = none := by rw [ea]; unfold ansS; rw [eb]; rfl
            have ev : rv4 = .non := by rw [en] at hr4; exact hr4
            subst ev
            refine ⟨_, rfl, rfl, _, rfl, iteT ?_⟩
            refine ⟨_, rfl, F, _, 0, .ref a0, rfl, rfl, SqL.of (s6 _ _ hF4), atI_nat (j := 0) rfl, a0, x0, rfl, .inl (SqL.of (s6 _ _ h0)), _, rfl, P, _, 0, .ref A, rfl, rfl, SqL.of (s6 _ _ e1), atI_nat (j := 0) rfl, A, cs, rfl, .inl (SqL.of (s6 _ _ e2)), rfl, _, rfl, ?_⟩
            rw [dl]
            refine iteF ?_
            refine ⟨_, rfl, F, _, 0, .ref a0, rfl, rfl, SqL.of (s6 _ _ hF4), atI_nat (j := 0) rfl, _, _, _, _, isL (.list es), rfl, .ty "list", .base (.lst (s6 _ _ h0)), kit_ty (kit_isL (.list es)), _, rfl, iteT ?_⟩
            refine ⟨_, rfl, F, _, 0, .ref a0, rfl, rfl, SqL.of (s6 _ _ hF4), atI_nat (j := 0) rfl, a0, x0, rfl, .inl (SqL.of (s6 _ _ h0)), _, rfl, P, _, 0, .ref A, rfl, rfl, SqL.of (s6 _ _ e1), atI_nat (j := 0) rfl, A, cs, rfl, .inl (SqL.of (s6 _ _ e2)), rfl, _, rfl, ?_⟩
            rw [dl]
            exact iteF (fin _ _ s6 hr4)
          | some nb =>
            have en : ansW (ww : Int) (.list es) = some (("shares" : Str), nb) := by rw [ea]; unfold ansS; rw [eb]; rfl
            have hr4' := hr4
            rw [en] at hr4'
            obtain ⟨ad, rfl, hd4⟩ := hr4'
            refine ⟨_, rfl, rfl, _, rfl, iteF (iteF ?_)⟩
            refine ⟨_, rfl, F, _, 0, .ref a0, rfl, rfl, SqL.of (s6 _ _ hF4), atI_nat (j := 0) rfl, _, _, _, _, isL (.list es), rfl, .ty "list", .base (.lst (s6 _ _ h0)), kit_ty (kit_isL (.list es)), _, rfl, iteT ?_⟩
            refine ⟨_, rfl, F, _, 0, .ref a0, rfl, rfl, SqL.of (s6 _ _ hF4), atI_nat (j := 0) rfl, a0, x0, rfl, .inl (SqL.of (s6 _ _ h0)), _, rfl, P, _, 0, .ref A, rfl, rfl, SqL.of (s6 _ _ e1), atI_nat (j := 0) rfl, A, cs, rfl, .inl (SqL.of (s6 _ _ e2)), rfl, _, rfl, ?_⟩
            rw [dl]
            exact iteF (fin _ _ s6 hr4)
        · have dl : decide (V.int (x0.length : Int) = V.int (cs.length : Int)) = false := decide_eq_false (fun z => hw (by have := V.int.inj z; omega))
          have es_ := oth rfl hw
          cases eb : badS (.list es) with
          | none =>
            have en : ansS (.list es) = none := by unfold ansS; rw [eb]; rfl
            have ev : rv4 = .non := by rw [en] at hr4; exact hr4
            subst ev
            refine ⟨_, rfl, rfl, _, rfl, iteT ?_⟩
            refine ⟨_, rfl, F, _, 0, .ref a0, rfl, rfl, SqL.of (s6 _ _ hF4), atI_nat (j := 0) rfl, a0, x0, rfl, .inl (SqL.of (s6 _ _ h0)), _, rfl, P, _, 0, .ref A, rfl, rfl, SqL.of (s6 _ _ e1), atI_nat (j := 0) rfl, A, cs, rfl, .inl (SqL.of (s6 _ _ e2)), rfl, _, rfl, ?_⟩
            rw [dl]
            exact iteT (iteT (set_ es_ _ s6))
          | some nb =>
            have en : ansS (.list es) = some (("shares" : Str), nb) := by unfold ansS; rw [eb]; rfl
            rw [en] at hr4
            obtain ⟨ad, rfl, hd4⟩ := hr4
            refine ⟨_, rfl, rfl, _, rfl, iteF (iteF ?_)⟩
            refine ⟨_, rfl, F, _, 0, .ref a0, rfl, rfl, SqL.of (s6 _ _ hF4), atI_nat (j := 0) rfl, _, _, _, _, isL (.list es), rfl, .ty "list", .base (.lst (s6 _ _ h0)), kit_ty (kit_isL (.list es)), _, rfl, iteT ?_⟩
            refine ⟨_, rfl, F, _, 0, .ref a0, rfl, rfl, SqL.of (s6 _ _ hF4), atI_nat (j := 0) rfl, a0, x0, rfl, .inl (SqL.of (s6 _ _ h0)), _, rfl, P, _, 0, .ref A, rfl, rfl, SqL.of (s6 _ _ e1), atI_nat (j := 0) rfl, A, cs, rfl, .inl (SqL.of (s6 _ _ e2)), rfl, _, rfl, ?_⟩
            rw [dl]
            exact iteT (set_ es_ _ s6)
      | _ =>
        obtain ⟨ad, rfl, hd4⟩ := id hr4
        refine ⟨_, rfl, rfl, _, rfl, iteF (iteF ?_)⟩
        refine ⟨_, rfl, F, _, 0, w0, rfl, rfl, SqL.of (s6 _ _ hF4), atI_nat (j := 0) rfl, _, _, _, _, isL _, rfl, .ty "list", (du0.same s6).ty, kit_ty (kit_isL _), _, rfl, iteF (iteF (fin _ _ s6 hr4))⟩
    · subst hdg
      rw [decide_eq_true rfl]
      refine iteT ?_
      refine ⟨_, rfl, F, _, 0, w0, rfl, rfl, SqL.of hF4, atI_nat (j := 0) rfl, _, _, _, _, isL d0, rfl, .ty "list", du0.ty, kit_ty (kit_isL d0), _, rfl, ?_⟩
      cases cL : isL d0 with
      | false =>
        refine iteF (iteF ?_)
        obtain ⟨A, B1, C1, cs, rh, rt, e1, e2, e3, e4, e5⟩ := id PA4
        have dzG := parts_dz PA4 hl4
        obtain ⟨pa, pb, pc⟩ := parts_p PA4 g
        have szG : Sz (dG qs hss tss) 4 300000 := sz_three (pa.sm.mono (by decide) (by decide)) pb.sm pc.sm
        have szB : Sz (.list [d0, d1, d2]) 4 300000 := sz_three (P00.sm.mono (by decide) (by decide)) P11.sm P12.sm
        obtain ⟨sh1, sh2, sh3⟩ := sz_line (sz_two szG szB)
        have nFl : F ≠ l := fun e => by
          rw [e, hl4] at hF4
          cases hF4
        have dzF : Dz.Dz K H4 (fun a => a = l) (.ref F) (.list [d0, d1, d2]) := .lst hF4 nFl (.cons du0 (.cons du1 (.cons du2 .nil)))
        refine ⟨_, rfl, _, rfl, (by show 2 ≤ sizeLine; decide), fun R1 nR1 => ?_⟩
        have sR1 := same_new nR1 (.lst [V.ref P, V.ref F])
        have eR1 : (upd H4 R1 (.lst [V.ref P, V.ref F])) R1 = some (.lst [V.ref P, V.ref F]) := upd_same
        generalize upd H4 R1 (.lst [V.ref P, V.ref F]) = J1 at sR1 eR1 ⊢
        have lne : ∀ {G : Hp} {R : Addr}, Same H4 G → G R = some (.lst [V.ref P, V.ref F]) → ¬ (R = l) := fun {G R} s e z => by
          rw [z, s _ _ hl4] at e
          cases e
        refine ⟨fun a => a = l, .ref R1, dG qs hss tss, [.list [d0, d1, d2]], rfl, .lst eR1 (lne sR1 eR1) (.cons (dzG.same sR1) (.cons (dzF.same sR1) .nil)), sh1, sh2, sh3, ?_⟩
        refine ⟨_, rfl, fun a => a = l, F, w0, w1, w2, d0, d1, d2, rfl, sR1 _ _ hF4, du0.same sR1, du1.same sR1, du2.same sR1, P00.few (by decide), P11.few, P12.few, fun rv1 J2 sJ2 hr1 => ?_⟩
        have s2 := sR1.trans sJ2
        refine ⟨_, rfl, fun a => a = l, F, w0, w1, w2, d0, d1, d2, rfl, s2 _ _ hF4, du0.same s2, du1.same s2, du2.same s2, P00.ce (by decide), P11.ce, P12.ce, fun rv2 J3 sJ3 hr2 => ?_⟩
        have s3 := s2.trans sJ3
        have okc := okA_C d0 d1 d2
        refine ⟨_, _, (hr1.same sJ3).dp okc, hr2.dp okc, datA_sh okc, datA_sh okc, _, rfl, ?_⟩
        rw [SeqAt.eqv_refl _ (datA_lay okc)]
        refine iteF ?_
        refine ⟨_, rfl, fun a => a = l, P, .ref A, .ref B1, .ref C1, dS qs, dRows hss, dRows tss, rfl, s3 _ _ e1, ?_, ?_, ?_, pa.few (by decide), pb.few, pc.few, fun rv3 J4 sJ4 hr3 => ?_⟩
        · cases dzG with
          | lst h hn t =>
            rw [e1] at h
            cases h
            cases t with
            | cons h1 t => exact h1.same s3
        · cases dzG with
          | lst h hn t =>
            rw [e1] at h
            cases h
            cases t with
            | cons h1 t =>
              cases t with
              | cons h2 t => exact h2.same s3
        · cases dzG with
          | lst h hn t =>
            rw [e1] at h
            cases h
            cases t with
            | cons h1 t =>
              cases t with
              | cons h2 t =>
                cases t with
                | cons h3 t => exact h3.same s3
        have s4 := s3.trans sJ4
        rw [badC_good g] at hr3
        cases (show rv3 = .non from hr3)
        refine ⟨rfl, _, rfl, iteF ?_⟩
        refine ⟨_, rfl, _, rfl, (by show 2 ≤ sizeLine; decide), fun R2 nR2 => ?_⟩
        have sR2 := same_new nR2 (.lst [V.ref P, V.ref F])
        have eR2 : (upd J4 R2 (.lst [V.ref P, V.ref F])) R2 = some (.lst [V.ref P, V.ref F]) := upd_same
        generalize upd J4 R2 (.lst [V.ref P, V.ref F]) = J5 at sR2 eR2 ⊢
        have s5 := s4.trans sR2
        refine ⟨fun a => a = l, .ref R2, dG qs hss tss, [.list [d0, d1, d2]], rfl, .lst eR2 (lne s5 eR2) (.cons (dzG.same s5) (.cons (dzF.same s5) .nil)), sh1, sh2, sh3, _, rfl, rfl, _, rfl, ?_⟩
        rw [decide_eq_true rfl]
        refine iteF ?_
        -- the shares
        refine ⟨_, rfl, F, _, 0, w0, rfl, rfl, SqL.of (s5 _ _ hF4), atI_nat (j := 0) rfl, fun a => a = l, w0, d0, rfl, du0.same s5, P00.ce (by decide), fun rv4 J6 sJ6 hr4 => ?_⟩
        have s6 := s5.trans sJ6
        have gw : qs.length = ww := g.sh.1
        have csl : cs.length = ww := by rw [e3.len]; exact gw
        have fin : ∀ (dv : V) (J7 : Hp), Same H4 J7 → RvT J7 dv (ansW (ww : Int) d0) → (tIfS (tTest (tOp (rNeD K) (tCall (spToldW K C) [] E0 (tCons (tMake C (fun vs H Q _ => spCInit K C CN vs H Q E0) [] E0 (tCons (tOp (rIxL K) (tVar 3) (tC (.int 0))) (tCons (tOp (rIxL K) (tVar 3) (tC (.int 1))) (tCons (tOp (rIxL K) (tVar 3) (tC (.int 2))) tNil)))) (tCons (tOp (rIxL K) (tVar 4) (tC (.int 0))) tNil))) (tVar 6))) (tRet (tC (.bl false))) (fun D σ H => D.nx σ H)) { nx := fun σ H' => ∃ y1 y2 y3 y4 y5 y6 : Option V, σ = [some (.ref a), y1, y2, y3, y4, y5, y6] ∧ H' L = some (.lst xs), rt := Q } [some (.ref a), some (.int c), some (.ref l), some (.ref P), some (.ref F), some (.str (PyData.list [dG qs hss tss, .list [d0, d1, d2]]).shown), some dv] J7 := fun dv J7 s7 hr => by
          refine ⟨_, rfl, P, _, 0, .ref A, rfl, rfl, SqL.of (s7 _ _ e1), atI_nat (j := 0) rfl, _, rfl, P, _, 1, .ref B1, rfl, rfl, SqL.of (s7 _ _ e1), atI_nat (j := 1) rfl, _, rfl, P, _, 2, .ref C1, rfl, rfl, SqL.of (s7 _ _ e1), atI_nat (j := 2) rfl, ?_⟩
          dsimp only [tNil]
          refine mk_caseG (s7 _ _ e2) (e3.same s7) (e4.same s7) (e5.same s7) g fun x J8 s8 hx8 hc8 => ?_
          have s78 := s7.trans s8
          refine ⟨_, rfl, F, _, 0, w0, rfl, rfl, SqL.of (s78 _ _ hF4), atI_nat (j := 0) rfl, fun a => a = l, 16, x, w0, d0, qs, hss, tss, ww, dd, rfl, hc8, g, (fun a ha z => by rw [ha, s78 _ _ hl4] at z; cases z), du0.same s78, by decide, P00.few (Nat.le_refl _), fun rv5 J9 s9 hr5 => ?_⟩
          have okw := okA_W (ww : Int) d0
          refine ⟨_, rfl, _, _, hr5.dp okw, (hr.same (s8.trans s9)).dp okw, datA_sh okw, datA_sh okw, _, rfl, ?_⟩
          rw [SeqAt.eqv_refl _ (datA_lay okw)]
          exact iteF ⟨_, _, _, _, _, _, rfl, (s78.trans s9) _ _ hL4⟩
        have oth : ∀ {es : List PyData}, d0 = .list es → es.length ≠ ww → ansW (ww : Int) d0 = some (("shares" : Str), V.non) := fun {es} e hne => by
          unfold ansW badW
          rw [e, if_neg (fun z => hne (by have := lenOk_iff.mp (show lenOk (some es.length) (ww : Int) (ww : Int) = true from z); omega))]
          rfl
        have set_ : ansW (ww : Int) d0 = some (("shares" : Str), V.non) → ∀ J7, Same H4 J7 → (2 ≤ sizeLine ∧ ∀ p : Addr, J7 p = none → (tIfS (tTest (tOp (rNeD K) (tCall (spToldW K C) [] E0 (tCons (tMake C (fun vs H Q _ => spCInit K C CN vs H Q E0) [] E0 (tCons (tOp (rIxL K) (tVar 3) (tC (.int 0))) (tCons (tOp (rIxL K) (tVar 3) (tC (.int 1))) (tCons (tOp (rIxL K) (tVar 3) (tC (.int 2))) tNil)))) (tCons (tOp (rIxL K) (tVar 4) (tC (.int 0))) tNil))) (tVar 6))) (tRet (tC (.bl false))) (fun D σ H => D.nx σ H)) { nx := fun σ H' => ∃ y1 y2 y3 y4 y5 y6 : Option V, σ = [some (.ref a), y1, y2, y3, y4, y5, y6] ∧ H' L = some (.lst xs), rt := Q } [some (.ref a), some (.int c), some (.ref l), some (.ref P), some (.ref F), some (.str (PyData.list [dG qs hss tss, .list [d0, d1, d2]]).shown), some (.ref p)] (upd J7 p (.tup [V.str "shares", V.non]))) := fun e J7 s7 => ⟨by decide, fun p hp => fin _ _ (s7.trans (same_new hp _)) (by rw [e]; exact ⟨p, rfl, upd_same⟩)⟩
        cases d0 with
        | list es =>
          cases du0 with
          | @lst a0 x0 _ h0 _ t0 =>
          have l0 := t0.len
          have GL := fun (S : Hp) (s : Same H4 S) => s _ _ hF4
          have evalLen : ∀ {S : Hp}, Same H4 S → True := fun _ => trivial
          by_cases hw : es.length = ww
          · have ea : ansW (ww : Int) (.list es) = ansS (.list es) := by
              unfold ansW badW ansS
              rw [if_pos (show lenOk (lenD (.list es)) (ww : Int) (ww : Int) = true from lenOk_iff.mpr (by omega))]
            rw [← ea] at hr4
            have dl : decide (V.int (x0.length : Int) = V.int (cs.length : Int)) = true := decide_eq_true (by rw [l0, csl, hw])
            cases eb : badS (.list es) with
            | none =>
              have en : ansW (ww : Int) (.list es) = none := by rw [ea]; unfold ansS; rw [eb]; rfl
              have ev : rv4 = .non := by rw [en] at hr4; exact hr4
              subst ev
              refine ⟨_, rfl, rfl, _, rfl, iteT ?_⟩
              refine ⟨_, rfl, F, _, 0, .ref a0, rfl, rfl, SqL.of (s6 _ _ hF4), atI_nat (j := 0) rfl, a0, x0, rfl, .inl (SqL.of (s6 _ _ h0)), _, rfl, P, _, 0, .ref A, rfl, rfl, SqL.of (s6 _ _ e1), atI_nat (j := 0) rfl, A, cs, rfl, .inl (SqL.of (s6 _ _ e2)), rfl, _, rfl, ?_⟩
              rw [dl]
              refine iteF ?_
              refine ⟨_, rfl, F, _, 0, .ref a0, rfl, rfl, SqL.of (s6 _ _ hF4), atI_nat (j := 0) rfl, _, _, _, _, isL (.list es), rfl, .ty "list", .base (.lst (s6 _ _ h0)), kit_ty (kit_isL (.list es)), _, rfl, iteT ?_⟩
              refine ⟨_, rfl, F, _, 0, .ref a0, rfl, rfl, SqL.of (s6 _ _ hF4), atI_nat (j := 0) rfl, a0, x0, rfl, .inl (SqL.of (s6 _ _ h0)), _, rfl, P, _, 0, .ref A, rfl, rfl, SqL.of (s6 _ _ e1), atI_nat (j := 0) rfl, A, cs, rfl, .inl (SqL.of (s6 _ _ e2)), rfl, _, rfl, ?_⟩
              rw [dl]
              exact iteF (fin _ _ s6 hr4)
            | some nb =>
              have en : ansW (ww : Int) (.list es) = some (("shares" : Str), nb) := by rw [ea]; unfold ansS; rw [eb]; rfl
              have hr4' := hr4
              rw [en] at hr4'
              obtain ⟨ad, rfl, hd4⟩ := hr4'
              refine ⟨_, rfl, rfl, _, rfl, iteF (iteF ?_)⟩
              refine ⟨_, rfl, F, _, 0, .ref a0, rfl, rfl, SqL.of (s6 _ _ hF4), atI_nat (j := 0) rfl, _, _, _, _, isL (.list es), rfl, .ty "list", .base (.lst (s6 _ _ h0)), kit_ty (kit_isL (.list es)), _, rfl, iteT ?_⟩
              refine ⟨_, rfl, F, _, 0, .ref a0, rfl, rfl, SqL.of (s6 _ _ hF4), atI_nat (j := 0) rfl, a0, x0, rfl, .inl (SqL.of (s6 _ _ h0)), _, rfl, P, _, 0, .ref A, rfl, rfl, SqL.of (s6 _ _ e1), atI_nat (j := 0) rfl, A, cs, rfl, .inl (SqL.of (s6 _ _ e2)), rfl, _, rfl, ?_⟩
              rw [dl]
              exact iteF (fin _ _ s6 hr4)
          · have dl : decide (V.int (x0.length : Int) = V.int (cs.length : Int)) = false := decide_eq_false (fun z => hw (by have := V.int.inj z; omega))
            have es_ := oth rfl hw
            cases eb : badS (.list es) with
            | none =>
              have en : ansS (.list es) = none := by unfold ansS; rw [eb]; rfl
              have ev : rv4 = .non := by rw [en] at hr4; exact hr4
              subst ev
              refine ⟨_, rfl, rfl, _, rfl, iteT ?_⟩
              refine ⟨_, rfl, F, _, 0, .ref a0, rfl, rfl, SqL.of (s6 _ _ hF4), atI_nat (j := 0) rfl, a0, x0, rfl, .inl (SqL.of (s6 _ _ h0)), _, rfl, P, _, 0, .ref A, rfl, rfl, SqL.of (s6 _ _ e1), atI_nat (j := 0) rfl, A, cs, rfl, .inl (SqL.of (s6 _ _ e2)), rfl, _, rfl, ?_⟩
              rw [dl]
              exact iteT (iteT (set_ es_ _ s6))
            | some nb =>
              have en : ansS (.list es) = some (("shares" : Str), nb) := by unfold ansS; rw [eb]; rfl
              rw [en] at hr4
              obtain ⟨ad, rfl, hd4⟩ := hr4
              refine ⟨_, rfl, rfl, _, rfl, iteF (iteF ?_)⟩
              refine ⟨_, rfl, F, _, 0, .ref a0, rfl, rfl, SqL.of (s6 _ _ hF4), atI_nat (j := 0) rfl, _, _, _, _, isL (.list es), rfl, .ty "list", .base (.lst (s6 _ _ h0)), kit_ty (kit_isL (.list es)), _, rfl, iteT ?_⟩
              refine ⟨_, rfl, F, _, 0, .ref a0, rfl, rfl, SqL.of (s6 _ _ hF4), atI_nat (j := 0) rfl, a0, x0, rfl, .inl (SqL.of (s6 _ _ h0)), _, rfl, P, _, 0, .ref A, rfl, rfl, SqL.of (s6 _ _ e1), atI_nat (j := 0) rfl, A, cs, rfl, .inl (SqL.of (s6 _ _ e2)), rfl, _, rfl, ?_⟩
              rw [dl]
              exact iteT (set_ es_ _ s6)
        | _ =>
          obtain ⟨ad, rfl, hd4⟩ := id hr4
          refine ⟨_, rfl, rfl, _, rfl, iteF (iteF ?_)⟩
          refine ⟨_, rfl, F, _, 0, w0, rfl, rfl, SqL.of (s6 _ _ hF4), atI_nat (j := 0) rfl, _, _, _, _, isL _, rfl, .ty "list", (du0.same s6).ty, kit_ty (kit_isL _), _, rfl, iteF (iteF (fin _ _ s6 hr4))⟩
      | true =>
        refine iteT ?_
        obtain ⟨es, rfl⟩ : ∃ es, d0 = .list es := by
          cases d0 with
          | list es => exact ⟨es, rfl⟩
          | _ => cases cL
        have it := P00'.it es rfl
        have hce : ∀ d ∈ es, CeD d := fun d hd => (it.2 d hd).ce (by decide)
        refine ⟨_, rfl, F, _, 0, w0, rfl, rfl, SqL.of hF4, atI_nat (j := 0) rfl, (by show 0 ≤ sizeLine; decide), fun pe npe => ?_⟩
        have se := same_new npe (.lst [])
        have dpe : Dp K (upd H4 pe (.lst [])) w0 (.list es) := Dz.dp _ _ (du0.same se) (by show PyData.hasDictAll es = false; exact hd_all fun d hd => (hce d hd).nd)
        refine ⟨.list es, .list [], dpe, .lst (SqL.of upd_same) .nil, ce_shaped hce, rfl, _, rfl, ?_⟩
        rw [eqv_nil]
        have PA5 := PA4.same se
        have hL5 := se _ _ hL4
        have hF5 := se _ _ hF4
        have dv0 := du0.same se
        have dv1 := du1.same se
        have dv2 := du2.same se
        have hl5 := se _ _ hl4
        generalize upd H4 pe (.lst []) = H5 at se dpe PA5 hL5 hF5 dv0 dv1 dv2 hl5 ⊢
        clear PA4 hL4 hF4 du0 du1 du2
        cases ce : es.isEmpty with
        | true =>
          refine iteF ?_
          clear hl4
          generalize PyData.list es = d0 at dv0 P00
          obtain ⟨A, B1, C1, cs, rh, rt, e1, e2, e3, e4, e5⟩ := id PA5
          have dzG := parts_dz PA5 hl5
          obtain ⟨pa, pb, pc⟩ := parts_p PA5 g
          have szG : Sz (dG qs hss tss) 4 300000 := sz_three (pa.sm.mono (by decide) (by decide)) pb.sm pc.sm
          have szB : Sz (.list [d0, d1, d2]) 4 300000 := sz_three (P00.sm.mono (by decide) (by decide)) P11.sm P12.sm
          obtain ⟨sh1, sh2, sh3⟩ := sz_line (sz_two szG szB)
          have nFl : F ≠ l := fun e => by
            rw [e, hl5] at hF5
            cases hF5
          have dzF : Dz.Dz K H5 (fun a => a = l) (.ref F) (.list [d0, d1, d2]) := .lst hF5 nFl (.cons dv0 (.cons dv1 (.cons dv2 .nil)))
          refine ⟨_, rfl, _, rfl, (by show 2 ≤ sizeLine; decide), fun R1 nR1 => ?_⟩
          have sR1 := same_new nR1 (.lst [V.ref P, V.ref F])
          have eR1 : (upd H5 R1 (.lst [V.ref P, V.ref F])) R1 = some (.lst [V.ref P, V.ref F]) := upd_same
          generalize upd H5 R1 (.lst [V.ref P, V.ref F]) = J1 at sR1 eR1 ⊢
          have lne : ∀ {G : Hp} {R : Addr}, Same H5 G → G R = some (.lst [V.ref P, V.ref F]) → ¬ (R = l) := fun {G R} s e z => by
            rw [z, s _ _ hl5] at e
            cases e
          refine ⟨fun a => a = l, .ref R1, dG qs hss tss, [.list [d0, d1, d2]], rfl, .lst eR1 (lne sR1 eR1) (.cons (dzG.same sR1) (.cons (dzF.same sR1) .nil)), sh1, sh2, sh3, ?_⟩
          refine ⟨_, rfl, fun a => a = l, F, w0, w1, w2, d0, d1, d2, rfl, sR1 _ _ hF5, dv0.same sR1, dv1.same sR1, dv2.same sR1, P00.few (by decide), P11.few, P12.few, fun rv1 J2 sJ2 hr1 => ?_⟩
          have s2 := sR1.trans sJ2
          refine ⟨_, rfl, fun a => a = l, F, w0, w1, w2, d0, d1, d2, rfl, s2 _ _ hF5, dv0.same s2, dv1.same s2, dv2.same s2, P00.ce (by decide), P11.ce, P12.ce, fun rv2 J3 sJ3 hr2 => ?_⟩
          have s3 := s2.trans sJ3
          have okc := okA_C d0 d1 d2
          refine ⟨_, _, (hr1.same sJ3).dp okc, hr2.dp okc, datA_sh okc, datA_sh okc, _, rfl, ?_⟩
          rw [SeqAt.eqv_refl _ (datA_lay okc)]
          refine iteF ?_
          refine ⟨_, rfl, fun a => a = l, P, .ref A, .ref B1, .ref C1, dS qs, dRows hss, dRows tss, rfl, s3 _ _ e1, ?_, ?_, ?_, pa.few (by decide), pb.few, pc.few, fun rv3 J4 sJ4 hr3 => ?_⟩
          · cases dzG with
            | lst h hn t =>
              rw [e1] at h
              cases h
              cases t with
              | cons h1 t => exact h1.same s3
          · cases dzG with
            | lst h hn t =>
              rw [e1] at h
              cases h
              cases t with
              | cons h1 t =>
                cases t with
                | cons h2 t => exact h2.same s3
          · cases dzG with
            | lst h hn t =>
              rw [e1] at h
              cases h
              cases t with
              | cons h1 t =>
                cases t with
                | cons h2 t =>
                  cases t with
                  | cons h3 t => exact h3.same s3
          have s4 := s3.trans sJ4
          rw [badC_good g] at hr3
          cases (show rv3 = .non from hr3)
          refine ⟨rfl, _, rfl, iteF ?_⟩
          refine ⟨_, rfl, _, rfl, (by show 2 ≤ sizeLine; decide), fun R2 nR2 => ?_⟩
          have sR2 := same_new nR2 (.lst [V.ref P, V.ref F])
          have eR2 : (upd J4 R2 (.lst [V.ref P, V.ref F])) R2 = some (.lst [V.ref P, V.ref F]) := upd_same
          generalize upd J4 R2 (.lst [V.ref P, V.ref F]) = J5 at sR2 eR2 ⊢
          have s5 := s4.trans sR2
          refine ⟨fun a => a = l, .ref R2, dG qs hss tss, [.list [d0, d1, d2]], rfl, .lst eR2 (lne s5 eR2) (.cons (dzG.same s5) (.cons (dzF.same s5) .nil)), sh1, sh2, sh3, _, rfl, rfl, _, rfl, ?_⟩
          rw [decide_eq_true rfl]
          refine iteF ?_
          -- the shares
          refine ⟨_, rfl, F, _, 0, w0, rfl, rfl, SqL.of (s5 _ _ hF5), atI_nat (j := 0) rfl, fun a => a = l, w0, d0, rfl, dv0.same s5, P00.ce (by decide), fun rv4 J6 sJ6 hr4 => ?_⟩
          have s6 := s5.trans sJ6
          have gw : qs.length = ww := g.sh.1
          have csl : cs.length = ww := by rw [e3.len]; exact gw
          have fin : ∀ (dv : V) (J7 : Hp), Same H5 J7 → RvT J7 dv (ansW (ww : Int) d0) → (tIfS (tTest (tOp (rNeD K) (tCall (spToldW K C) [] E0 (tCons (tMake C (fun vs H Q _ => spCInit K C CN vs H Q E0) [] E0 (tCons (tOp (rIxL K) (tVar 3) (tC (.int 0))) (tCons (tOp (rIxL K) (tVar 3) (tC (.int 1))) (tCons (tOp (rIxL K) (tVar 3) (tC (.int 2))) tNil)))) (tCons (tOp (rIxL K) (tVar 4) (tC (.int 0))) tNil))) (tVar 6))) (tRet (tC (.bl false))) (fun D σ H => D.nx σ H)) { nx := fun σ H' => ∃ y1 y2 y3 y4 y5 y6 : Option V, σ = [some (.ref a), y1, y2, y3, y4, y5, y6] ∧ H' L = some (.lst xs), rt := Q } [some (.ref a), some (.int c), some (.ref l), some (.ref P), some (.ref F), some (.str (PyData.list [dG qs hss tss, .list [d0, d1, d2]]).shown), some dv] J7 := fun dv J7 s7 hr => by
            refine ⟨_, rfl, P, _, 0, .ref A, rfl, rfl, SqL.of (s7 _ _ e1), atI_nat (j := 0) rfl, _, rfl, P, _, 1, .ref B1, rfl, rfl, SqL.of (s7 _ _ e1), atI_nat (j := 1) rfl, _, rfl, P, _, 2, .ref C1, rfl, rfl, SqL.of (s7 _ _ e1), atI_nat (j := 2) rfl, ?_⟩
            dsimp only [tNil]
            refine mk_caseG (s7 _ _ e2) (e3.same s7) (e4.same s7) (e5.same s7) g fun x J8 s8 hx8 hc8 => ?_
            have s78 := s7.trans s8
            refine ⟨_, rfl, F, _, 0, w0, rfl, rfl, SqL.of (s78 _ _ hF5), atI_nat (j := 0) rfl, fun a => a = l, 16, x, w0, d0, qs, hss, tss, ww, dd, rfl, hc8, g, (fun a ha z => by rw [ha, s78 _ _ hl5] at z; cases z), dv0.same s78, by decide, P00.few (Nat.le_refl _), fun rv5 J9 s9 hr5 => ?_⟩
            have okw := okA_W (ww : Int) d0
            refine ⟨_, rfl, _, _, hr5.dp okw, (hr.same (s8.trans s9)).dp okw, datA_sh okw, datA_sh okw, _, rfl, ?_⟩
            rw [SeqAt.eqv_refl _ (datA_lay okw)]
            exact iteF ⟨_, _, _, _, _, _, rfl, (s78.trans s9) _ _ hL5⟩
          have oth : ∀ {es : List PyData}, d0 = .list es → es.length ≠ ww → ansW (ww : Int) d0 = some (("shares" : Str), V.non) := fun {es} e hne => by
            unfold ansW badW
            rw [e, if_neg (fun z => hne (by have := lenOk_iff.mp (show lenOk (some es.length) (ww : Int) (ww : Int) = true from z); omega))]
            rfl
          have set_ : ansW (ww : Int) d0 = some (("shares" : Str), V.non) → ∀ J7, Same H5 J7 → (2 ≤ sizeLine ∧ ∀ p : Addr, J7 p = none → (tIfS (tTest (tOp (rNeD K) (tCall (spToldW K C) [] E0 (tCons (tMake C (fun vs H Q _ => spCInit K C CN vs H Q E0) [] E0 (tCons (tOp (rIxL K) (tVar 3) (tC (.int 0))) (tCons (tOp (rIxL K) (tVar 3) (tC (.int 1))) (tCons (tOp (rIxL K) (tVar 3) (tC (.int 2))) tNil)))) (tCons (tOp (rIxL K) (tVar 4) (tC (.int 0))) tNil))) (tVar 6))) (tRet (tC (.bl false))) (fun D σ H => D.nx σ H)) { nx := fun σ H' => ∃ y1 y2 y3 y4 y5 y6 : Option V, σ = [some (.ref a), y1, y2, y3, y4, y5, y6] ∧ H' L = some (.lst xs), rt := Q } [some (.ref a), some (.int c), some (.ref l), some (.ref P), some (.ref F), some (.str (PyData.list [dG qs hss tss, .list [d0, d1, d2]]).shown), some (.ref p)] (upd J7 p (.tup [V.str "shares", V.non]))) := fun e J7 s7 => ⟨by decide, fun p hp => fin _ _ (s7.trans (same_new hp _)) (by rw [e]; exact ⟨p, rfl, upd_same⟩)⟩
          cases d0 with
          | list es =>
            cases dv0 with
            | @lst a0 x0 _ h0 _ t0 =>
            have l0 := t0.len
            have GL := fun (S : Hp) (s : Same H5 S) => s _ _ hF5
            have evalLen : ∀ {S : Hp}, Same H5 S → True := fun _ => trivial
            by_cases hw : es.length = ww
            · have ea : ansW (ww : Int) (.list es) = ansS (.list es) := by
                unfold ansW badW ansS
                rw [if_pos (show lenOk (lenD (.list es)) (ww : Int) (ww : Int) = true from lenOk_iff.mpr (by omega))]
              rw [← ea] at hr4
              have dl : decide (V.int (x0.length : Int) = V.int (cs.length : Int)) = true := decide_eq_true (by rw [l0, csl, hw])
              cases eb : badS (.list es) with
              | none =>
                have en : ansW (ww : Int) (.list es) = none := by rw [ea]; unfold ansS; rw [eb]; rfl
                have ev : rv4 = .non := by rw [en] at hr4; exact hr4
                subst ev
                refine ⟨_, rfl, rfl, _, rfl, iteT ?_⟩
                refine ⟨_, rfl, F, _, 0, .ref a0, rfl, rfl, SqL.of (s6 _ _ hF5), atI_nat (j := 0) rfl, a0, x0, rfl, .inl (SqL.of (s6 _ _ h0)), _, rfl, P, _, 0, .ref A, rfl, rfl, SqL.of (s6 _ _ e1), atI_nat (j := 0) rfl, A, cs, rfl, .inl (SqL.of (s6 _ _ e2)), rfl, _, rfl, ?_⟩
                rw [dl]
                refine iteF ?_
                refine ⟨_, rfl, F, _, 0, .ref a0, rfl, rfl, SqL.of (s6 _ _ hF5), atI_nat (j := 0) rfl, _, _, _, _, isL (.list es), rfl, .ty "list", .base (.lst (s6 _ _ h0)), kit_ty (kit_isL (.list es)), _, rfl, iteT ?_⟩
                refine ⟨_, rfl, F, _, 0, .ref a0, rfl, rfl, SqL.of (s6 _ _ hF5), atI_nat (j := 0) rfl, a0, x0, rfl, .inl (SqL.of (s6 _ _ h0)), _, rfl, P, _, 0, .ref A, rfl, rfl, SqL.of (s6 _ _ e1), atI_nat (j := 0) rfl, A, cs, rfl, .inl (SqL.of (s6 _ _ e2)), rfl, _, rfl, ?_⟩
                rw [dl]
                exact iteF (fin _ _ s6 hr4)
              | some nb =>
                have en : ansW (ww : Int) (.list es) = some (("shares" : Str), nb) := by rw [ea]; unfold ansS; rw [eb]; rfl
                have hr4' := hr4
                rw [en] at hr4'
                obtain ⟨ad, rfl, hd4⟩ := hr4'
                refine ⟨_, rfl, rfl, _, rfl, iteF (iteF ?_)⟩
                refine ⟨_, rfl, F, _, 0, .ref a0, rfl, rfl, SqL.of (s6 _ _ hF5), atI_nat (j := 0) rfl, _, _, _, _, isL (.list es), rfl, .ty "list", .base (.lst (s6 _ _ h0)), kit_ty (kit_isL (.list es)), _, rfl, iteT ?_⟩
                refine ⟨_, rfl, F, _, 0, .ref a0, rfl, rfl, SqL.of (s6 _ _ hF5), atI_nat (j := 0) rfl, a0, x0, rfl, .inl (SqL.of (s6 _ _ h0)), _, rfl, P, _, 0, .ref A, rfl, rfl, SqL.of (s6 _ _ e1), atI_nat (j := 0) rfl, A, cs, rfl, .inl (SqL.of (s6 _ _ e2)), rfl, _, rfl, ?_⟩
                rw [dl]
                exact iteF (fin _ _ s6 hr4)
            · have dl : decide (V.int (x0.length : Int) = V.int (cs.length : Int)) = false := decide_eq_false (fun z => hw (by have := V.int.inj z; omega))
              have es_ := oth rfl hw
              cases eb : badS (.list es) with
              | none =>
                have en : ansS (.list es) = none := by unfold ansS; rw [eb]; rfl
                have ev : rv4 = .non := by rw [en] at hr4; exact hr4
                subst ev
                refine ⟨_, rfl, rfl, _, rfl, iteT ?_⟩
                refine ⟨_, rfl, F, _, 0, .ref a0, rfl, rfl, SqL.of (s6 _ _ hF5), atI_nat (j := 0) rfl, a0, x0, rfl, .inl (SqL.of (s6 _ _ h0)), _, rfl, P, _, 0, .ref A, rfl, rfl, SqL.of (s6 _ _ e1), atI_nat (j := 0) rfl, A, cs, rfl, .inl (SqL.of (s6 _ _ e2)), rfl, _, rfl, ?_⟩
                rw [dl]
                exact iteT (iteT (set_ es_ _ s6))
              | some nb =>
                have en : ansS (.list es) = some (("shares" : Str), nb) := by unfold ansS; rw [eb]; rfl
                rw [en] at hr4
                obtain ⟨ad, rfl, hd4⟩ := hr4
                refine ⟨_, rfl, rfl, _, rfl, iteF (iteF ?_)⟩
                refine ⟨_, rfl, F, _, 0, .ref a0, rfl, rfl, SqL.of (s6 _ _ hF5), atI_nat (j := 0) rfl, _, _, _, _, isL (.list es), rfl, .ty "list", .base (.lst (s6 _ _ h0)), kit_ty (kit_isL (.list es)), _, rfl, iteT ?_⟩
                refine ⟨_, rfl, F, _, 0, .ref a0, rfl, rfl, SqL.of (s6 _ _ hF5), atI_nat (j := 0) rfl, a0, x0, rfl, .inl (SqL.of (s6 _ _ h0)), _, rfl, P, _, 0, .ref A, rfl, rfl, SqL.of (s6 _ _ e1), atI_nat (j := 0) rfl, A, cs, rfl, .inl (SqL.of (s6 _ _ e2)), rfl, _, rfl, ?_⟩
                rw [dl]
                exact iteT (set_ es_ _ s6)
          | _ =>
            obtain ⟨ad, rfl, hd4⟩ := id hr4
            refine ⟨_, rfl, rfl, _, rfl, iteF (iteF ?_)⟩
            refine ⟨_, rfl, F, _, 0, w0, rfl, rfl, SqL.of (s6 _ _ hF5), atI_nat (j := 0) rfl, _, _, _, _, isL _, rfl, .ty "list", (dv0.same s6).ty, kit_ty (kit_isL _), _, rfl, iteF (iteF (fin _ _ s6 hr4))⟩
        | false =>
          refine iteT ?_
          have ne1 : 1 ≤ es.length := by
            cases es with
            | nil => cases ce
            | cons x es => show 1 ≤ es.length + 1; omega
          obtain ⟨A5, B5, C5, cs5, rh5, rt5, j1, j2, j3, j4, j5⟩ := id PA5
          have ll := l00 es rfl
          cases dv0 with
          | @lst a0 x0 _ h0 n0 t0 =>
          refine ⟨_, rfl, _, rfl, F, _, 0, .ref a0, rfl, rfl, SqL.of hF5, atI_nat (j := 0) rfl, _, rfl, P, _, 1, .ref B5, rfl, rfl, SqL.of j1, atI_nat (j := 1) rfl, _, rfl, P, _, 2, .ref C5, rfl, rfl, SqL.of j1, atI_nat (j := 2) rfl, (by show 3 ≤ sizeLine; decide), fun P2 nP2 => ?_⟩
          have s6 := same_new nP2 (.lst [V.ref a0, V.ref B5, V.ref C5])
          refine ⟨l, P2, a0, B5, C5, z4, x0, es, rh5, rt5, hss, tss, 12, ww, dd, rfl, s6 _ _ hl5, upd_same, s6 _ _ h0, t0.same s6, ne1, by omega, it.2, by decide, by decide, j4.same s6, j5.same s6, g.w1, g.w5, g.d1, g.d6, g.hl, g.tl, g.hr, g.tr, fun F' w0' w1' w2' d0' d1' d2' z7 H7 sb7 hl7 hF7 nF7 dx0 dx1 dx2 P00x l00x P11x P12x => ?_⟩
          have PA7 := (PA5.same s6).but (s6 _ _ hl5) sb7
          have hL7 := sb7 _ _ hLl (s6 _ _ hL5)
          clear PA5 hL5 hF5 dv1 dv2 hl5 j1 j2 j3 j4 j5 h0 t0 s6 sb7 nP2 P00 P11 P12 l00 it hce dpe P00'
          obtain ⟨A, B1, C1, cs, rh, rt, e1, e2, e3, e4, e5⟩ := id PA7
          have dzG := parts_dz PA7 hl7
          obtain ⟨pa, pb, pc⟩ := parts_p PA7 g
          have szG : Sz (dG qs hss tss) 4 300000 := sz_three (pa.sm.mono (by decide) (by decide)) pb.sm pc.sm
          have szB : Sz (.list [d0', d1', d2']) 4 300000 := sz_three (P00x.sm.mono (by decide) (by decide)) P11x.sm P12x.sm
          obtain ⟨sh1, sh2, sh3⟩ := sz_line (sz_two szG szB)
          have nFl : F' ≠ l := fun e => by
            rw [e, hl7] at hF7
            cases hF7
          have dzF : Dz.Dz K H7 (fun a => a = l) (.ref F') (.list [d0', d1', d2']) := .lst hF7 nFl (.cons dx0 (.cons dx1 (.cons dx2 .nil)))
          refine ⟨_, rfl, _, rfl, (by show 2 ≤ sizeLine; decide), fun R1 nR1 => ?_⟩
          have sR1 := same_new nR1 (.lst [V.ref P, V.ref F'])
          have eR1 : (upd H7 R1 (.lst [V.ref P, V.ref F'])) R1 = some (.lst [V.ref P, V.ref F']) := upd_same
          generalize upd H7 R1 (.lst [V.ref P, V.ref F']) = J1 at sR1 eR1 ⊢
          have lne : ∀ {G : Hp} {R : Addr}, Same H7 G → G R = some (.lst [V.ref P, V.ref F']) → ¬ (R = l) := fun {G R} s e z => by
            rw [z, s _ _ hl7] at e
            cases e
          refine ⟨fun a => a = l, .ref R1, dG qs hss tss, [.list [d0', d1', d2']], rfl, .lst eR1 (lne sR1 eR1) (.cons (dzG.same sR1) (.cons (dzF.same sR1) .nil)), sh1, sh2, sh3, ?_⟩
          refine ⟨_, rfl, fun a => a = l, F', w0', w1', w2', d0', d1', d2', rfl, sR1 _ _ hF7, dx0.same sR1, dx1.same sR1, dx2.same sR1, P00x.few (by decide), P11x.few, P12x.few, fun rv1 J2 sJ2 hr1 => ?_⟩
          have s2 := sR1.trans sJ2
          refine ⟨_, rfl, fun a => a = l, F', w0', w1', w2', d0', d1', d2', rfl, s2 _ _ hF7, dx0.same s2, dx1.same s2, dx2.same s2, P00x.ce (by decide), P11x.ce, P12x.ce, fun rv2 J3 sJ3 hr2 => ?_⟩
          have s3 := s2.trans sJ3
          have okc := okA_C d0' d1' d2'
          refine ⟨_, _, (hr1.same sJ3).dp okc, hr2.dp okc, datA_sh okc, datA_sh okc, _, rfl, ?_⟩
          rw [SeqAt.eqv_refl _ (datA_lay okc)]
          refine iteF ?_
          refine ⟨_, rfl, fun a => a = l, P, .ref A, .ref B1, .ref C1, dS qs, dRows hss, dRows tss, rfl, s3 _ _ e1, ?_, ?_, ?_, pa.few (by decide), pb.few, pc.few, fun rv3 J4 sJ4 hr3 => ?_⟩
          · cases dzG with
            | lst h hn t =>
              rw [e1] at h
              cases h
              cases t with
              | cons h1 t => exact h1.same s3
          · cases dzG with
            | lst h hn t =>
              rw [e1] at h
              cases h
              cases t with
              | cons h1 t =>
                cases t with
                | cons h2 t => exact h2.same s3
          · cases dzG with
            | lst h hn t =>
              rw [e1] at h
              cases h
              cases t with
              | cons h1 t =>
                cases t with
                | cons h2 t =>
                  cases t with
                  | cons h3 t => exact h3.same s3
          have s4 := s3.trans sJ4
          rw [badC_good g] at hr3
          cases (show rv3 = .non from hr3)
          refine ⟨rfl, _, rfl, iteF ?_⟩
          refine ⟨_, rfl, _, rfl, (by show 2 ≤ sizeLine; decide), fun R2 nR2 => ?_⟩
          have sR2 := same_new nR2 (.lst [V.ref P, V.ref F'])
          have eR2 : (upd J4 R2 (.lst [V.ref P, V.ref F'])) R2 = some (.lst [V.ref P, V.ref F']) := upd_same
          generalize upd J4 R2 (.lst [V.ref P, V.ref F']) = J5 at sR2 eR2 ⊢
          have s5 := s4.trans sR2
          refine ⟨fun a => a = l, .ref R2, dG qs hss tss, [.list [d0', d1', d2']], rfl, .lst eR2 (lne s5 eR2) (.cons (dzG.same s5) (.cons (dzF.same s5) .nil)), sh1, sh2, sh3, _, rfl, rfl, _, rfl, ?_⟩
          rw [decide_eq_true rfl]
          refine iteF ?_
          -- the shares
          refine ⟨_, rfl, F', _, 0, w0', rfl, rfl, SqL.of (s5 _ _ hF7), atI_nat (j := 0) rfl, fun a => a = l, w0', d0', rfl, dx0.same s5, P00x.ce (by decide), fun rv4 J6 sJ6 hr4 => ?_⟩
          have s6 := s5.trans sJ6
          have gw : qs.length = ww := g.sh.1
          have csl : cs.length = ww := by rw [e3.len]; exact gw
          have fin : ∀ (dv : V) (J7 : Hp), Same H7 J7 → RvT J7 dv (ansW (ww : Int) d0') → (tIfS (tTest (tOp (rNeD K) (tCall (spToldW K C) [] E0 (tCons (tMake C (fun vs H Q _ => spCInit K C CN vs H Q E0) [] E0 (tCons (tOp (rIxL K) (tVar 3) (tC (.int 0))) (tCons (tOp (rIxL K) (tVar 3) (tC (.int 1))) (tCons (tOp (rIxL K) (tVar 3) (tC (.int 2))) tNil)))) (tCons (tOp (rIxL K) (tVar 4) (tC (.int 0))) tNil))) (tVar 6))) (tRet (tC (.bl false))) (fun D σ H => D.nx σ H)) { nx := fun σ H' => ∃ y1 y2 y3 y4 y5 y6 : Option V, σ = [some (.ref a), y1, y2, y3, y4, y5, y6] ∧ H' L = some (.lst xs), rt := Q } [some (.ref a), some (.int c), some (.ref l), some (.ref P), some (.ref F'), some (.str (PyData.list [dG qs hss tss, .list [d0', d1', d2']]).shown), some dv] J7 := fun dv J7 s7 hr => by
            refine ⟨_, rfl, P, _, 0, .ref A, rfl, rfl, SqL.of (s7 _ _ e1), atI_nat (j := 0) rfl, _, rfl, P, _, 1, .ref B1, rfl, rfl, SqL.of (s7 _ _ e1), atI_nat (j := 1) rfl, _, rfl, P, _, 2, .ref C1, rfl, rfl, SqL.of (s7 _ _ e1), atI_nat (j := 2) rfl, ?_⟩
            dsimp only [tNil]
            refine mk_caseG (s7 _ _ e2) (e3.same s7) (e4.same s7) (e5.same s7) g fun x J8 s8 hx8 hc8 => ?_
            have s78 := s7.trans s8
            refine ⟨_, rfl, F', _, 0, w0', rfl, rfl, SqL.of (s78 _ _ hF7), atI_nat (j := 0) rfl, fun a => a = l, 16, x, w0', d0', qs, hss, tss, ww, dd, rfl, hc8, g, (fun a ha z => by rw [ha, s78 _ _ hl7] at z; cases z), dx0.same s78, by decide, P00x.few (Nat.le_refl _), fun rv5 J9 s9 hr5 => ?_⟩
            have okw := okA_W (ww : Int) d0'
            refine ⟨_, rfl, _, _, hr5.dp okw, (hr.same (s8.trans s9)).dp okw, datA_sh okw, datA_sh okw, _, rfl, ?_⟩
            rw [SeqAt.eqv_refl _ (datA_lay okw)]
            exact iteF ⟨_, _, _, _, _, _, rfl, (s78.trans s9) _ _ hL7⟩
          have oth : ∀ {es : List PyData}, d0' = .list es → es.length ≠ ww → ansW (ww : Int) d0' = some (("shares" : Str), V.non) := fun {es} e hne => by
            unfold ansW badW
            rw [e, if_neg (fun z => hne (by have := lenOk_iff.mp (show lenOk (some es.length) (ww : Int) (ww : Int) = true from z); omega))]
            rfl
          have set_ : ansW (ww : Int) d0' = some (("shares" : Str), V.non) → ∀ J7, Same H7 J7 → (2 ≤ sizeLine ∧ ∀ p : Addr, J7 p = none → (tIfS (tTest (tOp (rNeD K) (tCall (spToldW K C) [] E0 (tCons (tMake C (fun vs H Q _ => spCInit K C CN vs H Q E0) [] E0 (tCons (tOp (rIxL K) (tVar 3) (tC (.int 0))) (tCons (tOp (rIxL K) (tVar 3) (tC (.int 1))) (tCons (tOp (rIxL K) (tVar 3) (tC (.int 2))) tNil)))) (tCons (tOp (rIxL K) (tVar 4) (tC (.int 0))) tNil))) (tVar 6))) (tRet (tC (.bl false))) (fun D σ H => D.nx σ H)) { nx := fun σ H' => ∃ y1 y2 y3 y4 y5 y6 : Option V, σ = [some (.ref a), y1, y2, y3, y4, y5, y6] ∧ H' L = some (.lst xs), rt := Q } [some (.ref a), some (.int c), some (.ref l), some (.ref P), some (.ref F'), some (.str (PyData.list [dG qs hss tss, .list [d0', d1', d2']]).shown), some (.ref p)] (upd J7 p (.tup [V.str "shares", V.non]))) := fun e J7 s7 => ⟨by decide, fun p hp => fin _ _ (s7.trans (same_new hp _)) (by rw [e]; exact ⟨p, rfl, upd_same⟩)⟩
          cases d0' with
          | list es =>
            cases dx0 with
            | @lst a0 x0 _ h0 _ t0 =>
            have l0 := t0.len
            have GL := fun (S : Hp) (s : Same H7 S) => s _ _ hF7
            have evalLen : ∀ {S : Hp}, Same H7 S → True := fun _ => trivial
            by_cases hw : es.length = ww
            · have ea : ansW (ww : Int) (.list es) = ansS (.list es) := by
                unfold ansW badW ansS
                rw [if_pos (show lenOk (lenD (.list es)) (ww : Int) (ww : Int) = true from lenOk_iff.mpr (by omega))]
              rw [← ea] at hr4
              have dl : decide (V.int (x0.length : Int) = V.int (cs.length : Int)) = true := decide_eq_true (by rw [l0, csl, hw])
              cases eb : badS (.list es) with
              | none =>
                have en : ansW (ww : Int) (.list es) = none := by rw [ea]; unfold ansS; rw [eb]; rfl
                have ev : rv4 = .non := by rw [en] at hr4; exact hr4
                subst ev
                refine ⟨_, rfl, rfl, _, rfl, iteT ?_⟩
                refine ⟨_, rfl, F', _, 0, .ref a0, rfl, rfl, SqL.of (s6 _ _ hF7), atI_nat (j := 0) rfl, a0, x0, rfl, .inl (SqL.of (s6 _ _ h0)), _, rfl, P, _, 0, .ref A, rfl, rfl, SqL.of (s6 _ _ e1), atI_nat (j := 0) rfl, A, cs, rfl, .inl (SqL.of (s6 _ _ e2)), rfl, _, rfl, ?_⟩
                rw [dl]
                refine iteF ?_
                refine ⟨_, rfl, F', _, 0, .ref a0, rfl, rfl, SqL.of (s6 _ _ hF7), atI_nat (j := 0) rfl, _, _, _, _, isL (.list es), rfl, .ty "list", .base (.lst (s6 _ _ h0)), kit_ty (kit_isL (.list es)), _, rfl, iteT ?_⟩
                refine ⟨_, rfl, F', _, 0, .ref a0, rfl, rfl, SqL.of (s6 _ _ hF7), atI_nat (j := 0) rfl, a0, x0, rfl, .inl (SqL.of (s6 _ _ h0)), _, rfl, P, _, 0, .ref A, rfl, rfl, SqL.of (s6 _ _ e1), atI_nat (j := 0) rfl, A, cs, rfl, .inl (SqL.of (s6 _ _ e2)), rfl, _, rfl, ?_⟩
                rw [dl]
                exact iteF (fin _ _ s6 hr4)
              | some nb =>
                have en : ansW (ww : Int) (.list es) = some (("shares" : Str), nb) := by rw [ea]; unfold ansS; rw [eb]; rfl
                have hr4' := hr4
                rw [en] at hr4'
                obtain ⟨ad, rfl, hd4⟩ := hr4'
                refine ⟨_, rfl, rfl, _, rfl, iteF (iteF ?_)⟩
                refine ⟨_, rfl, F', _, 0, .ref a0, rfl, rfl, SqL.of (s6 _ _ hF7), atI_nat (j := 0) rfl, _, _, _, _, isL (.list es), rfl, .ty "list", .base (.lst (s6 _ _ h0)), kit_ty (kit_isL (.list es)), _, rfl, iteT ?_⟩
                refine ⟨_, rfl, F', _, 0, .ref a0, rfl, rfl, SqL.of (s6 _ _ hF7), atI_nat (j := 0) rfl, a0, x0, rfl, .inl (SqL.of (s6 _ _ h0)), _, rfl, P, _, 0, .ref A, rfl, rfl, SqL.of (s6 _ _ e1), atI_nat (j := 0) rfl, A, cs, rfl, .inl (SqL.of (s6 _ _ e2)), rfl, _, rfl, ?_⟩
                rw [dl]
                exact iteF (fin _ _ s6 hr4)
            · have dl : decide (V.int (x0.length : Int) = V.int (cs.length : Int)) = false := decide_eq_false (fun z => hw (by have := V.int.inj z; omega))
              have es_ := oth rfl hw
              cases eb : badS (.list es) with
              | none =>
                have en : ansS (.list es) = none := by unfold ansS; rw [eb]; rfl
                have ev : rv4 = .non := by rw [en] at hr4; exact hr4
                subst ev
                refine ⟨_, rfl, rfl, _, rfl, iteT ?_⟩
                refine ⟨_, rfl, F', _, 0, .ref a0, rfl, rfl, SqL.of (s6 _ _ hF7), atI_nat (j := 0) rfl, a0, x0, rfl, .inl (SqL.of (s6 _ _ h0)), _, rfl, P, _, 0, .ref A, rfl, rfl, SqL.of (s6 _ _ e1), atI_nat (j := 0) rfl, A, cs, rfl, .inl (SqL.of (s6 _ _ e2)), rfl, _, rfl, ?_⟩
                rw [dl]
                exact iteT (iteT (set_ es_ _ s6))
              | some nb =>
                have en : ansS (.list es) = some (("shares" : Str), nb) := by unfold ansS; rw [eb]; rfl
                rw [en] at hr4
                obtain ⟨ad, rfl, hd4⟩ := hr4
                refine ⟨_, rfl, rfl, _, rfl, iteF (iteF ?_)⟩
                refine ⟨_, rfl, F', _, 0, .ref a0, rfl, rfl, SqL.of (s6 _ _ hF7), atI_nat (j := 0) rfl, _, _, _, _, isL (.list es), rfl, .ty "list", .base (.lst (s6 _ _ h0)), kit_ty (kit_isL (.list es)), _, rfl, iteT ?_⟩
                refine ⟨_, rfl, F', _, 0, .ref a0, rfl, rfl, SqL.of (s6 _ _ hF7), atI_nat (j := 0) rfl, a0, x0, rfl, .inl (SqL.of (s6 _ _ h0)), _, rfl, P, _, 0, .ref A, rfl, rfl, SqL.of (s6 _ _ e1), atI_nat (j := 0) rfl, A, cs, rfl, .inl (SqL.of (s6 _ _ e2)), rfl, _, rfl, ?_⟩
                rw [dl]
                exact iteT (set_ es_ _ s6)
          | _ =>
            obtain ⟨ad, rfl, hd4⟩ := id hr4
            refine ⟨_, rfl, rfl, _, rfl, iteF (iteF ?_)⟩
            refine ⟨_, rfl, F', _, 0, w0', rfl, rfl, SqL.of (s6 _ _ hF7), atI_nat (j := 0) rfl, _, _, _, _, isL _, rfl, .ty "list", (dx0.same s6).ty, kit_ty (kit_isL _), _, rfl, iteF (iteF (fin _ _ s6 hr4))⟩
end
end K5

set_option Elab.async false
set_option linter.all false
set_option maxRecDepth 100000
set_option maxHeartbeats 8000000
namespace K5
open PySem PySem.Spec PyProof.Rows L2 BX EXB Co Ru
open Dz Cs
theorem all_mk {l : PySem.W.OpenLaw} {w : World} {K : PySem.W.Frag} {h : Heap} {mg : Str → Option Value} {fa f_d_is_whole f_d_is_ratio f_d_plus f_d_lowest f_d_divisor f_d_is_list_of f_d_is_share f_d_is_ratio_row f_d_wrong_row f_d_copied_rows f_d_check_shares f_d_check_gains f_d_law_left f_d_law_digit f_d_law_low f_d_law_plus f_d_law_less f_d_law_shares f_d_law_gain f_d_law_gains f_d_law_parts f_d_law_whole f_d_law_is_ratio f_d_law_shares_due f_d_law_due f_d_law_bent f_d_law_told f_d_law_told_with f_d_law f_d_total T_d_total C_N f_i_N C_C f_m_C_init f_m_C_worlds f_m_C_with_shares : Addr} (X : K.In h) (G : h.Ns mainGlobals mg) (hfa : mg "law" = some (.ref fa)) {oT_d_total : Obj} {nT_d_total : Nat} {nm_N q_N : Str} {N_N : Addr} {bs_N : List Value} {sn_N : List Str} {su_N : List Value} {ab_N : Bool} {co_N : Option Bool} {dd_N : Option Addr} {m0_N m1_N m2_N m3_N m5_N : Option Value} {tk5 : Tok} {tk6 : Tok}
    {od_d_is_whole an_d_is_whole : Option Addr} {sl_d_is_whole : Array (Option Value)} {oc_d_is_whole kV_d_is_whole dc_d_is_whole pm_d_is_whole cd_d_is_whole ct_d_is_whole : Value}
    {od_d_is_ratio an_d_is_ratio : Option Addr} {sl_d_is_ratio : Array (Option Value)} {oc_d_is_ratio kV_d_is_ratio dc_d_is_ratio pm_d_is_ratio cd_d_is_ratio ct_d_is_ratio : Value}
    {od_d_plus an_d_plus : Option Addr} {sl_d_plus : Array (Option Value)} {oc_d_plus kV_d_plus dc_d_plus pm_d_plus cd_d_plus ct_d_plus : Value}
    {od_d_lowest an_d_lowest : Option Addr} {sl_d_lowest : Array (Option Value)} {oc_d_lowest kV_d_lowest dc_d_lowest pm_d_lowest cd_d_lowest ct_d_lowest : Value}
    {od_d_divisor an_d_divisor : Option Addr} {sl_d_divisor : Array (Option Value)} {oc_d_divisor kV_d_divisor dc_d_divisor pm_d_divisor cd_d_divisor ct_d_divisor : Value}
    {od_d_is_list_of an_d_is_list_of : Option Addr} {sl_d_is_list_of : Array (Option Value)} {oc_d_is_list_of kV_d_is_list_of dc_d_is_list_of pm_d_is_list_of cd_d_is_list_of ct_d_is_list_of : Value}
    {od_d_is_share an_d_is_share : Option Addr} {sl_d_is_share : Array (Option Value)} {oc_d_is_share kV_d_is_share dc_d_is_share pm_d_is_share cd_d_is_share ct_d_is_share : Value}
    {od_d_is_ratio_row an_d_is_ratio_row : Option Addr} {sl_d_is_ratio_row : Array (Option Value)} {oc_d_is_ratio_row kV_d_is_ratio_row dc_d_is_ratio_row pm_d_is_ratio_row cd_d_is_ratio_row ct_d_is_ratio_row : Value}
    {od_d_wrong_row an_d_wrong_row : Option Addr} {sl_d_wrong_row : Array (Option Value)} {oc_d_wrong_row kV_d_wrong_row dc_d_wrong_row pm_d_wrong_row cd_d_wrong_row ct_d_wrong_row : Value}
    {od_d_copied_rows an_d_copied_rows : Option Addr} {sl_d_copied_rows : Array (Option Value)} {oc_d_copied_rows kV_d_copied_rows dc_d_copied_rows pm_d_copied_rows cd_d_copied_rows ct_d_copied_rows : Value}
    {od_d_check_shares an_d_check_shares : Option Addr} {sl_d_check_shares : Array (Option Value)} {oc_d_check_shares kV_d_check_shares dc_d_check_shares pm_d_check_shares cd_d_check_shares ct_d_check_shares : Value}
    {od_d_check_gains an_d_check_gains : Option Addr} {sl_d_check_gains : Array (Option Value)} {oc_d_check_gains kV_d_check_gains dc_d_check_gains pm_d_check_gains cd_d_check_gains ct_d_check_gains : Value}
    {od_d_law_left an_d_law_left : Option Addr} {sl_d_law_left : Array (Option Value)} {oc_d_law_left kV_d_law_left dc_d_law_left pm_d_law_left cd_d_law_left ct_d_law_left : Value}
    {od_d_law_digit an_d_law_digit : Option Addr} {sl_d_law_digit : Array (Option Value)} {oc_d_law_digit kV_d_law_digit dc_d_law_digit pm_d_law_digit cd_d_law_digit ct_d_law_digit : Value}
    {od_d_law_low an_d_law_low : Option Addr} {sl_d_law_low : Array (Option Value)} {oc_d_law_low kV_d_law_low dc_d_law_low pm_d_law_low cd_d_law_low ct_d_law_low : Value}
    {od_d_law_plus an_d_law_plus : Option Addr} {sl_d_law_plus : Array (Option Value)} {oc_d_law_plus kV_d_law_plus dc_d_law_plus pm_d_law_plus cd_d_law_plus ct_d_law_plus : Value}
    {od_d_law_less an_d_law_less : Option Addr} {sl_d_law_less : Array (Option Value)} {oc_d_law_less kV_d_law_less dc_d_law_less pm_d_law_less cd_d_law_less ct_d_law_less : Value}
    {od_d_law_shares an_d_law_shares : Option Addr} {sl_d_law_shares : Array (Option Value)} {oc_d_law_shares kV_d_law_shares dc_d_law_shares pm_d_law_shares cd_d_law_shares ct_d_law_shares : Value}
    {od_d_law_gain an_d_law_gain : Option Addr} {sl_d_law_gain : Array (Option Value)} {oc_d_law_gain kV_d_law_gain dc_d_law_gain pm_d_law_gain cd_d_law_gain ct_d_law_gain : Value}
    {od_d_law_gains an_d_law_gains : Option Addr} {sl_d_law_gains : Array (Option Value)} {oc_d_law_gains kV_d_law_gains dc_d_law_gains pm_d_law_gains cd_d_law_gains ct_d_law_gains : Value}
    {od_d_law_parts an_d_law_parts : Option Addr} {sl_d_law_parts : Array (Option Value)} {oc_d_law_parts kV_d_law_parts dc_d_law_parts pm_d_law_parts cd_d_law_parts ct_d_law_parts : Value}
    {od_d_law_whole an_d_law_whole : Option Addr} {sl_d_law_whole : Array (Option Value)} {oc_d_law_whole kV_d_law_whole dc_d_law_whole pm_d_law_whole cd_d_law_whole ct_d_law_whole : Value}
    {od_d_law_is_ratio an_d_law_is_ratio : Option Addr} {sl_d_law_is_ratio : Array (Option Value)} {oc_d_law_is_ratio kV_d_law_is_ratio dc_d_law_is_ratio pm_d_law_is_ratio cd_d_law_is_ratio ct_d_law_is_ratio : Value}
    {od_d_law_shares_due an_d_law_shares_due : Option Addr} {sl_d_law_shares_due : Array (Option Value)} {oc_d_law_shares_due kV_d_law_shares_due dc_d_law_shares_due pm_d_law_shares_due cd_d_law_shares_due ct_d_law_shares_due : Value}
    {od_d_law_due an_d_law_due : Option Addr} {sl_d_law_due : Array (Option Value)} {oc_d_law_due kV_d_law_due dc_d_law_due pm_d_law_due cd_d_law_due ct_d_law_due : Value}
    {od_d_law_bent an_d_law_bent : Option Addr} {sl_d_law_bent : Array (Option Value)} {oc_d_law_bent kV_d_law_bent dc_d_law_bent pm_d_law_bent cd_d_law_bent ct_d_law_bent : Value}
    {od_d_law_told an_d_law_told : Option Addr} {sl_d_law_told : Array (Option Value)} {oc_d_law_told kV_d_law_told dc_d_law_told pm_d_law_told cd_d_law_told ct_d_law_told : Value}
    {od_d_law_told_with an_d_law_told_with : Option Addr} {sl_d_law_told_with : Array (Option Value)} {oc_d_law_told_with kV_d_law_told_with dc_d_law_told_with pm_d_law_told_with cd_d_law_told_with ct_d_law_told_with : Value}
    {od_d_law an_d_law : Option Addr} {sl_d_law : Array (Option Value)} {oc_d_law kV_d_law dc_d_law pm_d_law cd_d_law ct_d_law : Value}
    {od_d_total an_d_total : Option Addr} {sl_d_total : Array (Option Value)} {oc_d_total kV_d_total dc_d_total pm_d_total cd_d_total ct_d_total : Value}
    {od_i_N an_i_N : Option Addr} {sl_i_N : Array (Option Value)} {oc_i_N kV_i_N dc_i_N pm_i_N cd_i_N ct_i_N : Value}
    {od_m_C_init an_m_C_init : Option Addr} {sl_m_C_init : Array (Option Value)} {oc_m_C_init kV_m_C_init dc_m_C_init pm_m_C_init cd_m_C_init ct_m_C_init : Value}
    {od_m_C_worlds an_m_C_worlds : Option Addr} {sl_m_C_worlds : Array (Option Value)} {oc_m_C_worlds kV_m_C_worlds dc_m_C_worlds pm_m_C_worlds cd_m_C_worlds ct_m_C_worlds : Value}
    {od_m_C_with_shares an_m_C_with_shares : Option Addr} {sl_m_C_with_shares : Array (Option Value)} {oc_m_C_with_shares kV_m_C_with_shares dc_m_C_with_shares pm_m_C_with_shares cd_m_C_with_shares ct_m_C_with_shares : Value}
    (a_d_is_whole : PySem.W.nsIn K mainGlobals "is_whole" = some (some (.ref f_d_is_whole)))
    (l_d_is_whole : K.lookup f_d_is_whole = some ⟨oc_d_is_whole, od_d_is_whole, .func (PySem.W.fnOf "is_whole" "is_whole" (defArgs sWhole) (defBody sWhole) (defScope sWhole) .none kV_d_is_whole dc_d_is_whole pm_d_is_whole an_d_is_whole cd_d_is_whole ct_d_is_whole), sl_d_is_whole⟩)
    (c_d_is_whole : PySem.W.codeIn K cd_d_is_whole "is_whole" = true)
    (k_d_is_whole : PySem.W.keepIn K (.ref f_d_is_whole) = true)
    (a_d_is_ratio : PySem.W.nsIn K mainGlobals "is_ratio" = some (some (.ref f_d_is_ratio)))
    (l_d_is_ratio : K.lookup f_d_is_ratio = some ⟨oc_d_is_ratio, od_d_is_ratio, .func (PySem.W.fnOf "is_ratio" "is_ratio" (defArgs sIsR) (defBody sIsR) (defScope sIsR) .none kV_d_is_ratio dc_d_is_ratio pm_d_is_ratio an_d_is_ratio cd_d_is_ratio ct_d_is_ratio), sl_d_is_ratio⟩)
    (c_d_is_ratio : PySem.W.codeIn K cd_d_is_ratio "is_ratio" = true)
    (k_d_is_ratio : PySem.W.keepIn K (.ref f_d_is_ratio) = true)
    (a_d_plus : PySem.W.nsIn K mainGlobals "plus" = some (some (.ref f_d_plus)))
    (l_d_plus : K.lookup f_d_plus = some ⟨oc_d_plus, od_d_plus, .func (PySem.W.fnOf "plus" "plus" (defArgs sPlus) (defBody sPlus) (defScope sPlus) .none kV_d_plus dc_d_plus pm_d_plus an_d_plus cd_d_plus ct_d_plus), sl_d_plus⟩)
    (c_d_plus : PySem.W.codeIn K cd_d_plus "plus" = true)
    (k_d_plus : PySem.W.keepIn K (.ref f_d_plus) = true)
    (a_d_lowest : PySem.W.nsIn K mainGlobals "lowest" = some (some (.ref f_d_lowest)))
    (l_d_lowest : K.lookup f_d_lowest = some ⟨oc_d_lowest, od_d_lowest, .func (PySem.W.fnOf "lowest" "lowest" (defArgs sLowest) (defBody sLowest) (defScope sLowest) .none kV_d_lowest dc_d_lowest pm_d_lowest an_d_lowest cd_d_lowest ct_d_lowest), sl_d_lowest⟩)
    (c_d_lowest : PySem.W.codeIn K cd_d_lowest "lowest" = true)
    (k_d_lowest : PySem.W.keepIn K (.ref f_d_lowest) = true)
    (a_d_divisor : PySem.W.nsIn K mainGlobals "divisor" = some (some (.ref f_d_divisor)))
    (l_d_divisor : K.lookup f_d_divisor = some ⟨oc_d_divisor, od_d_divisor, .func (PySem.W.fnOf "divisor" "divisor" (defArgs sDiv) (defBody sDiv) (defScope sDiv) .none kV_d_divisor dc_d_divisor pm_d_divisor an_d_divisor cd_d_divisor ct_d_divisor), sl_d_divisor⟩)
    (c_d_divisor : PySem.W.codeIn K cd_d_divisor "divisor" = true)
    (k_d_divisor : PySem.W.keepIn K (.ref f_d_divisor) = true)
    (a_d_is_list_of : PySem.W.nsIn K mainGlobals "is_list_of" = some (some (.ref f_d_is_list_of)))
    (l_d_is_list_of : K.lookup f_d_is_list_of = some ⟨oc_d_is_list_of, od_d_is_list_of, .func (PySem.W.fnOf "is_list_of" "is_list_of" (defArgs sListOf) (defBody sListOf) (defScope sListOf) .none kV_d_is_list_of dc_d_is_list_of pm_d_is_list_of an_d_is_list_of cd_d_is_list_of ct_d_is_list_of), sl_d_is_list_of⟩)
    (c_d_is_list_of : PySem.W.codeIn K cd_d_is_list_of "is_list_of" = true)
    (k_d_is_list_of : PySem.W.keepIn K (.ref f_d_is_list_of) = true)
    (a_d_is_share : PySem.W.nsIn K mainGlobals "is_share" = some (some (.ref f_d_is_share)))
    (l_d_is_share : K.lookup f_d_is_share = some ⟨oc_d_is_share, od_d_is_share, .func (PySem.W.fnOf "is_share" "is_share" (defArgs sShare) (defBody sShare) (defScope sShare) .none kV_d_is_share dc_d_is_share pm_d_is_share an_d_is_share cd_d_is_share ct_d_is_share), sl_d_is_share⟩)
    (c_d_is_share : PySem.W.codeIn K cd_d_is_share "is_share" = true)
    (k_d_is_share : PySem.W.keepIn K (.ref f_d_is_share) = true)
    (a_d_is_ratio_row : PySem.W.nsIn K mainGlobals "is_ratio_row" = some (some (.ref f_d_is_ratio_row)))
    (l_d_is_ratio_row : K.lookup f_d_is_ratio_row = some ⟨oc_d_is_ratio_row, od_d_is_ratio_row, .func (PySem.W.fnOf "is_ratio_row" "is_ratio_row" (defArgs sRRow) (defBody sRRow) (defScope sRRow) .none kV_d_is_ratio_row dc_d_is_ratio_row pm_d_is_ratio_row an_d_is_ratio_row cd_d_is_ratio_row ct_d_is_ratio_row), sl_d_is_ratio_row⟩)
    (c_d_is_ratio_row : PySem.W.codeIn K cd_d_is_ratio_row "is_ratio_row" = true)
    (k_d_is_ratio_row : PySem.W.keepIn K (.ref f_d_is_ratio_row) = true)
    (a_d_wrong_row : PySem.W.nsIn K mainGlobals "wrong_row" = some (some (.ref f_d_wrong_row)))
    (l_d_wrong_row : K.lookup f_d_wrong_row = some ⟨oc_d_wrong_row, od_d_wrong_row, .func (PySem.W.fnOf "wrong_row" "wrong_row" (defArgs sWrong) (defBody sWrong) (defScope sWrong) .none kV_d_wrong_row dc_d_wrong_row pm_d_wrong_row an_d_wrong_row cd_d_wrong_row ct_d_wrong_row), sl_d_wrong_row⟩)
    (c_d_wrong_row : PySem.W.codeIn K cd_d_wrong_row "wrong_row" = true)
    (k_d_wrong_row : PySem.W.keepIn K (.ref f_d_wrong_row) = true)
    (a_d_copied_rows : PySem.W.nsIn K mainGlobals "copied_rows" = some (some (.ref f_d_copied_rows)))
    (l_d_copied_rows : K.lookup f_d_copied_rows = some ⟨oc_d_copied_rows, od_d_copied_rows, .func (PySem.W.fnOf "copied_rows" "copied_rows" (defArgs sCopied) (defBody sCopied) (defScope sCopied) .none kV_d_copied_rows dc_d_copied_rows pm_d_copied_rows an_d_copied_rows cd_d_copied_rows ct_d_copied_rows), sl_d_copied_rows⟩)
    (c_d_copied_rows : PySem.W.codeIn K cd_d_copied_rows "copied_rows" = true)
    (k_d_copied_rows : PySem.W.keepIn K (.ref f_d_copied_rows) = true)
    (a_d_check_shares : PySem.W.nsIn K mainGlobals "check_shares" = some (some (.ref f_d_check_shares)))
    (l_d_check_shares : K.lookup f_d_check_shares = some ⟨oc_d_check_shares, od_d_check_shares, .func (PySem.W.fnOf "check_shares" "check_shares" (defArgs sChkS) (defBody sChkS) (defScope sChkS) .none kV_d_check_shares dc_d_check_shares pm_d_check_shares an_d_check_shares cd_d_check_shares ct_d_check_shares), sl_d_check_shares⟩)
    (c_d_check_shares : PySem.W.codeIn K cd_d_check_shares "check_shares" = true)
    (k_d_check_shares : PySem.W.keepIn K (.ref f_d_check_shares) = true)
    (a_d_check_gains : PySem.W.nsIn K mainGlobals "check_gains" = some (some (.ref f_d_check_gains)))
    (l_d_check_gains : K.lookup f_d_check_gains = some ⟨oc_d_check_gains, od_d_check_gains, .func (PySem.W.fnOf "check_gains" "check_gains" (defArgs sChkG) (defBody sChkG) (defScope sChkG) .none kV_d_check_gains dc_d_check_gains pm_d_check_gains an_d_check_gains cd_d_check_gains ct_d_check_gains), sl_d_check_gains⟩)
    (c_d_check_gains : PySem.W.codeIn K cd_d_check_gains "check_gains" = true)
    (k_d_check_gains : PySem.W.keepIn K (.ref f_d_check_gains) = true)
    (a_d_law_left : PySem.W.nsIn K mainGlobals "_law_left" = some (some (.ref f_d_law_left)))
    (l_d_law_left : K.lookup f_d_law_left = some ⟨oc_d_law_left, od_d_law_left, .func (PySem.W.fnOf "_law_left" "_law_left" (defArgs sLeft) (defBody sLeft) (defScope sLeft) .none kV_d_law_left dc_d_law_left pm_d_law_left an_d_law_left cd_d_law_left ct_d_law_left), sl_d_law_left⟩)
    (c_d_law_left : PySem.W.codeIn K cd_d_law_left "_law_left" = true)
    (k_d_law_left : PySem.W.keepIn K (.ref f_d_law_left) = true)
    (a_d_law_digit : PySem.W.nsIn K mainGlobals "_law_digit" = some (some (.ref f_d_law_digit)))
    (l_d_law_digit : K.lookup f_d_law_digit = some ⟨oc_d_law_digit, od_d_law_digit, .func (PySem.W.fnOf "_law_digit" "_law_digit" (defArgs sDigit) (defBody sDigit) (defScope sDigit) .none kV_d_law_digit dc_d_law_digit pm_d_law_digit an_d_law_digit cd_d_law_digit ct_d_law_digit), sl_d_law_digit⟩)
    (c_d_law_digit : PySem.W.codeIn K cd_d_law_digit "_law_digit" = true)
    (k_d_law_digit : PySem.W.keepIn K (.ref f_d_law_digit) = true)
    (a_d_law_low : PySem.W.nsIn K mainGlobals "_law_low" = some (some (.ref f_d_law_low)))
    (l_d_law_low : K.lookup f_d_law_low = some ⟨oc_d_law_low, od_d_law_low, .func (PySem.W.fnOf "_law_low" "_law_low" (defArgs sLow) (defBody sLow) (defScope sLow) .none kV_d_law_low dc_d_law_low pm_d_law_low an_d_law_low cd_d_law_low ct_d_law_low), sl_d_law_low⟩)
    (c_d_law_low : PySem.W.codeIn K cd_d_law_low "_law_low" = true)
    (k_d_law_low : PySem.W.keepIn K (.ref f_d_law_low) = true)
    (a_d_law_plus : PySem.W.nsIn K mainGlobals "_law_plus" = some (some (.ref f_d_law_plus)))
    (l_d_law_plus : K.lookup f_d_law_plus = some ⟨oc_d_law_plus, od_d_law_plus, .func (PySem.W.fnOf "_law_plus" "_law_plus" (defArgs sLPlus) (defBody sLPlus) (defScope sLPlus) .none kV_d_law_plus dc_d_law_plus pm_d_law_plus an_d_law_plus cd_d_law_plus ct_d_law_plus), sl_d_law_plus⟩)
    (c_d_law_plus : PySem.W.codeIn K cd_d_law_plus "_law_plus" = true)
    (k_d_law_plus : PySem.W.keepIn K (.ref f_d_law_plus) = true)
    (a_d_law_less : PySem.W.nsIn K mainGlobals "_law_less" = some (some (.ref f_d_law_less)))
    (l_d_law_less : K.lookup f_d_law_less = some ⟨oc_d_law_less, od_d_law_less, .func (PySem.W.fnOf "_law_less" "_law_less" (defArgs sLLess) (defBody sLLess) (defScope sLLess) .none kV_d_law_less dc_d_law_less pm_d_law_less an_d_law_less cd_d_law_less ct_d_law_less), sl_d_law_less⟩)
    (c_d_law_less : PySem.W.codeIn K cd_d_law_less "_law_less" = true)
    (k_d_law_less : PySem.W.keepIn K (.ref f_d_law_less) = true)
    (a_d_law_shares : PySem.W.nsIn K mainGlobals "_law_shares" = some (some (.ref f_d_law_shares)))
    (l_d_law_shares : K.lookup f_d_law_shares = some ⟨oc_d_law_shares, od_d_law_shares, .func (PySem.W.fnOf "_law_shares" "_law_shares" (defArgs sShares) (defBody sShares) (defScope sShares) .none kV_d_law_shares dc_d_law_shares pm_d_law_shares an_d_law_shares cd_d_law_shares ct_d_law_shares), sl_d_law_shares⟩)
    (c_d_law_shares : PySem.W.codeIn K cd_d_law_shares "_law_shares" = true)
    (k_d_law_shares : PySem.W.keepIn K (.ref f_d_law_shares) = true)
    (a_d_law_gain : PySem.W.nsIn K mainGlobals "_law_gain" = some (some (.ref f_d_law_gain)))
    (l_d_law_gain : K.lookup f_d_law_gain = some ⟨oc_d_law_gain, od_d_law_gain, .func (PySem.W.fnOf "_law_gain" "_law_gain" (defArgs sGain) (defBody sGain) (defScope sGain) .none kV_d_law_gain dc_d_law_gain pm_d_law_gain an_d_law_gain cd_d_law_gain ct_d_law_gain), sl_d_law_gain⟩)
    (c_d_law_gain : PySem.W.codeIn K cd_d_law_gain "_law_gain" = true)
    (k_d_law_gain : PySem.W.keepIn K (.ref f_d_law_gain) = true)
    (a_d_law_gains : PySem.W.nsIn K mainGlobals "_law_gains" = some (some (.ref f_d_law_gains)))
    (l_d_law_gains : K.lookup f_d_law_gains = some ⟨oc_d_law_gains, od_d_law_gains, .func (PySem.W.fnOf "_law_gains" "_law_gains" (defArgs sGains) (defBody sGains) (defScope sGains) .none kV_d_law_gains dc_d_law_gains pm_d_law_gains an_d_law_gains cd_d_law_gains ct_d_law_gains), sl_d_law_gains⟩)
    (c_d_law_gains : PySem.W.codeIn K cd_d_law_gains "_law_gains" = true)
    (k_d_law_gains : PySem.W.keepIn K (.ref f_d_law_gains) = true)
    (a_d_law_parts : PySem.W.nsIn K mainGlobals "_law_parts" = some (some (.ref f_d_law_parts)))
    (l_d_law_parts : K.lookup f_d_law_parts = some ⟨oc_d_law_parts, od_d_law_parts, .func (PySem.W.fnOf "_law_parts" "_law_parts" (defArgs sParts) (defBody sParts) (defScope sParts) .none kV_d_law_parts dc_d_law_parts pm_d_law_parts an_d_law_parts cd_d_law_parts ct_d_law_parts), sl_d_law_parts⟩)
    (c_d_law_parts : PySem.W.codeIn K cd_d_law_parts "_law_parts" = true)
    (k_d_law_parts : PySem.W.keepIn K (.ref f_d_law_parts) = true)
    (a_d_law_whole : PySem.W.nsIn K mainGlobals "_law_whole" = some (some (.ref f_d_law_whole)))
    (l_d_law_whole : K.lookup f_d_law_whole = some ⟨oc_d_law_whole, od_d_law_whole, .func (PySem.W.fnOf "_law_whole" "_law_whole" (defArgs sLWhole) (defBody sLWhole) (defScope sLWhole) .none kV_d_law_whole dc_d_law_whole pm_d_law_whole an_d_law_whole cd_d_law_whole ct_d_law_whole), sl_d_law_whole⟩)
    (c_d_law_whole : PySem.W.codeIn K cd_d_law_whole "_law_whole" = true)
    (k_d_law_whole : PySem.W.keepIn K (.ref f_d_law_whole) = true)
    (a_d_law_is_ratio : PySem.W.nsIn K mainGlobals "_law_is_ratio" = some (some (.ref f_d_law_is_ratio)))
    (l_d_law_is_ratio : K.lookup f_d_law_is_ratio = some ⟨oc_d_law_is_ratio, od_d_law_is_ratio, .func (PySem.W.fnOf "_law_is_ratio" "_law_is_ratio" (defArgs sLIsR) (defBody sLIsR) (defScope sLIsR) .none kV_d_law_is_ratio dc_d_law_is_ratio pm_d_law_is_ratio an_d_law_is_ratio cd_d_law_is_ratio ct_d_law_is_ratio), sl_d_law_is_ratio⟩)
    (c_d_law_is_ratio : PySem.W.codeIn K cd_d_law_is_ratio "_law_is_ratio" = true)
    (k_d_law_is_ratio : PySem.W.keepIn K (.ref f_d_law_is_ratio) = true)
    (a_d_law_shares_due : PySem.W.nsIn K mainGlobals "_law_shares_due" = some (some (.ref f_d_law_shares_due)))
    (l_d_law_shares_due : K.lookup f_d_law_shares_due = some ⟨oc_d_law_shares_due, od_d_law_shares_due, .func (PySem.W.fnOf "_law_shares_due" "_law_shares_due" (defArgs sShDue) (defBody sShDue) (defScope sShDue) .none kV_d_law_shares_due dc_d_law_shares_due pm_d_law_shares_due an_d_law_shares_due cd_d_law_shares_due ct_d_law_shares_due), sl_d_law_shares_due⟩)
    (c_d_law_shares_due : PySem.W.codeIn K cd_d_law_shares_due "_law_shares_due" = true)
    (k_d_law_shares_due : PySem.W.keepIn K (.ref f_d_law_shares_due) = true)
    (a_d_law_due : PySem.W.nsIn K mainGlobals "_law_due" = some (some (.ref f_d_law_due)))
    (l_d_law_due : K.lookup f_d_law_due = some ⟨oc_d_law_due, od_d_law_due, .func (PySem.W.fnOf "_law_due" "_law_due" (defArgs sDue) (defBody sDue) (defScope sDue) .none kV_d_law_due dc_d_law_due pm_d_law_due an_d_law_due cd_d_law_due ct_d_law_due), sl_d_law_due⟩)
    (c_d_law_due : PySem.W.codeIn K cd_d_law_due "_law_due" = true)
    (k_d_law_due : PySem.W.keepIn K (.ref f_d_law_due) = true)
    (a_d_law_bent : PySem.W.nsIn K mainGlobals "_law_bent" = some (some (.ref f_d_law_bent)))
    (l_d_law_bent : K.lookup f_d_law_bent = some ⟨oc_d_law_bent, od_d_law_bent, .func (PySem.W.fnOf "_law_bent" "_law_bent" (defArgs sBent) (defBody sBent) (defScope sBent) .none kV_d_law_bent dc_d_law_bent pm_d_law_bent an_d_law_bent cd_d_law_bent ct_d_law_bent), sl_d_law_bent⟩)
    (c_d_law_bent : PySem.W.codeIn K cd_d_law_bent "_law_bent" = true)
    (k_d_law_bent : PySem.W.keepIn K (.ref f_d_law_bent) = true)
    (a_d_law_told : PySem.W.nsIn K mainGlobals "_law_told" = some (some (.ref f_d_law_told)))
    (l_d_law_told : K.lookup f_d_law_told = some ⟨oc_d_law_told, od_d_law_told, .func (PySem.W.fnOf "_law_told" "_law_told" (defArgs sTold) (defBody sTold) (defScope sTold) .none kV_d_law_told dc_d_law_told pm_d_law_told an_d_law_told cd_d_law_told ct_d_law_told), sl_d_law_told⟩)
    (c_d_law_told : PySem.W.codeIn K cd_d_law_told "_law_told" = true)
    (k_d_law_told : PySem.W.keepIn K (.ref f_d_law_told) = true)
    (a_d_law_told_with : PySem.W.nsIn K mainGlobals "_law_told_with" = some (some (.ref f_d_law_told_with)))
    (l_d_law_told_with : K.lookup f_d_law_told_with = some ⟨oc_d_law_told_with, od_d_law_told_with, .func (PySem.W.fnOf "_law_told_with" "_law_told_with" (defArgs sToldW) (defBody sToldW) (defScope sToldW) .none kV_d_law_told_with dc_d_law_told_with pm_d_law_told_with an_d_law_told_with cd_d_law_told_with ct_d_law_told_with), sl_d_law_told_with⟩)
    (c_d_law_told_with : PySem.W.codeIn K cd_d_law_told_with "_law_told_with" = true)
    (k_d_law_told_with : PySem.W.keepIn K (.ref f_d_law_told_with) = true)
    (a_d_law : PySem.W.nsIn K mainGlobals "law" = some (some (.ref f_d_law)))
    (l_d_law : K.lookup f_d_law = some ⟨oc_d_law, od_d_law, .func (PySem.W.fnOf "law" "law" (defArgs sLaw) (defBody sLaw) (defScope sLaw) .none kV_d_law dc_d_law pm_d_law an_d_law cd_d_law ct_d_law), sl_d_law⟩)
    (c_d_law : PySem.W.codeIn K cd_d_law "law" = true)
    (k_d_law : PySem.W.keepIn K (.ref f_d_law) = true)
    (a_d_total : PySem.W.nsIn K mainGlobals "total" = some (some (.ref f_d_total)))
    (l_d_total : K.lookup f_d_total = some ⟨oc_d_total, od_d_total, .func (PySem.W.fnOf "total" "total" (defArgs sTotal) (defBody sTotal) (defScope sTotal) (.ref T_d_total) kV_d_total dc_d_total pm_d_total an_d_total cd_d_total ct_d_total), sl_d_total⟩)
    (c_d_total : PySem.W.codeIn K cd_d_total "total" = true)
    (k_d_total : PySem.W.keepIn K (.ref f_d_total) = true)
    (t_d_total : K.lookup T_d_total = some oT_d_total)
    (e_d_total : oT_d_total.data = .seq [Value.none].toArray nT_d_total)
    (aC_N : PySem.W.nsIn K mainGlobals "NoCase" = some (some (.ref C_N)))
    (xC_N : K.lookup C_N = some (excClassObj nm_N q_N C_N N_N bs_N [.type "ValueError", .type "Exception", .type "BaseException", .type "object"] true sn_N su_N ab_N co_N dd_N m0_N m1_N m2_N m3_N m5_N "ValueError.__new__"))
    (sa_N : PySem.W.findIn K (.ref C_N) "__setattr__" = some (some (.builtin "object.__setattr__")))
    (ga_N : PySem.W.findIn K (.ref C_N) "__getattribute__" = some (some (.builtin "BaseException.__getattribute__")))
    (gg_N : PySem.W.findIn K (.ref C_N) "__getattr__" = some none)
    (cl_N : PySem.W.findIn K (.ref C_N) "__class__" = some (some (.builtin "object.__class__")))
    (mo_N : PySem.W.mroIn K C_N (.type "object") = some true)
    (kC_N : PySem.W.keepIn K (.ref C_N) = true)
    (eC_N : PySem.W.subIn K (.ref C_N) (.type "BaseException") = some true)
    (tC_N : PySem.W.typeIn K (.ref C_N) = some (.type "type"))
    (hd_N : PySem.W.hasDictIn K C_N = true)
    (vV_N : PySem.W.findCls K (.type "ValueError") (.type "type") "__init__" = some (.val (.builtin "ValueError.__init__")))
    (sp_ : PySem.W.specialIn K (.builtin "object.__class__") "__get__" = some (some (.builtin "getset_descriptor.__get__")))
    (tk_ : PySem.W.takesIn K (.builtin "object.__class__") = some true)
    (i_i_N : PySem.W.findIn K (.ref C_N) "__init__" = some (some (.ref f_i_N)))
    (ty_i_N : PySem.W.typeIn K (.ref f_i_N) = some (.type "function"))
    (l_i_N : K.lookup f_i_N = some ⟨oc_i_N, od_i_N, .func (PySem.W.fnOf "__init__" "NoCase.__init__" (defArgs sNcInit) (defBody sNcInit) (defScope sNcInit) .none kV_i_N dc_i_N pm_i_N an_i_N cd_i_N ct_i_N), sl_i_N⟩)
    (c_i_N : PySem.W.codeIn K cd_i_N "NoCase.__init__" = true)
    (k_i_N : PySem.W.keepIn K (.ref f_i_N) = true)
    (no_N_part : PySem.W.findIn K (.ref C_N) "part" = some none)
    (no_N_number : PySem.W.findIn K (.ref C_N) "number" = some none)
    (sb_N_N : PySem.W.subIn K (.ref C_N) (.ref C_N) = some true)
    (kt_N_ValueError : PySem.W.kitOne K (.ref C_N) (.type "ValueError") = some true)
    (aC_C : PySem.W.nsIn K mainGlobals "Case" = some (some (.ref C_C)))
    (pg_C : PySem.W.plainGet K C_C Str.empty = true)
    (hd_C : PySem.W.hasDictIn K C_C = true)
    (po_C : PySem.W.plainOver K C_C = true)
    (sa_C : PySem.W.findIn K (.ref C_C) "__setattr__" = some (some (.builtin "object.__setattr__")))
    (mk_C : PySem.W.makesIn K C_C = true)
    (kC_C : PySem.W.keepIn K (.ref C_C) = true)
    (i_m_C_init : PySem.W.findIn K (.ref C_C) "__init__" = some (some (.ref f_m_C_init)))
    (fn_m_C_init : PySem.W.isFn K (.ref f_m_C_init) = true)
    (l_m_C_init : K.lookup f_m_C_init = some ⟨oc_m_C_init, od_m_C_init, .func (PySem.W.fnOf "__init__" "Case.__init__" (defArgs sCInit) (defBody sCInit) (defScope sCInit) .none kV_m_C_init dc_m_C_init pm_m_C_init an_m_C_init cd_m_C_init ct_m_C_init), sl_m_C_init⟩)
    (c_m_C_init : PySem.W.codeIn K cd_m_C_init "Case.__init__" = true)
    (k_m_C_init : PySem.W.keepIn K (.ref f_m_C_init) = true)
    (no_own_shares : PySem.W.findIn K (.ref C_C) "own_shares" = some none)
    (no_own_hearer : PySem.W.findIn K (.ref C_C) "own_hearer" = some none)
    (no_own_teller : PySem.W.findIn K (.ref C_C) "own_teller" = some none)
    (g5_ : PySem.W.nsIn K mainGlobals "MOST_WORLDS" = some (some (.int 5 tk5)))
    (g6_ : PySem.W.nsIn K mainGlobals "MOST_DEEDS" = some (some (.int 6 tk6)))
    (i_m_C_worlds : PySem.W.findIn K (.ref C_C) "worlds" = some (some (.ref f_m_C_worlds)))
    (fn_m_C_worlds : PySem.W.isFn K (.ref f_m_C_worlds) = true)
    (l_m_C_worlds : K.lookup f_m_C_worlds = some ⟨oc_m_C_worlds, od_m_C_worlds, .func (PySem.W.fnOf "worlds" "Case.worlds" (defArgs sCWorlds) (defBody sCWorlds) (defScope sCWorlds) .none kV_m_C_worlds dc_m_C_worlds pm_m_C_worlds an_m_C_worlds cd_m_C_worlds ct_m_C_worlds), sl_m_C_worlds⟩)
    (c_m_C_worlds : PySem.W.codeIn K cd_m_C_worlds "Case.worlds" = true)
    (k_m_C_worlds : PySem.W.keepIn K (.ref f_m_C_worlds) = true)
    (i_m_C_with_shares : PySem.W.findIn K (.ref C_C) "with_shares" = some (some (.ref f_m_C_with_shares)))
    (fn_m_C_with_shares : PySem.W.isFn K (.ref f_m_C_with_shares) = true)
    (l_m_C_with_shares : K.lookup f_m_C_with_shares = some ⟨oc_m_C_with_shares, od_m_C_with_shares, .func (PySem.W.fnOf "with_shares" "Case.with_shares" (defArgs sCWith) (defBody sCWith) (defScope sCWith) .none kV_m_C_with_shares dc_m_C_with_shares pm_m_C_with_shares an_m_C_with_shares cd_m_C_with_shares ct_m_C_with_shares), sl_m_C_with_shares⟩)
    (c_m_C_with_shares : PySem.W.codeIn K cd_m_C_with_shares "Case.with_shares" = true)
    (k_m_C_with_shares : PySem.W.keepIn K (.ref f_m_C_with_shares) = true)
    (z_abs : PySem.W.nsIn K mainGlobals "abs" = some none)
    (z_isinstance : PySem.W.nsIn K mainGlobals "isinstance" = some none)
    (z_int : PySem.W.nsIn K mainGlobals "int" = some none)
    (z_bool : PySem.W.nsIn K mainGlobals "bool" = some none)
    (z_tuple : PySem.W.nsIn K mainGlobals "tuple" = some none)
    (z_list : PySem.W.nsIn K mainGlobals "list" = some none)
    (z_len : PySem.W.nsIn K mainGlobals "len" = some none)
    (z_range : PySem.W.nsIn K mainGlobals "range" = some none)
    (z_str : PySem.W.nsIn K mainGlobals "str" = some none)
    (z_repr : PySem.W.nsIn K mainGlobals "repr" = some none)
    (z_sum : PySem.W.nsIn K mainGlobals "sum" = some none)
    (z_all : PySem.W.nsIn K mainGlobals "all" = some none)
    (z_any : PySem.W.nsIn K mainGlobals "any" = some none)
    (z_enumerate : PySem.W.nsIn K mainGlobals "enumerate" = some none)
    (z_zip : PySem.W.nsIn K mainGlobals "zip" = some none)
    (z_min : PySem.W.nsIn K mainGlobals "min" = some none)
    (z_max : PySem.W.nsIn K mainGlobals "max" = some none)
    (z_sorted : PySem.W.nsIn K mainGlobals "sorted" = some none)
    (z_ValueError : PySem.W.nsIn K mainGlobals "ValueError" = some none)
    (z_ZeroDivisionError : PySem.W.nsIn K mainGlobals "ZeroDivisionError" = some none)
    (z_OverflowError : PySem.W.nsIn K mainGlobals "OverflowError" = some none)
    (z_IndexError : PySem.W.nsIn K mainGlobals "IndexError" = some none)
    (z_LookupError : PySem.W.nsIn K mainGlobals "LookupError" = some none)
    (z_ArithmeticError : PySem.W.nsIn K mainGlobals "ArithmeticError" = some none)
    (z_KeyError : PySem.W.nsIn K mainGlobals "KeyError" = some none)
    (z_RuntimeError : PySem.W.nsIn K mainGlobals "RuntimeError" = some none) :
    ∃ fd : FuncData, (∀ (s : Shared) (v : Value), BindsTo s fd ⟨[v], []⟩ [("_law_script", v)]) ∧ ∀ base : Heap, K.In base → base.Ns mainGlobals mg → FnOkG l.prog w K mg base CX0 13 fa fd ["_law_script"] (spLaw K) := by
  have e := hfa.symm.trans (PySem.W.mg_of X G a_d_law)
  cases e
  have B : Blt mg := ⟨PySem.W.mg_none_of X G z_abs, PySem.W.mg_none_of X G z_isinstance, PySem.W.mg_none_of X G z_int, PySem.W.mg_none_of X G z_bool, PySem.W.mg_none_of X G z_tuple, PySem.W.mg_none_of X G z_list, PySem.W.mg_none_of X G z_len, PySem.W.mg_none_of X G z_range, PySem.W.mg_none_of X G z_str, PySem.W.mg_none_of X G z_repr, PySem.W.mg_none_of X G z_sum, PySem.W.mg_none_of X G z_all, PySem.W.mg_none_of X G z_any, PySem.W.mg_none_of X G z_enumerate, PySem.W.mg_none_of X G z_zip, PySem.W.mg_none_of X G z_min, PySem.W.mg_none_of X G z_max, PySem.W.mg_none_of X G z_sorted, PySem.W.mg_none_of X G z_ValueError, PySem.W.mg_none_of X G z_ZeroDivisionError, PySem.W.mg_none_of X G z_OverflowError, PySem.W.mg_none_of X G z_IndexError, PySem.W.mg_none_of X G z_LookupError, PySem.W.mg_none_of X G z_ArithmeticError, PySem.W.mg_none_of X G z_KeyError, PySem.W.mg_none_of X G z_RuntimeError⟩
  have F_d_is_whole := fun_mk (st := sWhole) l_d_is_whole c_d_is_whole k_d_is_whole
  have b_d_is_whole := F_d_is_whole.binds (ps := ["thing"]) fun _ _ _ _ _ _ us hl => match us, hl with | [_], _ => rfl
  have g_d_is_whole := PySem.W.mg_of X G a_d_is_whole
  have F_d_is_ratio := fun_mk (st := sIsR) l_d_is_ratio c_d_is_ratio k_d_is_ratio
  have b_d_is_ratio := F_d_is_ratio.binds (ps := ["thing"]) fun _ _ _ _ _ _ us hl => match us, hl with | [_], _ => rfl
  have g_d_is_ratio := PySem.W.mg_of X G a_d_is_ratio
  have F_d_plus := fun_mk (st := sPlus) l_d_plus c_d_plus k_d_plus
  have b_d_plus := F_d_plus.binds (ps := ["one", "other"]) fun _ _ _ _ _ _ us hl => match us, hl with | [_, _], _ => rfl
  have g_d_plus := PySem.W.mg_of X G a_d_plus
  have F_d_lowest := fun_mk (st := sLowest) l_d_lowest c_d_lowest k_d_lowest
  have b_d_lowest := F_d_lowest.binds (ps := ["top", "bottom"]) fun _ _ _ _ _ _ us hl => match us, hl with | [_, _], _ => rfl
  have g_d_lowest := PySem.W.mg_of X G a_d_lowest
  have F_d_divisor := fun_mk (st := sDiv) l_d_divisor c_d_divisor k_d_divisor
  have b_d_divisor := F_d_divisor.binds (ps := ["one", "other"]) fun _ _ _ _ _ _ us hl => match us, hl with | [_, _], _ => rfl
  have g_d_divisor := PySem.W.mg_of X G a_d_divisor
  have F_d_is_list_of := fun_mk (st := sListOf) l_d_is_list_of c_d_is_list_of k_d_is_list_of
  have b_d_is_list_of := F_d_is_list_of.binds (ps := ["thing", "least", "most"]) fun _ _ _ _ _ _ us hl => match us, hl with | [_, _, _], _ => rfl
  have g_d_is_list_of := PySem.W.mg_of X G a_d_is_list_of
  have F_d_is_share := fun_mk (st := sShare) l_d_is_share c_d_is_share k_d_is_share
  have b_d_is_share := F_d_is_share.binds (ps := ["thing"]) fun _ _ _ _ _ _ us hl => match us, hl with | [_], _ => rfl
  have g_d_is_share := PySem.W.mg_of X G a_d_is_share
  have F_d_is_ratio_row := fun_mk (st := sRRow) l_d_is_ratio_row c_d_is_ratio_row k_d_is_ratio_row
  have b_d_is_ratio_row := F_d_is_ratio_row.binds (ps := ["thing", "least", "most"]) fun _ _ _ _ _ _ us hl => match us, hl with | [_, _, _], _ => rfl
  have g_d_is_ratio_row := PySem.W.mg_of X G a_d_is_ratio_row
  have F_d_wrong_row := fun_mk (st := sWrong) l_d_wrong_row c_d_wrong_row k_d_wrong_row
  have b_d_wrong_row := F_d_wrong_row.binds (ps := ["rows", "is_row", "least", "most"]) fun _ _ _ _ _ _ us hl => match us, hl with | [_, _, _, _], _ => rfl
  have g_d_wrong_row := PySem.W.mg_of X G a_d_wrong_row
  have F_d_copied_rows := fun_mk (st := sCopied) l_d_copied_rows c_d_copied_rows k_d_copied_rows
  have b_d_copied_rows := F_d_copied_rows.binds (ps := ["rows"]) fun _ _ _ _ _ _ us hl => match us, hl with | [_], _ => rfl
  have g_d_copied_rows := PySem.W.mg_of X G a_d_copied_rows
  have F_d_check_shares := fun_mk (st := sChkS) l_d_check_shares c_d_check_shares k_d_check_shares
  have b_d_check_shares := F_d_check_shares.binds (ps := ["shares"]) fun _ _ _ _ _ _ us hl => match us, hl with | [_], _ => rfl
  have g_d_check_shares := PySem.W.mg_of X G a_d_check_shares
  have F_d_check_gains := fun_mk (st := sChkG) l_d_check_gains c_d_check_gains k_d_check_gains
  have b_d_check_gains := F_d_check_gains.binds (ps := ["part", "rows", "worlds", "least", "most"]) fun _ _ _ _ _ _ us hl => match us, hl with | [_, _, _, _, _], _ => rfl
  have g_d_check_gains := PySem.W.mg_of X G a_d_check_gains
  have F_d_law_left := fun_mk (st := sLeft) l_d_law_left c_d_law_left k_d_law_left
  have b_d_law_left := F_d_law_left.binds (ps := ["_law_cell"]) fun _ _ _ _ _ _ us hl => match us, hl with | [_], _ => rfl
  have g_d_law_left := PySem.W.mg_of X G a_d_law_left
  have F_d_law_digit := fun_mk (st := sDigit) l_d_law_digit c_d_law_digit k_d_law_digit
  have b_d_law_digit := F_d_law_digit.binds (ps := ["_law_left_here", "_law_many"]) fun _ _ _ _ _ _ us hl => match us, hl with | [_, _], _ => rfl
  have g_d_law_digit := PySem.W.mg_of X G a_d_law_digit
  have F_d_law_low := fun_mk (st := sLow) l_d_law_low c_d_law_low k_d_law_low
  have b_d_law_low := F_d_law_low.binds (ps := ["_law_top", "_law_bottom"]) fun _ _ _ _ _ _ us hl => match us, hl with | [_, _], _ => rfl
  have g_d_law_low := PySem.W.mg_of X G a_d_law_low
  have F_d_law_plus := fun_mk (st := sLPlus) l_d_law_plus c_d_law_plus k_d_law_plus
  have b_d_law_plus := F_d_law_plus.binds (ps := ["_law_one", "_law_other"]) fun _ _ _ _ _ _ us hl => match us, hl with | [_, _], _ => rfl
  have g_d_law_plus := PySem.W.mg_of X G a_d_law_plus
  have F_d_law_less := fun_mk (st := sLLess) l_d_law_less c_d_law_less k_d_law_less
  have b_d_law_less := F_d_law_less.binds (ps := ["_law_one", "_law_other"]) fun _ _ _ _ _ _ us hl => match us, hl with | [_, _], _ => rfl
  have g_d_law_less := PySem.W.mg_of X G a_d_law_less
  have F_d_law_shares := fun_mk (st := sShares) l_d_law_shares c_d_law_shares k_d_law_shares
  have b_d_law_shares := F_d_law_shares.binds (ps := ["_law_left_here", "_law_many"]) fun _ _ _ _ _ _ us hl => match us, hl with | [_, _], _ => rfl
  have g_d_law_shares := PySem.W.mg_of X G a_d_law_shares
  have F_d_law_gain := fun_mk (st := sGain) l_d_law_gain c_d_law_gain k_d_law_gain
  have b_d_law_gain := F_d_law_gain.binds (ps := ["_law_left_here"]) fun _ _ _ _ _ _ us hl => match us, hl with | [_], _ => rfl
  have g_d_law_gain := PySem.W.mg_of X G a_d_law_gain
  have F_d_law_gains := fun_mk (st := sGains) l_d_law_gains c_d_law_gains k_d_law_gains
  have b_d_law_gains := F_d_law_gains.binds (ps := ["_law_left_here", "_law_worlds", "_law_deeds"]) fun _ _ _ _ _ _ us hl => match us, hl with | [_, _, _], _ => rfl
  have g_d_law_gains := PySem.W.mg_of X G a_d_law_gains
  have F_d_law_parts := fun_mk (st := sParts) l_d_law_parts c_d_law_parts k_d_law_parts
  have b_d_law_parts := F_d_law_parts.binds (ps := ["_law_left_here", "_law_most_worlds", "_law_most_deeds"]) fun _ _ _ _ _ _ us hl => match us, hl with | [_, _, _], _ => rfl
  have g_d_law_parts := PySem.W.mg_of X G a_d_law_parts
  have F_d_law_whole := fun_mk (st := sLWhole) l_d_law_whole c_d_law_whole k_d_law_whole
  have b_d_law_whole := F_d_law_whole.binds (ps := ["_law_thing"]) fun _ _ _ _ _ _ us hl => match us, hl with | [_], _ => rfl
  have g_d_law_whole := PySem.W.mg_of X G a_d_law_whole
  have F_d_law_is_ratio := fun_mk (st := sLIsR) l_d_law_is_ratio c_d_law_is_ratio k_d_law_is_ratio
  have b_d_law_is_ratio := F_d_law_is_ratio.binds (ps := ["_law_thing"]) fun _ _ _ _ _ _ us hl => match us, hl with | [_], _ => rfl
  have g_d_law_is_ratio := PySem.W.mg_of X G a_d_law_is_ratio
  have F_d_law_shares_due := fun_mk (st := sShDue) l_d_law_shares_due c_d_law_shares_due k_d_law_shares_due
  have b_d_law_shares_due := F_d_law_shares_due.binds (ps := ["_law_thing"]) fun _ _ _ _ _ _ us hl => match us, hl with | [_], _ => rfl
  have g_d_law_shares_due := PySem.W.mg_of X G a_d_law_shares_due
  have F_d_law_due := fun_mk (st := sDue) l_d_law_due c_d_law_due k_d_law_due
  have b_d_law_due := F_d_law_due.binds (ps := ["_law_parts_here"]) fun _ _ _ _ _ _ us hl => match us, hl with | [_], _ => rfl
  have g_d_law_due := PySem.W.mg_of X G a_d_law_due
  have F_d_law_bent := fun_mk (st := sBent) l_d_law_bent c_d_law_bent k_d_law_bent
  have b_d_law_bent := F_d_law_bent.binds (ps := ["_law_left_here", "_law_parts_here"]) fun _ _ _ _ _ _ us hl => match us, hl with | [_, _], _ => rfl
  have g_d_law_bent := PySem.W.mg_of X G a_d_law_bent
  have F_d_law_told := fun_mk (st := sTold) l_d_law_told c_d_law_told k_d_law_told
  have b_d_law_told := F_d_law_told.binds (ps := ["_law_parts_here"]) fun _ _ _ _ _ _ us hl => match us, hl with | [_], _ => rfl
  have g_d_law_told := PySem.W.mg_of X G a_d_law_told
  have F_d_law_told_with := fun_mk (st := sToldW) l_d_law_told_with c_d_law_told_with k_d_law_told_with
  have b_d_law_told_with := F_d_law_told_with.binds (ps := ["_law_case", "_law_shares_here"]) fun _ _ _ _ _ _ us hl => match us, hl with | [_, _], _ => rfl
  have g_d_law_told_with := PySem.W.mg_of X G a_d_law_told_with
  have F_d_law := fun_mk (st := sLaw) l_d_law c_d_law k_d_law
  have g_d_law := PySem.W.mg_of X G a_d_law
  have g_d_total := PySem.W.mg_of X G a_d_total
  have FM : FunD K "total" "total" (defArgs sTotal) (defBody sTotal) (defScope sTotal) [V.non] [] f_d_total (PySem.W.fnOf "total" "total" (defArgs sTotal) (defBody sTotal) (defScope sTotal) (.ref T_d_total) kV_d_total dc_d_total pm_d_total an_d_total cd_d_total ct_d_total) := ⟨⟨_, _, _, _, _, _, _, _, _, _, rfl, l_d_total, c_d_total, .inr ⟨by simp, T_d_total, oT_d_total, [Value.none], nT_d_total, rfl, t_d_total, e_d_total, .cons rfl .nil⟩, .inl rfl⟩, k_d_total⟩
  have bM1 := FM.binds1 (ps := ["some", "start"]) 1 0 (by simp) rfl fun T kV doc pm an cdv ct us its hl hi => match us, its, hl, hi with | [_], [_], _, _ => ⟨_, rfl, rfl⟩
  have ex_N : ExcC K C_N := ⟨ga_N, gg_N, eC_N, hd_N, cl_N, sp_, tk_, mo_N⟩
  have xf_N : XfC K C_N := ⟨ga_N, gg_N, eC_N, hd_N⟩
  have gC_N := PySem.W.mg_of X G aC_N
  have oex_N : OexC K C_N := ⟨⟨nm_N, q_N, N_N, bs_N, _, sn_N, su_N, ab_N, co_N, dd_N, m0_N, m1_N, m2_N, m3_N, m5_N, xC_N, by decide +kernel⟩, sa_N, eC_N, tC_N, kC_N⟩
  have exc_N : ExC K C_N "ValueError.__new__" [.type "ValueError", .type "Exception", .type "BaseException", .type "object"] := ⟨⟨nm_N, q_N, N_N, bs_N, sn_N, su_N, ab_N, co_N, dd_N, m0_N, m1_N, m2_N, m3_N, m5_N, xC_N⟩, eC_N, tC_N, kC_N⟩
  have F_i_N := fun_mk (st := sNcInit) l_i_N c_i_N k_i_N
  have b_i_N := F_i_N.binds (ps := ["self", "part", "number"]) fun _ _ _ _ _ _ us hl => match us, hl with | [_, _, _], _ => rfl
  have em_N_N := PySem.W.exm_ref eC_N hd_N tC_N sb_N_N
  have cl_C : Cls K C_C := ⟨pg_C, hd_C, po_C, sa_C⟩
  have gC_C := PySem.W.mg_of X G aC_C
  have F_m_C_init := fun_mk (st := sCInit) l_m_C_init c_m_C_init k_m_C_init
  have b_m_C_init := F_m_C_init.binds (ps := ["self", "shares", "hearer", "teller"]) fun _ _ _ _ _ _ us hl => match us, hl with | [_, _, _, _], _ => rfl
  have N0 : NcT K mg C_N f_i_N := ⟨gC_N, i_i_N, ty_i_N, xf_N, ex_N, oex_N, no_N_part, no_N_number, vV_N, em_N_N, kt_N_ValueError⟩
  have C0 : CaT K mg C_C f_m_C_init := ⟨cl_C, gC_C, no_own_shares, no_own_hearer, no_own_teller, ⟨mk_C, i_m_C_init, fn_m_C_init, kC_C⟩, ⟨_, PySem.W.mg_of X G g5_⟩, ⟨_, PySem.W.mg_of X G g6_⟩⟩
  have F_m_C_worlds := fun_mk (st := sCWorlds) l_m_C_worlds c_m_C_worlds k_m_C_worlds
  have b_m_C_worlds := F_m_C_worlds.binds (ps := ["self"]) fun _ _ _ _ _ _ us hl => match us, hl with | [_], _ => rfl
  have F_m_C_with_shares := fun_mk (st := sCWith) l_m_C_with_shares c_m_C_with_shares k_m_C_with_shares
  have b_m_C_with_shares := F_m_C_with_shares.binds (ps := ["self", "shares"]) fun _ _ _ _ _ _ us hl => match us, hl with | [_, _], _ => rfl
  have M0 : CaM K C_C f_m_C_worlds f_m_C_with_shares := ⟨⟨i_m_C_worlds, fn_m_C_worlds, k_m_C_worlds⟩, ⟨i_m_C_with_shares, fn_m_C_with_shares, k_m_C_with_shares⟩⟩
  refine ⟨PySem.W.fnOf "law" "law" (defArgs sLaw) (defBody sLaw) (defScope sLaw) .none kV_d_law dc_d_law pm_d_law an_d_law cd_d_law ct_d_law, fun s v => .of_eq rfl, fun base _ _ => ?_⟩
  have G_d_divisor : FnOk l.prog w K mg base CX0 1 f_d_divisor _ ["one", "other"] spDiv := ok_div F_d_divisor  B
  have G_d_lowest : FnOk l.prog w K mg base CX0 2 f_d_lowest _ ["top", "bottom"] spLow := ok_lowest F_d_lowest (G_d_divisor.mono (by decide)) k_d_divisor b_d_divisor g_d_divisor
  have G_d_plus : FnOk l.prog w K mg base CX0 3 f_d_plus _ ["one", "other"] (spBin K (· + ·)) := ok_Plus F_d_plus (G_d_lowest.mono (by decide)) k_d_lowest b_d_lowest g_d_lowest
  have G_d_is_whole : FnOk l.prog w K mg base CX0 1 f_d_is_whole _ ["thing"] (spWholeZ K) := ok_WholeZ F_d_is_whole  B
  have G_d_is_ratio : FnOk l.prog w K mg base CX0 2 f_d_is_ratio _ ["thing"] (spIsRZ K) := ok_IsRZ F_d_is_ratio (G_d_is_whole.mono (by decide)) k_d_is_whole b_d_is_whole g_d_is_whole (G_d_divisor.mono (by decide)) k_d_divisor b_d_divisor g_d_divisor B
  have G_d_is_list_of : FnOk l.prog w K mg base CX0 1 f_d_is_list_of _ ["thing", "least", "most"] (spListOfZ K) := ok_ListOfZ F_d_is_list_of  B
  have G_d_is_share : FnOk l.prog w K mg base CX0 3 f_d_is_share _ ["thing"] (spShareZ K) := ok_ShareZ F_d_is_share (G_d_is_ratio.mono (by decide)) k_d_is_ratio b_d_is_ratio g_d_is_ratio
  have G_d_total : FnOk l.prog w K mg base CX0 4 f_d_total _ ["some", "start"] (Rs.spTotal K) := ok_Total FM (G_d_plus.mono (by decide)) k_d_plus b_d_plus g_d_plus
  have G_d_is_ratio_row : FnOk l.prog w K mg base CX0 3 f_d_is_ratio_row _ ["thing", "least", "most"] (spRowZ K) := ok_RRowZ F_d_is_ratio_row (G_d_is_list_of.mono (by decide)) k_d_is_list_of b_d_is_list_of g_d_is_list_of (G_d_is_ratio.mono (by decide)) k_d_is_ratio b_d_is_ratio g_d_is_ratio B
  have G_d_wrong_row : FnOk l.prog w K mg base CX0 4 f_d_wrong_row _ ["rows", "is_row", "least", "most"] (spWrongZ K f_d_is_ratio_row) := ok_WrongZ F_d_wrong_row (G_d_is_ratio_row.mono (by decide)) k_d_is_ratio_row b_d_is_ratio_row  B
  have G_d_copied_rows : FnOk l.prog w K mg base CX0 1 f_d_copied_rows _ ["rows"] (Rs.spCopied K) := ok_Copied F_d_copied_rows  B
  have G_i_N : FnOk l.prog w K mg base CX0 1 f_i_N _ ["self", "part", "number"] (spE2 C_N "part" "number") := ok_NcInit F_i_N N0 B
  have G_d_check_shares : FnOk l.prog w K mg base (L2.CX l.prog w) 7 f_d_check_shares _ ["shares"] (spChkS K C_N) := ok_ChkS F_d_check_shares C0 N0 (G_i_N.mono (by decide)) b_i_N (G_d_is_list_of.mono (by decide)) k_d_is_list_of b_d_is_list_of g_d_is_list_of (G_d_is_share.mono (by decide)) k_d_is_share b_d_is_share g_d_is_share (G_d_total.mono (by decide)) k_d_total bM1 g_d_total B
  have G_d_check_gains : FnOk l.prog w K mg base (L2.CX l.prog w) 7 f_d_check_gains _ ["part", "rows", "worlds", "least", "most"] (spChkG K C_N) := ok_ChkG F_d_check_gains N0 (G_i_N.mono (by decide)) b_i_N (G_d_is_list_of.mono (by decide)) k_d_is_list_of b_d_is_list_of g_d_is_list_of (G_d_wrong_row.mono (by decide)) k_d_wrong_row b_d_wrong_row g_d_wrong_row g_d_is_ratio_row
  have G_m_C_init : FnOk l.prog w K mg base (L2.CX l.prog w) 8 f_m_C_init _ ["self", "shares", "hearer", "teller"] (spCInit K C_C C_N) := ok_CInit F_m_C_init C0 (G_d_check_shares.mono (by decide)) k_d_check_shares b_d_check_shares g_d_check_shares (G_d_check_gains.mono (by decide)) k_d_check_gains b_d_check_gains g_d_check_gains (G_d_copied_rows.mono (by decide)) k_d_copied_rows b_d_copied_rows g_d_copied_rows B
  have G_m_C_worlds : FnOk l.prog w K mg base CX0 1 f_m_C_worlds _ ["self"] (spCWorlds K C_C) := ok_CWorlds F_m_C_worlds C0 B
  have G_m_C_with_shares : FnOk l.prog w K mg base (L2.CX l.prog w) 10 f_m_C_with_shares _ ["self", "shares"] (spCWith K C_C C_N) := ok_CWith F_m_C_with_shares C0 M0 N0 (G_i_N.mono (by decide)) b_i_N (G_d_is_list_of.mono (by decide)) k_d_is_list_of b_d_is_list_of g_d_is_list_of (G_m_C_worlds.mono (by decide)) b_m_C_worlds (G_m_C_init.mono (by decide)) b_m_C_init B
  have G_d_law_left : FnOk l.prog w K mg base CX0 1 f_d_law_left _ ["_law_cell"] spLeft := ok_left F_d_law_left  B
  have G_d_law_digit : FnOk l.prog w K mg base CX0 1 f_d_law_digit _ ["_law_left_here", "_law_many"] spDigit := ok_digit F_d_law_digit 
  have G_d_law_low : FnOk l.prog w K mg base CX0 1 f_d_law_low _ ["_law_top", "_law_bottom"] spLow := ok_low F_d_law_low  B
  have G_d_law_plus : FnOk l.prog w K mg base CX0 2 f_d_law_plus _ ["_law_one", "_law_other"] (spBin K (· + ·)) := ok_LPlus F_d_law_plus (G_d_law_low.mono (by decide)) k_d_law_low b_d_law_low g_d_law_low
  have G_d_law_less : FnOk l.prog w K mg base CX0 2 f_d_law_less _ ["_law_one", "_law_other"] (spBin K (· - ·)) := ok_LLess F_d_law_less (G_d_law_low.mono (by decide)) k_d_law_low b_d_law_low g_d_law_low
  have G_d_law_shares : FnOk l.prog w K mg base CX0 2 f_d_law_shares _ ["_law_left_here", "_law_many"] (Rs.spShares K) := ok_Shares F_d_law_shares (G_d_law_digit.mono (by decide)) k_d_law_digit b_d_law_digit g_d_law_digit (G_d_law_low.mono (by decide)) k_d_law_low b_d_law_low g_d_law_low B
  have G_d_law_gain : FnOk l.prog w K mg base CX0 2 f_d_law_gain _ ["_law_left_here"] (Lw.spGain K) := ok_Gain F_d_law_gain (G_d_law_digit.mono (by decide)) k_d_law_digit b_d_law_digit g_d_law_digit (G_d_law_low.mono (by decide)) k_d_law_low b_d_law_low g_d_law_low
  have G_d_law_gains : FnOk l.prog w K mg base CX0 3 f_d_law_gains _ ["_law_left_here", "_law_worlds", "_law_deeds"] (Lw.spGains K) := ok_Gains F_d_law_gains (G_d_law_gain.mono (by decide)) k_d_law_gain b_d_law_gain g_d_law_gain B
  have G_d_law_parts : FnOk l.prog w K mg base CX0 4 f_d_law_parts _ ["_law_left_here", "_law_most_worlds", "_law_most_deeds"] (Lw.spParts K) := ok_Parts F_d_law_parts (G_d_law_digit.mono (by decide)) k_d_law_digit b_d_law_digit g_d_law_digit (G_d_law_gains.mono (by decide)) k_d_law_gains b_d_law_gains g_d_law_gains (G_d_law_shares.mono (by decide)) k_d_law_shares b_d_law_shares g_d_law_shares B
  have G_d_law_whole : FnOk l.prog w K mg base CX0 1 f_d_law_whole _ ["_law_thing"] (spWholeZ K) := ok_LWhole F_d_law_whole  B
  have G_d_law_is_ratio : FnOk l.prog w K mg base CX0 2 f_d_law_is_ratio _ ["_law_thing"] (spIsRL K) := ok_LIsR F_d_law_is_ratio (G_d_law_whole.mono (by decide)) k_d_law_whole b_d_law_whole g_d_law_whole (G_d_law_low.mono (by decide)) k_d_law_low b_d_law_low g_d_law_low B
  have G_d_law_shares_due : FnOk l.prog w K mg base CX0 3 f_d_law_shares_due _ ["_law_thing"] (spShDue K) := ok_ShDue F_d_law_shares_due (G_d_law_is_ratio.mono (by decide)) k_d_law_is_ratio b_d_law_is_ratio g_d_law_is_ratio (G_d_law_plus.mono (by decide)) k_d_law_plus b_d_law_plus g_d_law_plus B
  have G_d_law_due : FnOk l.prog w K mg base CX0 4 f_d_law_due _ ["_law_parts_here"] (spDue K) := ok_Due F_d_law_due (G_d_law_shares_due.mono (by decide)) k_d_law_shares_due b_d_law_shares_due g_d_law_shares_due (G_d_law_is_ratio.mono (by decide)) k_d_law_is_ratio b_d_law_is_ratio g_d_law_is_ratio B
  have G_d_law_bent : FnOk l.prog w K mg base CX0 3 f_d_law_bent _ ["_law_left_here", "_law_parts_here"] (spBent K) := ok_Bent F_d_law_bent (G_d_law_digit.mono (by decide)) k_d_law_digit b_d_law_digit g_d_law_digit (G_d_law_is_ratio.mono (by decide)) k_d_law_is_ratio b_d_law_is_ratio g_d_law_is_ratio (G_d_law_less.mono (by decide)) k_d_law_less b_d_law_less g_d_law_less B
  have G_d_law_told : FnOk l.prog w K mg base CX0 10 f_d_law_told _ ["_law_parts_here"] (spToldC K) := ok_Told F_d_law_told C0 N0 G_m_C_init b_m_C_init  B
  have G_d_law_told_with : FnOk l.prog w K mg base CX0 11 f_d_law_told_with _ ["_law_case", "_law_shares_here"] (spToldW K C_C) := ok_ToldW F_d_law_told_with C0 M0 N0 G_m_C_with_shares b_m_C_with_shares  B
  exact ok_law F_d_law (k := 11) ⟨C0, ⟨_, G_m_C_init.mono (by decide), b_m_C_init⟩, ⟨_, _, G_d_law_left.mono (by decide), k_d_law_left, b_d_law_left, g_d_law_left⟩, ⟨_, _, G_d_law_digit.mono (by decide), k_d_law_digit, b_d_law_digit, g_d_law_digit⟩, ⟨_, _, G_d_law_parts.mono (by decide), k_d_law_parts, b_d_law_parts, g_d_law_parts⟩, ⟨_, _, G_d_law_bent.mono (by decide), k_d_law_bent, b_d_law_bent, g_d_law_bent⟩, ⟨_, _, G_d_law_told.mono (by decide), k_d_law_told, b_d_law_told, g_d_law_told⟩, ⟨_, _, G_d_law_due.mono (by decide), k_d_law_due, b_d_law_due, g_d_law_due⟩, ⟨_, _, G_d_law_shares_due.mono (by decide), k_d_law_shares_due, b_d_law_shares_due, g_d_law_shares_due⟩, ⟨_, _, G_d_law_told_with.mono (by decide), k_d_law_told_with, b_d_law_told_with, g_d_law_told_with⟩⟩ B
end K5
open PySem PySem.W PyProof.Rows
set_option maxRecDepth 100000 in
set_option maxHeartbeats 0 in
theorem PySem.Challenge.cw_besttelling_k05_what_makes_a_case_holds : PySem.Challenge.rw_besttelling_k05_what_makes_a_case.Holds := by
  w_on; o_law; k_head; (case hw => w_witness2)
  k_fill
  refine BX.walk_ofG (l := PySem.Challenge.rw_besttelling_k05_what_makes_a_case) (n := 63) (k := 13) (x := "_law_script") (CX := fun _ => L2.CX0) (sp := fun w => K5.spLaw _) rfl (by decide) rfl ⟨rfl, by decide, by decide⟩ (fun w h Y => PySem.W.kIn_of Y) ?F (fun _ _ a ns hl _ hS => ⟨a, ns, rfl, hS, hl, fun _ => rfl⟩) (fun _ _ _ _ _ h => h)
  case F =>
    intro w mg fa h KX G hmg
    refine' K5.all_mk KX G hmg ?a_d_is_whole ?l_d_is_whole ?c_d_is_whole ?k_d_is_whole ?a_d_is_ratio ?l_d_is_ratio ?c_d_is_ratio ?k_d_is_ratio ?a_d_plus ?l_d_plus ?c_d_plus ?k_d_plus ?a_d_lowest ?l_d_lowest ?c_d_lowest ?k_d_lowest ?a_d_divisor ?l_d_divisor ?c_d_divisor ?k_d_divisor ?a_d_is_list_of ?l_d_is_list_of ?c_d_is_list_of ?k_d_is_list_of ?a_d_is_share ?l_d_is_share ?c_d_is_share ?k_d_is_share ?a_d_is_ratio_row ?l_d_is_ratio_row ?c_d_is_ratio_row ?k_d_is_ratio_row ?a_d_wrong_row ?l_d_wrong_row ?c_d_wrong_row ?k_d_wrong_row ?a_d_copied_rows ?l_d_copied_rows ?c_d_copied_rows ?k_d_copied_rows ?a_d_check_shares ?l_d_check_shares ?c_d_check_shares ?k_d_check_shares ?a_d_check_gains ?l_d_check_gains ?c_d_check_gains ?k_d_check_gains ?a_d_law_left ?l_d_law_left ?c_d_law_left ?k_d_law_left ?a_d_law_digit ?l_d_law_digit ?c_d_law_digit ?k_d_law_digit ?a_d_law_low ?l_d_law_low ?c_d_law_low ?k_d_law_low ?a_d_law_plus ?l_d_law_plus ?c_d_law_plus ?k_d_law_plus ?a_d_law_less ?l_d_law_less ?c_d_law_less ?k_d_law_less ?a_d_law_shares ?l_d_law_shares ?c_d_law_shares ?k_d_law_shares ?a_d_law_gain ?l_d_law_gain ?c_d_law_gain ?k_d_law_gain ?a_d_law_gains ?l_d_law_gains ?c_d_law_gains ?k_d_law_gains ?a_d_law_parts ?l_d_law_parts ?c_d_law_parts ?k_d_law_parts ?a_d_law_whole ?l_d_law_whole ?c_d_law_whole ?k_d_law_whole ?a_d_law_is_ratio ?l_d_law_is_ratio ?c_d_law_is_ratio ?k_d_law_is_ratio ?a_d_law_shares_due ?l_d_law_shares_due ?c_d_law_shares_due ?k_d_law_shares_due ?a_d_law_due ?l_d_law_due ?c_d_law_due ?k_d_law_due ?a_d_law_bent ?l_d_law_bent ?c_d_law_bent ?k_d_law_bent ?a_d_law_told ?l_d_law_told ?c_d_law_told ?k_d_law_told ?a_d_law_told_with ?l_d_law_told_with ?c_d_law_told_with ?k_d_law_told_with ?a_d_law ?l_d_law ?c_d_law ?k_d_law ?a_d_total ?l_d_total ?c_d_total ?k_d_total ?t_d_total ?e_d_total ?aC_N ?xC_N ?sa_N ?ga_N ?gg_N ?cl_N ?mo_N ?kC_N ?eC_N ?tC_N ?hd_N ?vV_N ?sp_ ?tk_ ?i_i_N ?ty_i_N ?l_i_N ?c_i_N ?k_i_N ?no_N_part ?no_N_number ?sb_N_N ?kt_N_ValueError ?aC_C ?pg_C ?hd_C ?po_C ?sa_C ?mk_C ?kC_C ?i_m_C_init ?fn_m_C_init ?l_m_C_init ?c_m_C_init ?k_m_C_init ?no_own_shares ?no_own_hearer ?no_own_teller ?g5_ ?g6_ ?i_m_C_worlds ?fn_m_C_worlds ?l_m_C_worlds ?c_m_C_worlds ?k_m_C_worlds ?i_m_C_with_shares ?fn_m_C_with_shares ?l_m_C_with_shares ?c_m_C_with_shares ?k_m_C_with_shares ?z_abs ?z_isinstance ?z_int ?z_bool ?z_tuple ?z_list ?z_len ?z_range ?z_str ?z_repr ?z_sum ?z_all ?z_any ?z_enumerate ?z_zip ?z_min ?z_max ?z_sorted ?z_ValueError ?z_ZeroDivisionError ?z_OverflowError ?z_IndexError ?z_LookupError ?z_ArithmeticError ?z_KeyError ?z_RuntimeError
    (case a_d_is_whole => k_is)
    (case l_d_is_whole => k_is)
    (case c_d_is_whole => k_is)
    (case k_d_is_whole => k_is)
    (case a_d_is_ratio => k_is)
    (case l_d_is_ratio => k_is)
    (case c_d_is_ratio => k_is)
    (case k_d_is_ratio => k_is)
    (case a_d_plus => k_is)
    (case l_d_plus => k_is)
    (case c_d_plus => k_is)
    (case k_d_plus => k_is)
    (case a_d_lowest => k_is)
    (case l_d_lowest => k_is)
    (case c_d_lowest => k_is)
    (case k_d_lowest => k_is)
    (case a_d_divisor => k_is)
    (case l_d_divisor => k_is)
    (case c_d_divisor => k_is)
    (case k_d_divisor => k_is)
    (case a_d_is_list_of => k_is)
    (case l_d_is_list_of => k_is)
    (case c_d_is_list_of => k_is)
    (case k_d_is_list_of => k_is)
    (case a_d_is_share => k_is)
    (case l_d_is_share => k_is)
    (case c_d_is_share => k_is)
    (case k_d_is_share => k_is)
    (case a_d_is_ratio_row => k_is)
    (case l_d_is_ratio_row => k_is)
    (case c_d_is_ratio_row => k_is)
    (case k_d_is_ratio_row => k_is)
    (case a_d_wrong_row => k_is)
    (case l_d_wrong_row => k_is)
    (case c_d_wrong_row => k_is)
    (case k_d_wrong_row => k_is)
    (case a_d_copied_rows => k_is)
    (case l_d_copied_rows => k_is)
    (case c_d_copied_rows => k_is)
    (case k_d_copied_rows => k_is)
    (case a_d_check_shares => k_is)
    (case l_d_check_shares => k_is)
    (case c_d_check_shares => k_is)
    (case k_d_check_shares => k_is)
    (case a_d_check_gains => k_is)
    (case l_d_check_gains => k_is)
    (case c_d_check_gains => k_is)
    (case k_d_check_gains => k_is)
    (case a_d_law_left => k_is)
    (case l_d_law_left => k_is)
    (case c_d_law_left => k_is)
    (case k_d_law_left => k_is)
    (case a_d_law_digit => k_is)
    (case l_d_law_digit => k_is)
    (case c_d_law_digit => k_is)
    (case k_d_law_digit => k_is)
    (case a_d_law_low => k_is)
    (case l_d_law_low => k_is)
    (case c_d_law_low => k_is)
    (case k_d_law_low => k_is)
    (case a_d_law_plus => k_is)
    (case l_d_law_plus => k_is)
    (case c_d_law_plus => k_is)
    (case k_d_law_plus => k_is)
    (case a_d_law_less => k_is)
    (case l_d_law_less => k_is)
    (case c_d_law_less => k_is)
    (case k_d_law_less => k_is)
    (case a_d_law_shares => k_is)
    (case l_d_law_shares => k_is)
    (case c_d_law_shares => k_is)
    (case k_d_law_shares => k_is)
    (case a_d_law_gain => k_is)
    (case l_d_law_gain => k_is)
    (case c_d_law_gain => k_is)
    (case k_d_law_gain => k_is)
    (case a_d_law_gains => k_is)
    (case l_d_law_gains => k_is)
    (case c_d_law_gains => k_is)
    (case k_d_law_gains => k_is)
    (case a_d_law_parts => k_is)
    (case l_d_law_parts => k_is)
    (case c_d_law_parts => k_is)
    (case k_d_law_parts => k_is)
    (case a_d_law_whole => k_is)
    (case l_d_law_whole => k_is)
    (case c_d_law_whole => k_is)
    (case k_d_law_whole => k_is)
    (case a_d_law_is_ratio => k_is)
    (case l_d_law_is_ratio => k_is)
    (case c_d_law_is_ratio => k_is)
    (case k_d_law_is_ratio => k_is)
    (case a_d_law_shares_due => k_is)
    (case l_d_law_shares_due => k_is)
    (case c_d_law_shares_due => k_is)
    (case k_d_law_shares_due => k_is)
    (case a_d_law_due => k_is)
    (case l_d_law_due => k_is)
    (case c_d_law_due => k_is)
    (case k_d_law_due => k_is)
    (case a_d_law_bent => k_is)
    (case l_d_law_bent => k_is)
    (case c_d_law_bent => k_is)
    (case k_d_law_bent => k_is)
    (case a_d_law_told => k_is)
    (case l_d_law_told => k_is)
    (case c_d_law_told => k_is)
    (case k_d_law_told => k_is)
    (case a_d_law_told_with => k_is)
    (case l_d_law_told_with => k_is)
    (case c_d_law_told_with => k_is)
    (case k_d_law_told_with => k_is)
    (case a_d_law => k_is)
    (case l_d_law => k_is)
    (case c_d_law => k_is)
    (case k_d_law => k_is)
    (case a_d_total => k_is)
    (case l_d_total => k_is)
    (case c_d_total => k_is)
    (case k_d_total => k_is)
    (case t_d_total => k_is)
    (case e_d_total => rfl)
    (case aC_N => k_is)
    (case xC_N => k_is)
    (case sa_N => k_is)
    (case ga_N => k_is)
    (case gg_N => k_is)
    (case cl_N => k_is)
    (case mo_N => first | rfl | k_is | decide +kernel)
    (case kC_N => k_is)
    (case eC_N => k_is)
    (case tC_N => k_is)
    (case hd_N => k_is)
    (case vV_N => first | rfl | decide +kernel | k_is)
    (case sp_ => first | rfl | k_is | decide +kernel)
    (case tk_ => first | rfl | k_is | decide +kernel)
    (case i_i_N => k_is)
    (case ty_i_N => k_is)
    (case l_i_N => k_is)
    (case c_i_N => k_is)
    (case k_i_N => k_is)
    (case no_N_part => k_is)
    (case no_N_number => k_is)
    (case sb_N_N => first | rfl | k_is | decide +kernel)
    (case kt_N_ValueError => first | rfl | k_is | kit_is | decide +kernel)
    (case aC_C => k_is)
    (case pg_C => k_is)
    (case hd_C => k_is)
    (case po_C => k_is)
    (case sa_C => k_is)
    (case mk_C => k_is)
    (case kC_C => k_is)
    (case i_m_C_init => k_is)
    (case fn_m_C_init => k_is)
    (case l_m_C_init => k_is)
    (case c_m_C_init => k_is)
    (case k_m_C_init => k_is)
    (case no_own_shares => k_is)
    (case no_own_hearer => k_is)
    (case no_own_teller => k_is)
    (case g5_ => k_is)
    (case g6_ => k_is)
    (case i_m_C_worlds => k_is)
    (case fn_m_C_worlds => k_is)
    (case l_m_C_worlds => k_is)
    (case c_m_C_worlds => k_is)
    (case k_m_C_worlds => k_is)
    (case i_m_C_with_shares => k_is)
    (case fn_m_C_with_shares => k_is)
    (case l_m_C_with_shares => k_is)
    (case c_m_C_with_shares => k_is)
    (case k_m_C_with_shares => k_is)
    (case z_abs => k_is)
    (case z_isinstance => k_is)
    (case z_int => k_is)
    (case z_bool => k_is)
    (case z_tuple => k_is)
    (case z_list => k_is)
    (case z_len => k_is)
    (case z_range => k_is)
    (case z_str => k_is)
    (case z_repr => k_is)
    (case z_sum => k_is)
    (case z_all => k_is)
    (case z_any => k_is)
    (case z_enumerate => k_is)
    (case z_zip => k_is)
    (case z_min => k_is)
    (case z_max => k_is)
    (case z_sorted => k_is)
    (case z_ValueError => k_is)
    (case z_ZeroDivisionError => k_is)
    (case z_OverflowError => k_is)
    (case z_IndexError => k_is)
    (case z_LookupError => k_is)
    (case z_ArithmeticError => k_is)
    (case z_KeyError => k_is)
    (case z_RuntimeError => k_is)
