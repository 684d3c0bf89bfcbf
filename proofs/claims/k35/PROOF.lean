import PyProof.Rows.All
import Wide.All
import OpenK.AllK
import Wide.FinOn
import HandS.Base
import HandS.Call
import HandS.List
import HandS.Ends
import HandS.Words
import HandS.Exc
import HandS.ExcOwn
import HandS.ExcInit
import HandS.ExcField
import HandS.ExcIs
import HandS.WordsExc
import HandS.TryOnly
import HandS.TryMany
import KE.KExcIs
import PyProof.ReprRoads
import HandS.Wide
import HandS.IsInst
import HandS.Defaults
import HandS.Style
import HandS.Comp
import HandS.Flow
import HandS.Iter
import HandS.Zip
import HandS.CallLocal
import HandS.Dict
import HandS.Walk
import HandS.MakeKw
import PyProof.FitsInt
import PySem.Challenge.RW_besttelling_k35_bounds_told
namespace Fr
theorem fmod_abs (a : Int) {b : Int} (h : b ≠ 0) : (a.fmod b).natAbs < b.natAbs := by
  by_cases hb : 0 < b
  · have h1 := Int.fmod_lt_of_pos a hb
    have h2 := Int.fmod_nonneg_of_pos a hb
    omega
  · have hb' : 0 < -b := by omega
    have e := Int.neg_fmod_neg (-a) (-b)
    rw [Int.neg_neg, Int.neg_neg] at e
    have h1 := Int.fmod_lt_of_pos (-a) hb'
    have h2 := Int.fmod_nonneg_of_pos (-a) hb'
    omega
theorem gcd_step (a b : Int) : Int.gcd b (a.fmod b) = Int.gcd a b := by
  rw [Int.fmod_def, Int.mul_comm, Int.gcd_sub_mul_right_right, Int.gcd_comm]
theorem gcd_pos {t b : Int} (h : b ≠ 0) : (0 : Int) < (Int.gcd t b : Int) := by
  have : 0 < Int.gcd t b := Int.gcd_pos_of_ne_zero_right t h
  omega
theorem low_num {t b : Int} (hb : 0 < b) : t.fdiv (Int.gcd t b) = (Rat.divInt t b).num := by
  rw [Rat.num_divInt, Int.sign_eq_one_of_pos hb, Int.one_mul, Int.gcd_comm b t, Int.fdiv_eq_ediv_of_nonneg _ (by omega)]
theorem low_den {t b : Int} (hb : 0 < b) : b.fdiv (Int.gcd t b) = ((Rat.divInt t b).den : Int) := by
  rw [Rat.den_divInt, if_neg (by omega), Int.gcd_comm b t, Int.fdiv_eq_ediv_of_nonneg _ (by omega), Int.natCast_ediv]
  congr 1
  omega
theorem lowN_num {t b : Int} (hb : b < 0) : t.fdiv (-(Int.gcd t b : Int)) = (Rat.divInt t b).num := by
  have e := Int.neg_fdiv_neg (-t) (Int.gcd t b : Int)
  rw [Int.neg_neg] at e
  rw [e, Rat.num_divInt, Int.sign_eq_neg_one_of_neg hb, Int.gcd_comm b t, Int.fdiv_eq_ediv_of_nonneg _ (by omega), Int.neg_mul, Int.one_mul]
theorem lowN_den {t b : Int} (hb : b < 0) : b.fdiv (-(Int.gcd t b : Int)) = ((Rat.divInt t b).den : Int) := by
  have e := Int.neg_fdiv_neg (-b) (Int.gcd t b : Int)
  rw [Int.neg_neg] at e
  rw [e, Rat.den_divInt, if_neg (by omega), Int.gcd_comm b t, Int.fdiv_eq_ediv_of_nonneg _ (by omega), Int.natCast_ediv]
  congr 1
  omega
/-- top and bottom below 2 ^ n -/
def Bd (n : Nat) (q : Rat) : Prop := q.num.natAbs < 2 ^ n ∧ q.den < 2 ^ n
theorem Bd.mono {n m : Nat} {q : Rat} (h : Bd n q) (l : n ≤ m) : Bd m q :=
  ⟨Nat.lt_of_lt_of_le h.1 (Nat.pow_le_pow_right (by decide) l), Nat.lt_of_lt_of_le h.2 (Nat.pow_le_pow_right (by decide) l)⟩
theorem bd_low {t b : Int} {n : Nat} (ht : t.natAbs < 2 ^ n) (hb : b.natAbs < 2 ^ n) (h : b ≠ 0) : Bd n (Rat.divInt t b) := by
  constructor
  · rw [Rat.num_divInt]
    have h1 : (b.sign * t).natAbs = t.natAbs := by
      rw [Int.natAbs_mul, Int.natAbs_sign_of_ne_zero h, Nat.one_mul]
    have h2 : (b.sign * t / (b.gcd t : Int)).natAbs ≤ (b.sign * t).natAbs := Int.natAbs_ediv_le_natAbs _ _
    omega
  · rw [Rat.den_divInt, if_neg h]
    exact Nat.lt_of_le_of_lt (Nat.div_le_self _ _) hb
theorem den_pos (q : Rat) : (0 : Int) < (q.den : Int) := by
  have := q.den_pos
  omega
theorem den_ne (q : Rat) : (q.den : Int) ≠ 0 := Int.ne_of_gt (den_pos q)
theorem add_eq (a b : Rat) : Rat.divInt (a.num * b.den + b.num * a.den) (a.den * b.den) = a + b := by
  rw [← Rat.divInt_add_divInt _ _ (den_ne a) (den_ne b), Rat.num_divInt_den, Rat.num_divInt_den]
theorem sub_eq (a b : Rat) : Rat.divInt (a.num * b.den - b.num * a.den) (a.den * b.den) = a - b := by
  rw [Rat.sub_def, Rat.normalize_eq_mkRat, ← Int.natCast_mul]
  rfl
theorem mul_eq (a b : Rat) : Rat.divInt (a.num * b.num) (a.den * b.den) = a * b := by
  rw [← Rat.divInt_mul_divInt, Rat.num_divInt_den, Rat.num_divInt_den]
theorem div_eq (a b : Rat) : Rat.divInt (a.num * b.den) (a.den * b.num) = a / b := by
  rw [Rat.div_def, Rat.inv_def, ← Rat.divInt_mul_divInt, Rat.num_divInt_den]
theorem mul_bd {i j : Int} {n m : Nat} (hi : i.natAbs < 2 ^ n) (hj : j.natAbs < 2 ^ m) : (i * j).natAbs < 2 ^ (n + m) := by
  rw [Int.natAbs_mul, Nat.pow_add]
  exact Nat.mul_lt_mul'' hi hj
theorem add_bd {i j : Int} {n : Nat} (hi : i.natAbs < 2 ^ n) (hj : j.natAbs < 2 ^ n) : (i + j).natAbs < 2 ^ (n + 1) := by
  rw [Nat.pow_succ]
  omega
theorem sub_bd {i j : Int} {n : Nat} (hi : i.natAbs < 2 ^ n) (hj : j.natAbs < 2 ^ n) : (i - j).natAbs < 2 ^ (n + 1) := by
  rw [Nat.pow_succ]
  omega
theorem Bd.dn {n : Nat} {q : Rat} (h : Bd n q) : (q.den : Int).natAbs < 2 ^ n := by
  rw [Int.natAbs_natCast]
  exact h.2
theorem up {i : Int} {n m : Nat} (h : i.natAbs < 2 ^ n) (l : n ≤ m) : i.natAbs < 2 ^ m := Nat.lt_of_lt_of_le h (Nat.pow_le_pow_right (by decide) l)
theorem dd_ne (a b : Rat) : (a.den : Int) * (b.den : Int) ≠ 0 := Int.mul_ne_zero (den_ne a) (den_ne b)
theorem bd_add {a b : Rat} {n m : Nat} (ha : Bd n a) (hb : Bd m b) : Bd (n + m + 1) (a + b) := by
  rw [← add_eq]
  refine bd_low ?_ (up (mul_bd ha.dn hb.dn) (Nat.le_succ _)) (dd_ne a b)
  have h2 := mul_bd hb.1 ha.dn
  rw [Nat.add_comm m n] at h2
  exact add_bd (mul_bd ha.1 hb.dn) h2
theorem bd_sub {a b : Rat} {n m : Nat} (ha : Bd n a) (hb : Bd m b) : Bd (n + m + 1) (a - b) := by
  rw [← sub_eq]
  refine bd_low ?_ (up (mul_bd ha.dn hb.dn) (Nat.le_succ _)) (dd_ne a b)
  have h2 := mul_bd hb.1 ha.dn
  rw [Nat.add_comm m n] at h2
  exact sub_bd (mul_bd ha.1 hb.dn) h2
theorem bd_mul {a b : Rat} {n m : Nat} (ha : Bd n a) (hb : Bd m b) : Bd (n + m) (a * b) := by
  rw [← mul_eq]
  exact bd_low (mul_bd ha.1 hb.1) (mul_bd ha.dn hb.dn) (dd_ne a b)
theorem ratio_gcd (q : Rat) : Int.gcd q.num q.den = 1 := by
  have := q.reduced
  rw [Int.gcd, Int.natAbs_natCast]
  exact this
theorem foldl_add (l : List Rat) : ∀ a : Rat, l.foldl (· + ·) a = a + l.sum := by
  induction l with
  | nil => intro a; rw [List.foldl_nil, List.sum_nil, Rat.add_zero]
  | cons x r ih => intro a; rw [List.foldl_cons, ih, List.sum_cons, Rat.add_assoc]
theorem sum_rev (l : List Rat) : l.reverse.sum = l.sum := by
  induction l with
  | nil => rfl
  | cons x r ih => rw [List.reverse_cons, List.sum_append, ih, List.sum_cons, List.sum_cons, List.sum_nil, Rat.add_zero, Rat.add_comm]
theorem div_self' {a : Rat} (h : a ≠ 0) : a / a = 1 := by
  rw [Rat.div_def]
  exact Rat.mul_inv_cancel a h
end Fr

set_option Elab.async false
set_option linter.all false
set_option maxRecDepth 100000
set_option maxHeartbeats 4000000
namespace BX
open PySem PySem.Spec PyProof.Rows L2
/-! ### several clauses «except x as n» -/
structure Clause where
  cls : Value
  slot : Nat
  ts : Addr → Value → Option Addr → TS
def wClauses (K : PySem.W.Frag) (Wout : WX) (D : Ends) : List Clause → WX
  | [] => Wout
  | c :: r => wAs K c.cls c.slot c.ts (wClauses K Wout D r) D
inductive ClausesOk (X : Cx) : List ExceptHandler → List Clause → Prop
  | nil : ClausesOk X [] []
  | cons {x n : Str} {c : Value} {i : Nat} {ts : Addr → Value → Option Addr → TS} {b₀ : Stmt} {suite : List Stmt} {np pos' : Pos} {hds : List ExceptHandler} {l : List Clause} (hi : X.N[i]? = some n) (hln : X.env.kindOf n = some .local) (hc : Names X x c)
      (hsu : ∀ (a : Addr) (oe : Obj) (cls : Value) (d : Option Addr) (pn : List (Addr × Obj)), Zc cls d oe → (∃ vs, oe.data = .fields vs) → PSs (X.suite a ((a, oe) :: pn)) (b₀ :: suite) (ts a cls d)) (r : ClausesOk X hds l) :
      ClausesOk X (.ExceptHandler (some (.Name x np)) (some n) (b₀ :: suite) pos' :: hds) (⟨c, i, ts⟩ :: l)
section
variable {X : Cx} {body : List Stmt} {h₀ : ExceptHandler} {hds : List ExceptHandler} {l : List Clause} {pos : Pos} {tb : WX → TS} {Wout : WX}
theorem ps_try_clauses (hs : X.stack = X.env :: X.outer) (hf : X.env.frame = some X.env.locals) (hN : X.N.Nodup) (tk : Takes X Wout)
    (hb : ∀ (W : WX) (pn : List (Addr × Obj)) (xe : Value → Shared → Prop), Takes (X.tr pn xe) W → PassesOwn (model X.prog X.w) X.A X.env xe → PSs (X.tr pn xe) body (tb W))
    (hh : ClausesOk X (h₀ :: hds) l) : PS X (.Try body (h₀ :: hds) [] [] pos) (fun D σ H => tb (wClauses X.K Wout D l) D σ H) := by
  refine ⟨fun pins s σ H D I h => ?_⟩
  have ok := I.ok
  have hfr : X.A.frames = some (X.env :: X.outer) := by rw [ok.frames, hs]
  refine wpAny_Try_except ?_
  refine wpAny_mono ((hb (wClauses X.K Wout D l) (X.pn ++ pins) (fun e s₁ => wpAny (model X.prog X.w) X.A (noteFrame e X.env) (fun _ s₂ => wpAny (model X.prog X.w) X.A (setFlight e none) (fun _ s₃ =>
    wpAny (model X.prog X.w) X.A (handleBy e X.env (h₀ :: hds)) (SP X pins D) X.xe s₃) X.xe s₂) X.xe s₁) (fun u s' xx => ?_) PassesOwn.looking).run [] s σ H D (I.toTry _) h) (fun f s1 hsp => ?_) (fun e s1 he => he)
  · obtain ⟨a, B, sI, pins', σ', H', cls, d, rfl, J', nb, up, sky, na, os, ag, ww⟩ := xx
    have J : Inv X pins σ' H' sI := J'.ofTry ok
    have sky' : Sky B (X.env :: X.outer) a (Zc cls d) X.env.locals s'.heap := by rw [← hs]; exact sky
    show wpAny (model X.prog X.w) X.A (noteFrame (.ref a) X.env) _ _ _
    refine Sky.land Zc.steady hfr hf sky' fun h3 fl3 up3 => ?_
    have J3 : Inv X pins σ' H' { s' with heap := h3 } := J.landed nb fl3.1 (up.trans up3) os ag
    obtain ⟨oe3, vs3, he3, hz3, hd3⟩ := fl3.there
    have nfr : a ∉ frs (X.env :: X.outer) := fun hm => by
      obtain ⟨_, o', e', hnf⟩ := fl3.2.2.1.mem hm
      rw [he3] at e'; cases e'
      exact hnf _ hd3
    have nL : a ≠ X.env.locals := fun z => nfr (List.mem_filterMap.mpr ⟨X.env, List.mem_cons_self, by rw [hf, z]⟩)
    have nF : a ∉ X.fs := fun hm => by
      obtain ⟨e, he, q⟩ := List.mem_filterMap.mp hm
      exact nfr (List.mem_filterMap.mpr ⟨e, List.mem_cons_of_mem _ he, q⟩)
    have S3 := J3.suite he3 hd3 na nL nF
    have go : ∀ {hds' : List ExceptHandler} {l' : List Clause}, ClausesOk X hds' l' → wClauses X.K Wout D l' cls d σ' H' →
        wpAny (model X.prog X.w) X.A (handleBy (.ref a) X.env hds') (SP X pins D) X.xe { s' with heap := h3 } := by
      intro hds' l' hk
      induction hk with
      | nil =>
        intro ww
        refine wpAny_handleBy_nil ?_
        obtain ⟨k1, k2, k3, oe, vs, T, oT, ts', he, hz, hd, h1, hr⟩ := id fl3
        unfold PySem.passOn
        refine wpAny_bind (wpAny_field he hd h1 ?_)
        rw [if_neg (show ¬ ((Value.ref T == Value.none) = true) from by simp)]
        have fin : wpAny (model X.prog X.w) X.A (setFlight (.ref a) X.env.frame) (fun _ s4 => wpAny (model X.prog X.w) X.A (throw (.ref a) : Sem Flow) (SP X pins D) X.xe s4) X.xe { s' with heap := h3 } := by
          rw [hf]
          refine HandSPX.setFlight_upZ fl3 fun h4 hh4 up4 => wpAny_throw (tk _ _ ?_)
          exact ⟨a, B, sI, pins, σ', H', cls, d, rfl, J, nb, (up.trans up3).trans up4, .inr (.inr (by rw [hs]; exact hh4)), na, os, ag, ww⟩
        first
          | exact wpAny_bind (wpAny_pure (wpAny_bind fin))
          | exact wpAny_bind fin
      | @cons x n c i ts b₀ suite np pos' hds2 l2 hi hln hc hsu r ih =>
        intro ww
        have hloc : Loc X.env.scope n := .inl hln
        obtain ⟨b, hb1, hyes, hno⟩ := ww
        refine wpAny_handleBy_cons (codeAny_handlers_test ?_) (by intro q; cases q)
        have LT : PySem.W.Looks (model X.prog X.w) h3 (typeOf (.ref a)) cls := fun A Q E s k q => wpAny_typeOf_ref (k _ _ he3) (by rw [hz3.1]; exact q)
        have LM := PySem.W.exm_one (M := model X.prog X.w) (J3.kIn) LT hb1
        have test : ∀ {Q : Value → Shared → Prop} {E : Value → Shared → Prop}, Q c { s' with heap := h3 } → wpAny (model X.prog X.w) (X.A.mark (some (.ref a))) (eval (.Name x np) X.env) Q E { s' with heap := h3 } := fun {Q E} q => by
          obtain ⟨hg, hdbg, hm | ⟨hm, hv, hnn⟩⟩ := hc
          · exact ld_glob (X := X.suite a ((a, oe3) :: (X.pn ++ pins))) S3 hg hm q hdbg
          · exact ld_blt (X := X.suite a ((a, oe3) :: (X.pn ++ pins))) S3 hg hm hv q hnn hdbg
        refine test (LM.here ?_)
        cases b with
        | true =>
          refine codeAny_handlers_suite_as ?_
          refine HandSPX.lands_againZ fl3 fun h4 fl4 up4 => ?_
          have J4 : Inv X pins σ' H' { s' with heap := h4 } := J.landed nb fl4.1 ((up.trans up3).trans up4) os ag
          obtain ⟨oe4, vs4, he4, hz4, hd4⟩ := fl4.there
          have S4 := J4.suite he4 hd4 na nL nF
          refine store_ok (X := X.suite a ((a, oe4) :: (X.pn ++ pins))) (v := .ref a) S4 hN hi hloc rfl (fun s5 S5 => ?_) (.inr hln)
          refine wpAny_mono ((hsu a oe4 cls d (X.pn ++ pins) hz4 ⟨_, hd4⟩).run [] s5 _ H' _ S5 (hyes rfl a na)) (fun f s6 hsp => ?_) (fun _ _ z => False.elim z)
          have end_ : ∀ {σ6 : L2.St} {H6 : Hp} {Q : Shared → Prop}, Inv (X.suite a ((a, oe4) :: (X.pn ++ pins))) [] σ6 H6 s6 → (∀ s7, Inv X pins (σ6.set i none) H6 s7 → Q s7) →
              wpAny (model X.prog X.w) X.A (do bindName X.env n .none; unbindBehindTheSuite X.env n pos') (fun _ s7 => Q s7) X.xe s6 := fun {σ6 H6 Q} S6 hq => gone_ok (S6.unsuite ok) hN hi hln hq
          cases f with
          | next =>
            obtain ⟨σ6, H6, S6, q6⟩ := hsp
            exact end_ S6 fun s7 J7 => ⟨_, _, J7, q6⟩
          | brk =>
            obtain ⟨σ6, H6, S6, q6⟩ := hsp
            exact end_ S6 fun s7 J7 => ⟨_, _, J7, q6⟩
          | cont =>
            obtain ⟨σ6, H6, S6, q6⟩ := hsp
            exact end_ S6 fun s7 J7 => ⟨_, _, J7, q6⟩
          | ret u =>
            obtain ⟨v6, σ6, H6, S6, r6, q6⟩ := hsp
            exact end_ S6 fun s7 J7 => ⟨_, _, _, J7, r6, q6⟩
        | false =>
          show wpAny _ X.A (handleBy (.ref a) X.env hds2) _ _ _
          exact ih (hno rfl)
    exact go hh ww
  · cases f with
    | next =>
      obtain ⟨σ', H', J', q⟩ := hsp
      exact wpAny_execs_nil ⟨σ', H', J'.ofTry ok, q⟩
    | brk =>
      obtain ⟨σ', H', J', q⟩ := hsp
      exact ⟨σ', H', J'.ofTry ok, q⟩
    | cont =>
      obtain ⟨σ', H', J', q⟩ := hsp
      exact ⟨σ', H', J'.ofTry ok, q⟩
    | ret u =>
      obtain ⟨v, σ', H', J', r, q⟩ := hsp
      exact ⟨v, σ', H', J'.ofTry ok, r, q⟩
end
/-! ### isinstance of a caught error, with or without fields -/
def rIsX (K : PySem.W.Frag) (D a : Addr) (cls : Value) (d : Option Addr) : List V → Hp → VK → Prop := fun xs H Q => ∃ (c : V) (u : Value) (b : Bool), xs = [.ref a, c] ∧ cls = .ref D ∧ ClsE c u ∧ (d = none ∨ ∃ dd fs, d = some dd ∧ H dd = some (.xd fs)) ∧ PySem.W.kitOne K (.ref D) u = some b ∧ Q (.bl b) H
where ClsE (c : V) (u : Value) : Prop := ∀ w, RelV c w → w = u
theorem call_isX {X : Cx} {a D : Addr} {oe : Obj} {cls : Value} {d : Option Addr} {pn : List (Addr × Obj)} (C : ExcC X.K D) (hz : Zc cls d oe) (hf : ∃ vs, oe.data = .fields vs) : CallR (X.suite a ((a, oe) :: pn)) (.builtin "isinstance") (rIsX X.K D a cls d) := by
  intro pins s σ H xs us Q I r h
  obtain ⟨c, u, b, rfl, rfl, hcv, hdd, e, q⟩ := h
  cases r with
  | cons rx rr =>
    cases rr with
    | cons rt rr =>
      cases rr
      cases rx
      have ec := hcv _ rt
      subst ec
      obtain ⟨hget, _⟩ := I.pin (a, oe) (List.mem_append.mpr (.inl List.mem_cons_self))
      obtain ⟨vs, hv⟩ := hf
      have hcl : (PySem.W.clsIn X.K D).isSome = true := by
        obtain ⟨cd, hc, _⟩ := PySem.W.any_some C.hd
        rw [hc]
        rfl
      have J : ∃ od, PySem.W.InstAt s.heap a oe D od := by
        obtain ⟨oc, od, oda, osl⟩ := oe
        obtain ⟨h1, h2⟩ := hz
        dsimp only at h1 h2 hv
        subst h1 h2 hv
        rcases hdd with rfl | ⟨dd, fs, rfl, hx⟩
        · exact ⟨none, hget, rfl, rfl, trivial⟩
        · obtain ⟨o, ho⟩ := objOk_get (I.hok dd _ hx)
          exact ⟨some o, hget, rfl, rfl, ho⟩
      obtain ⟨od, J⟩ := J
      exact PySem.W.kia_one (PySem.W.kitx_exc hcl C.hg C.hk C.hs C.ha C.hn C.ht C.hm) I.kIn J e (fun z => nomatch z) fun tk => ⟨.bl b, H, I.kept (t' := tk) fun _ _ z => z, rfl, q⟩
end BX

set_option Elab.async false
set_option linter.all false
set_option maxRecDepth 100000
set_option maxHeartbeats 4000000
namespace BX
open PySem PySem.Spec PyProof.Rows L2
/-! ### promises of defs that are called where nothing is being shown -/
structure FnOkG (P : Program) (w : World) (K : PySem.W.Frag) (mg : Str → Option Value) (base : Heap) (CX : CXT) (k : Nat) (f : Addr) (fd : FuncData) (ps : List Str) (sp : Sp) : Prop where
  len : ∀ vs H Q E, sp vs H Q E → vs.length = ps.length
  run : ∀ (A : Around) (outer : List Env) (s : Shared) (H : Hp) (args : Args) (us : List Value) (vs : List V) (Q : VK) (E : XK), Room k A → A.guards = some [] → Env0 P w K mg base A outer s H → BindsTo s fd args (ps.zip us) → Vals vs us → sp vs H Q E →
    codeAny (model P w) A (.call (.ref f) args) (CR CX outer P w H s Q E) s
section
variable {P : Program} {w : World} {K : PySem.W.Frag} {mg : Str → Option Value} {base : Heap} {CX : CXT} {k : Nat} {f : Addr} {fd : FuncData} {ps : List Str} {sp : Sp}
theorem FnOkG.of (F : FnOk P w K mg base CX k f fd ps sp) : FnOkG P w K mg base CX k f fd ps sp := ⟨F.len, fun A outer s H args us vs Q E hr _ e b r h => F.run A outer s H args us vs Q E hr e b r h⟩
theorem FnOkG.mono {j : Nat} (F : FnOkG P w K mg base CX j f fd ps sp) (h : j ≤ k) : FnOkG P w K mg base CX k f fd ps sp := ⟨F.len, fun A outer s H args us vs Q E hr => F.run A outer s H args us vs Q E (hr.mono h)⟩
/-- the body of such a def -/
theorem fn_ofG {name qual : Str} {params : Arguments} {body : List Stmt} {scope : Scope} {dV kV doc pm cdv ct oc : Value} {an od : Option Addr} {osl : Array (Option Value)} {N : List Str}
    (lk : K.lookup f = some ⟨oc, od, .func (PySem.W.fnOf name qual params body scope dV kV doc pm an cdv ct), osl⟩) (hcd : PySem.W.codeIn K cdv qual = true) (S : FnScope N ps scope) (len : ∀ vs H Q E, sp vs H Q E → vs.length = ps.length)
    (hbody : ∀ (A : Around) (outer : List Env) (s : Shared) (H : Hp) (vs : List V) (Q : VK) (E : XK), Room k (A.deeper (envOfC qual scope s.heap.objs.size f cdv)) → (A.deeper (envOfC qual scope s.heap.objs.size f cdv)).guards = some [] → sp vs H Q E →
      ∃ t, PSs (cxOf CX P w K mg base N qual scope f cdv A outer s H E) body t ∧ t { nx := fun _ H' => Q .non H', rt := Q } (start N vs) H) :
    FnOkG P w K mg base CX (k + 1) f (PySem.W.fnOf name qual params body scope dV kV doc pm an cdv ct) ps sp := by
  refine ⟨len, fun A outer s H args us vs Q E hr hgd e0 hb r hsp => ?_⟩
  have KX : K.In s.heap := e0.mod.kin.keeps fun b o e => (e0.bs b o e).1
  have lim : s.heap.NoLimit := e0.mod.nolimit.keeps fun b o e => (e0.bs b o e).1
  have hkind : ∀ y ∈ ps.zip us, scope.names.lookup y.1 = some .local ∨ (scope.names.lookup y.1 = some .cell ∧ ((cellsFrom (s.heap.objs.size + 1) scope.names []).lookup y.1).isSome = true) := fun ⟨n, v⟩ hy => by
    rcases S.par n (List.of_mem_zip hy).1 with q | q
    · exact .inl q
    · exact .inr ⟨q, PySem.W.cellsFrom_some _ _ _ (.inl q)⟩
  refine codeAny_call_function hr.depth (KX _ _ lk) rfl S.co S.gen rfl (PySem.W.codeRec_of KX hcd) (hb _ _ _ _ ?_)
  refine wpAny_newFunctionEnv_cells S.kind hkind fun env he s1 x => ?_
  subst he
  refine ⟨lim.keeps x.toInCall.keep, codeAny_func ?_⟩
  obtain ⟨t, ht, hq⟩ := hbody A outer s H vs Q E (hr.deeper _) hgd hsp
  have I : Inv (cxOf CX P w K mg base N qual scope f cdv A outer s H E) [] (start N vs) H s1 := inv_start S hr.hd e0 (len _ _ _ _ hsp) r x
  refine wpAny_mono (ht.run [] s1 (start N vs) H _ I hq) (fun fl s' hs => ?_) fun e s' hs => hs
  have fin : ∀ {σ' : L2.St} {H' : Hp} {v : V} {u : Value}, Inv (cxOf CX P w K mg base N qual scope f cdv A outer s H E) [] σ' H' s' → RelV v u → Q v H' → CE outer P w H s Q u s' :=
    fun {σ' H' v u} J rv q => ⟨v, H', J.os, J.bare, J.base, J.hok, rv, q⟩
  cases fl with
  | ret u =>
    obtain ⟨v, σ', H', J, rv, q⟩ := hs
    exact fin J rv q
  | next =>
    obtain ⟨σ', H', J, q⟩ := hs
    exact fin (v := V.non) (u := Value.none) J rfl q
  | brk =>
    obtain ⟨_, _, _, q⟩ := hs
    exact False.elim q
  | cont =>
    obtain ⟨_, _, _, q⟩ := hs
    exact False.elim q
theorem okG {x qual : Str} {st : Stmt} {N : List Str} (F : Fun K x qual st f fd) (S : FnScope N ps (defScope st)) (len : ∀ vs H Q E, sp vs H Q E → vs.length = ps.length)
    (hbody : ∀ (cdv : Value) (A : Around) (outer : List Env) (s : Shared) (H : Hp) (vs : List V) (Q : VK) (E : XK), Room k (A.deeper (envOfC qual (defScope st) s.heap.objs.size f cdv)) → (A.deeper (envOfC qual (defScope st) s.heap.objs.size f cdv)).guards = some [] → sp vs H Q E →
      ∃ t, PSs (cxOf CX0 P w K mg base N qual (defScope st) f cdv A outer s H E).nox (defBody st) t ∧ t { nx := fun _ H' => Q .non H', rt := Q } (start N vs) H) : FnOkG P w K mg base CX0 (k + 1) f fd ps sp := by
  obtain ⟨oc, od, kV, doc, pm, an, cdv, ct, osl, rfl, lk, hcd⟩ := F.ex
  refine fn_ofG lk hcd S len fun A outer s H vs Q E hr hgd hsp => ?_
  obtain ⟨t, h, q⟩ := hbody cdv A outer s H vs Q E hr hgd hsp
  exact ⟨t, h.nox, q⟩
end
section
variable {X : Cx} {CX : CXT} {k : Nat} {f : Addr} {fd : FuncData} {ps : List Str} {sp : Sp} {E : XK} {x : Str} {p pos : Pos} {e : Expr} {es : List Expr} {t : TA} {ds : List Value} {dvs : List V}
theorem run_fnG {pins : List (Addr × Obj)} {σ : L2.St} {H : Hp} {s : Shared} {Q : VK} {us : List Value} {vs : List V} (F : FnOkG X.prog X.w X.K X.mg X.base CX k f fd ps sp) (hr : Room k X.A) (hgd : X.A.guards = some []) (hb : Binds X.K fd ps ds) (hd : Vals dvs ds) (hx : Passes CX X E)
    (I : Inv X pins σ H s) (r : Vals vs us) (h : sp (vs ++ dvs) H Q E) : wpAny (model X.prog X.w) X.A (call (.ref f) us) (EP X pins σ Q) X.xe s := by
  have r2 : Vals (vs ++ dvs) (us ++ ds) := r.append hd
  have hl : (us ++ ds).length = ps.length := by rw [← r2.length]; exact F.len _ _ _ _ h
  refine wpAny_call (codeAny_mono (F.run X.A X.stack s H ⟨us, []⟩ (us ++ ds) (vs ++ dvs) Q E hr hgd I.env0 (hb s us I.kIn hl) r2 h) fun r s' hq => ?_)
  cases r with
  | error e => exact hx pins σ H s e s' I hq
  | ok fl =>
    cases fl with
    | ret u => exact I.after hq
    | next => exact False.elim hq
    | brk => exact False.elim hq
    | cont => exact False.elim hq
theorem pe_callG (F : FnOkG X.prog X.w X.K X.mg X.base CX k f fd ps sp) (hr : Room k X.A) (hgd : X.A.guards = some []) (hg : Gl X x) (hm : X.mg x = some (.ref f)) (hk : PySem.W.keepIn X.K (.ref f) = true) (hb : Binds X.K fd ps ds) (hd : Vals dvs ds) (hx : Passes CX X E)
    (ha : PA X (e :: es) t) (hdb : (x == ("__debug__" : Str)) = false := by decide) (he : starEach (e :: es) X.env = (false, eval e X.env) :: starEach es X.env := by rfl) (hpl : (backTo pos (starEach es X.env)).any (·.1) = false := by rfl) :
    PE X (.Call (.Name x p) (e :: es) [] pos) (tCall sp dvs E t) := by
  refine ⟨fun pins s σ H Q I h => ?_⟩
  refine wpAny_Call_Name_kw (ld_glob I hg hm ?_ hdb)
  refine PySem.W.callWith_K (h₀ := X.base) I.ok.mod.kin hk (thn (ha.run pos pins s σ H _ I h) fun us s1 ⟨vs, H1, I1, r, q⟩ => ⟨I1.kIn, ?_⟩) he hpl
  exact run_fnG F hr hgd hb hd hx I1 r q
end
/-! ### repr -/
/-- data, or the empty dict -/
def Dq (K : PySem.W.Frag) (H : Hp) (v : V) (d : PyData) : Prop := Dp K H v d ∨ ∃ a, v = .ref a ∧ H a = some (.dK []) ∧ d = .dict []
mutual
theorem noDict {K : PySem.W.Frag} {H : Hp} : ∀ (d : PyData) (v : V), Dp K H v d → d.hasDict = false
  | .none, _, _ => rfl
  | .bool _, _, _ => rfl
  | .int _, _, _ => rfl
  | .str _, _, _ => rfl
  | .list ds, _, h => by
    cases h with
    | lst _ ha => exact noDicts ds _ ha
  | .tuple ds, _, h => by
    cases h with
    | tup _ ha => exact noDicts ds _ ha
  | .dict _, _, h => by cases h
theorem noDicts {K : PySem.W.Frag} {H : Hp} : ∀ (ds : List PyData) (vs : List V), DpAll K H vs ds → PyData.hasDictAll ds = false
  | [], _, _ => rfl
  | d :: ds, _, h => by
    cases h with
    | cons h1 h2 =>
      show (PyData.hasDict d || PyData.hasDictAll ds) = false
      rw [noDict d _ h1, noDicts ds _ h2]
      rfl
end
def rRepr (K : PySem.W.Frag) : List V → Hp → VK → Prop := fun xs H Q => ∃ x d, xs = [x] ∧ Dq K H x d ∧ d.showable = true ∧ d.depth ≤ 64 ∧ d.shown.length ≤ sizeLine ∧ Q (.str d.shown) H
theorem call_reprD {X : Cx} (hgd : X.A.guards = some []) (hu : X.A.units + 80 < cLine) : CallR X (.builtin "repr") (rRepr X.K) := by
  intro pins s σ H xs us Q I r h
  obtain ⟨x, d, rfl, hd, hs, hdp, hsz, q⟩ := h
  cases r with
  | @cons _ u _ _ ru rn =>
    cases rn
    have up : ∀ {a : Addr} {as : List Addr}, Reads s.heap (.ref a) d as → (d.hasDict = true → sysModules ∉ as) → wpAny (model X.prog X.w) X.A (call (.builtin "repr") [.ref a]) (EP X pins σ Q) X.xe s := fun {a as} rd hsm =>
      repr_of_reads' rd hs hsm hgd (by omega) (fun _ _ z => z) (fun h' u tk hk => ⟨.str d.shown, H, I.kept (t' := tk) hk, ⟨_, rfl⟩, q⟩) hsz
    rcases hd with hd | ⟨a, rfl, ha, rfl⟩
    · have nd := noDict d x hd
      cases hd with
      | non => cases (show u = Value.none from ru); exact P.repr_of_none ⟨.str (PyData.shown .none), H, I.tok _, ⟨_, rfl⟩, q⟩
      | bl b => cases (show u = Value.bool b from ru); exact P.repr_of_bool ⟨.str (PyData.shown (.bool b)), H, I.tok _, ⟨_, rfl⟩, q⟩
      | int i => obtain ⟨t, e⟩ := (show ∃ t, u = Value.int i t from ru); cases e; exact P.repr_of_int (of_decide_eq_true hs) ⟨.str (PyData.shown (.int i)), H, I.tok _, ⟨_, rfl⟩, q⟩
      | str y => obtain ⟨t, e⟩ := (show ∃ t, u = Value.str y t from ru); cases e; exact P.repr_of_str ⟨.str (PyData.shown (.str y)), H, I.tok _, ⟨_, rfl⟩, q⟩ hsz
      | @lst a xs ds h1 h2 =>
        cases (show u = Value.ref a from ru)
        obtain ⟨as, rd⟩ := Dp.reads I _ _ _ (Dp.lst h1 h2) (show RelV (.ref a) (.ref a) from rfl)
        exact up rd (fun z => by rw [nd] at z; cases z)
      | @tup a xs ds h1 h2 =>
        cases (show u = Value.ref a from ru)
        obtain ⟨as, rd⟩ := Dp.reads I _ _ _ (Dp.tup h1 h2) (show RelV (.ref a) (.ref a) from rfl)
        exact up rd (fun z => by rw [nd] at z; cases z)
    · cases (show u = Value.ref a from ru)
      obtain ⟨_, hns, vs, hkv, o, es, ep, h1, h2, h3, h4, h5, _⟩ := (show ObjOk X.prog X.w H s.heap a (.dK []) from I.hok a _ ha)
      cases hkv
      have he : es.toList = [] := List.eq_nil_of_length_eq_zero h5.length
      refine up (as := a :: [] ++ []) (Reads.dict h1 h2.1 h3 (by rw [he]; exact .nil) (by rw [he]; exact .nil)) (fun _ hm => ?_)
      have ea : sysModules = a := by simpa using hm
      rw [← ea] at hns
      exact absurd hns (by decide +kernel)
end BX

set_option Elab.async false
set_option linter.all false
set_option maxRecDepth 100000
set_option maxHeartbeats 2000000
namespace Co
open PySem PySem.Spec PyProof.Rows L2
open Fr (Bd)
/-! ### // by any number but nought -/
def CDivZ (_ j : Int) : Prop := j ≠ 0 ∧ j.natAbs.log2 < 9000
theorem op_fdivZ {X : Cx} : OpR X (binaryOp .FloorDiv) (rI CDivZ fun i j => .int (i.fdiv j)) := opI fun i j _ _ _ _ _ hc q => floordiv_int hc.1 q (.inl (PyProof.noPylong_of_log2 hc.2))
theorem divZ {i j : Int} {n : Nat} (h : j ≠ 0) (hb : j.natAbs < 2 ^ n) (h0 : 0 < n) (h9 : n ≤ 9000) : CDivZ i j := ⟨h, Nat.lt_of_lt_of_le (PySem.Flt.log2_lt_of h0 hb) h9⟩
theorem same_new {H : Hp} {p : Addr} (h : H p = none) (o : HO) : Same H (upd H p o) := fun b u q => by rw [upd_ne (ne_of_none q h)]; exact q
theorem seqT {K : PySem.W.Frag} {H H' : Hp} {a : Addr} {xs : List V} (e : Same H H') (h : SqT K H a xs) : SqT K H' a xs := by
  rcases h with (h | ⟨o, h⟩) | h
  · exact .inl (.inl (e _ _ h))
  · exact .inl (.inr ⟨o, e _ _ h⟩)
  · exact .inr h
/-- what stands in a fraction's tuple -/
def rp (q : Rat) : List V := [.int q.num, .int (q.den : Int)]
def spDiv : Sp := fun vs H Q _ => ∃ a b : Int, vs = [.int a, .int b] ∧ Q (.int (Int.gcd a b : Int)) H
def spLow : Sp := fun vs H Q _ => ∃ (t b : Int) (n : Nat), vs = [.int t, .int b] ∧ t.natAbs < 2 ^ n ∧ b.natAbs < 2 ^ n ∧ b ≠ 0 ∧ n ≤ 8950 ∧ ∀ p, H p = none → Q (.ref p) (upd H p (.tup (rp (Rat.divInt t b))))
theorem gcd_bd {t b : Int} {n : Nat} (h : b ≠ 0) (hb : b.natAbs < 2 ^ n) : (Int.gcd t b : Int).natAbs < 2 ^ n := by
  rw [Int.natAbs_natCast]
  exact Nat.lt_of_le_of_lt (Nat.le_of_dvd (by omega) (Int.gcd_dvd_natAbs_right t b)) hb
theorem wmul {i j : Int} {n m : Nat} (hi : i.natAbs < 2 ^ n) (hj : j.natAbs < 2 ^ m) (h : n + m ≤ 9000) : CMulW i j :=
  wide_mul (a := n + 1) (b := m + 1) (Fr.up hi (Nat.le_succ _)) (Fr.up hj (Nat.le_succ _)) (Nat.succ_pos _) (Nat.succ_pos _) (by omega)
theorem at0 (q : Rat) : atI (rp q) 0 = some (.int q.num) := atI_nat (j := 0) rfl
theorem at1 (q : Rat) : atI (rp q) 1 = some (.int (q.den : Int)) := atI_nat (j := 1) rfl
/-- a fraction made of two -/
def spBin (K : PySem.W.Frag) (g : Rat → Rat → Rat) : Sp := fun vs H Q _ => ∃ (a b : Addr) (x y : Rat) (n m : Nat), vs = [.ref a, .ref b] ∧ SqT K H a (rp x) ∧ SqT K H b (rp y) ∧ Bd n x ∧ Bd m y ∧ n + m ≤ 8900 ∧ ∀ p, H p = none → Q (.ref p) (upd H p (.tup (rp (g x y))))
def spUnder (K : PySem.W.Frag) : Sp := fun vs H Q _ => ∃ (a b : Addr) (x y : Rat) (n m : Nat), vs = [.ref a, .ref b] ∧ SqT K H a (rp x) ∧ SqT K H b (rp y) ∧ Bd n x ∧ Bd m y ∧ n + m ≤ 8900 ∧ Q (.bl (decide (x.num * y.den < y.num * x.den))) H
theorem abs_eq (x : Int) : (if x < 0 then -x else x) = (x.natAbs : Int) := by split <;> omega
theorem tyT {K : PySem.W.Frag} {H : Hp} {a : Addr} {xs : List V} (h : SqT K H a xs) : TyX K H (.ref a) (.type "tuple") := by
  rcases h with (h | ⟨o, h⟩) | ⟨o, its, n, e, c, _⟩
  · exact .base (.tup h)
  · exact .fTuple h
  · exact .kTuple e c
/-- what the module leaves of the built-in names -/
structure Blt (mg : Str → Option Value) : Prop where
  abs_ : mg "abs" = none
  isinstance_ : mg "isinstance" = none
  int_ : mg "int" = none
  bool_ : mg "bool" = none
  tuple_ : mg "tuple" = none
  list_ : mg "list" = none
  len_ : mg "len" = none
  range_ : mg "range" = none
  str_ : mg "str" = none
  repr_ : mg "repr" = none
  sum_ : mg "sum" = none
  all_ : mg "all" = none
  any_ : mg "any" = none
  enumerate_ : mg "enumerate" = none
  zip_ : mg "zip" = none
  min_ : mg "min" = none
  max_ : mg "max" = none
  sorted_ : mg "sorted" = none
  ValueError_ : mg "ValueError" = none
  ZeroDivisionError_ : mg "ZeroDivisionError" = none
  OverflowError_ : mg "OverflowError" = none
  IndexError_ : mg "IndexError" = none
  LookupError_ : mg "LookupError" = none
  ArithmeticError_ : mg "ArithmeticError" = none
  KeyError_ : mg "KeyError" = none
  RuntimeError_ : mg "RuntimeError" = none
/-- a list of fractions: its items, and what they are worth -/
structure FrL (K : PySem.W.Frag) (H : Hp) (refs : List V) (qs : List Rat) : Prop where
  len : refs.length = qs.length
  at_ : ∀ (i : Nat) (v : V), refs[i]? = some v → ∃ (a : Addr) (q : Rat), qs[i]? = some q ∧ v = .ref a ∧ SqT K H a (rp q) ∧ Bd 100 q
theorem FrL.keep {K : PySem.W.Frag} {H H' : Hp} {refs : List V} {qs : List Rat} (h : FrL K H refs qs) (k : ∀ a xs, SqT K H a xs → SqT K H' a xs) : FrL K H' refs qs :=
  ⟨h.len, fun i v e => let ⟨a, q, e1, e2, e3, e4⟩ := h.at_ i v e; ⟨a, q, e1, e2, k _ _ e3, e4⟩⟩
theorem FrL.same {K : PySem.W.Frag} {H H' : Hp} {refs : List V} {qs : List Rat} (h : FrL K H refs qs) (e : Same H H') : FrL K H' refs qs := h.keep fun _ _ => seqT e
theorem FrL.nil {K : PySem.W.Frag} {H : Hp} : FrL K H [] [] := ⟨rfl, fun i v e => by simp at e⟩
theorem FrL.snoc {K : PySem.W.Frag} {H : Hp} {refs : List V} {qs : List Rat} {a : Addr} {q : Rat} (h : FrL K H refs qs) (ha : SqT K H a (rp q)) (hb : Bd 100 q) : FrL K H (refs ++ [.ref a]) (qs ++ [q]) := by
  refine ⟨by rw [List.length_append, List.length_append, h.len]; rfl, fun i v e => ?_⟩
  by_cases hi : i < refs.length
  · rw [List.getElem?_append_left hi] at e
    obtain ⟨a', q', e1, e2, e3, e4⟩ := h.at_ i v e
    exact ⟨a', q', by rw [List.getElem?_append_left (by rw [← h.len]; exact hi)]; exact e1, e2, e3, e4⟩
  · rw [List.getElem?_append_right (by omega)] at e
    have e0 : i - refs.length = 0 := by
      cases z : i - refs.length with
      | zero => rfl
      | succ j => rw [z] at e; simp at e
    rw [e0] at e
    have ev : (V.ref a) = v := Option.some.inj e
    refine ⟨a, q, ?_, ev.symm, ha, hb⟩
    rw [List.getElem?_append_right (by rw [← h.len]; omega), ← h.len, e0]
    rfl
theorem keep_lst {K : PySem.W.Frag} {H : Hp} {l : Addr} {ys zs : List V} (hl : H l = some (.lst ys)) : ∀ a xs, SqT K H a xs → SqT K (upd H l (.lst zs)) a xs := fun a xs h => by
  rcases h with (h | ⟨o, h⟩) | h
  · exact .inl (.inl (by rw [upd_ne (ne_of h hl (by intro z; cases z))]; exact h))
  · exact .inl (.inr ⟨o, by rw [upd_ne (ne_of h hl (by intro z; cases z))]; exact h⟩)
  · exact .inr h
theorem sum_snoc {qs : List Rat} {i : Nat} {q : Rat} (h : qs[i]? = some q) : (qs.take (i + 1)).sum = (qs.take i).sum + q := by
  rw [List.take_add_one, h, List.sum_append]
  show _ + ([q] : List Rat).sum = _
  rw [List.sum_cons, List.sum_nil, Rat.add_zero]
def spLeft : Sp := fun vs H Q _ => ∃ c : Int, vs = [.int c] ∧ ∀ p n, H p = none → Q (.ref p) (upd H p (.lst [.int n]))
def spDigit : Sp := fun vs H Q _ => ∃ (l : Addr) (n m : Int), vs = [.ref l, .int m] ∧ H l = some (.lst [.int n]) ∧ 0 < m ∧ m.natAbs < 2 ^ 200 ∧ ∀ d n' : Int, 0 ≤ d → d < m → Q (.int d) (upd H l (.lst [.int n']))
theorem lt100 {i : Int} (h : i.natAbs ≤ 10 ^ 20) : i.natAbs < 2 ^ 100 := Nat.lt_of_le_of_lt h (by decide)
/-- a fraction as data -/
def dR (q : Rat) : PyData := .tuple [.int q.num, .int (q.den : Int)]
theorem dp_r {K : PySem.W.Frag} {H : Hp} {a : Addr} {q : Rat} (h : SqT K H a (rp q)) : Dp K H (.ref a) (dR q) := .tup h (.cons (.int _) (.cons (.int _) .nil))
theorem dR_lay (q : Rat) : (dR q).canLay0 = true := rfl
theorem dR_depth (q : Rat) : (dR q).depth = 1 := rfl
theorem dR_shaped (q : Rat) : SeqAt.shaped (dR q) = true := rfl
theorem FrL.dp {K : PySem.W.Frag} {H : Hp} : ∀ {refs : List V} {qs : List Rat}, FrL K H refs qs → DpAll K H refs (qs.map dR)
  | [], [], _ => .nil
  | [], _ :: _, h => by have := h.len; simp at this
  | _ :: _, [], h => by have := h.len; simp at this
  | v :: refs, q :: qs, h => by
    obtain ⟨a, q', e1, rfl, e3, _⟩ := h.at_ 0 v rfl
    have e : q = q' := Option.some.inj e1
    subst e
    refine .cons (dp_r e3) (FrL.dp ⟨by have := h.len; simpa using this, fun i v e => ?_⟩)
    exact h.at_ (i + 1) v e
theorem lays : ∀ qs : List Rat, PyData.canLayAll0 (qs.map dR) = true
  | [] => rfl
  | q :: qs => by
    show (PyData.canLay0 (dR q) && PyData.canLayAll0 (qs.map dR)) = true
    rw [lays qs]
    rfl
theorem deps : ∀ qs : List Rat, PyData.depthAll (qs.map dR) ≤ 1
  | [] => by decide
  | q :: qs => by
    have := deps qs
    show max (PyData.depth (dR q)) (PyData.depthAll (qs.map dR)) ≤ 1
    rw [dR_depth]
    omega
theorem list_lay (qs : List Rat) : (PyData.list (qs.map dR)).canLay0 = true := lays qs
theorem list_shaped (qs : List Rat) : SeqAt.shaped (.list (qs.map dR)) = true := by
  unfold SeqAt.shaped
  rw [list_lay, Bool.true_and]
  refine decide_eq_true ?_
  have := deps qs
  show PyData.depthAll (qs.map dR) + 1 ≤ 64
  omega
theorem FrL.rev {K : PySem.W.Frag} {H : Hp} {refs : List V} {qs : List Rat} (h : FrL K H refs qs) : FrL K H refs.reverse qs.reverse := by
  refine ⟨by rw [List.length_reverse, List.length_reverse, h.len], fun i v e => ?_⟩
  have hi : i < refs.length := by
    have := (List.getElem?_eq_some_iff.mp e).1
    rw [List.length_reverse] at this
    exact this
  rw [List.getElem?_reverse hi] at e
  obtain ⟨a, q, e1, e2, e3, e4⟩ := h.at_ _ v e
  refine ⟨a, q, ?_, e2, e3, e4⟩
  rw [List.getElem?_reverse (by rw [← h.len]; exact hi), ← h.len]
  exact e1
theorem cut_mem {xs : List V} {lo hi : Option Int} {x : V} (h : x ∈ cutV xs lo hi) : x ∈ xs := List.mem_of_mem_drop (List.mem_of_mem_take h)
theorem FrL.mem {K : PySem.W.Frag} {H : Hp} {refs : List V} {qs : List Rat} {v : V} (h : FrL K H refs qs) (hv : v ∈ refs) : ∃ (a : Addr) (q : Rat), v = .ref a ∧ SqT K H a (rp q) ∧ Bd 100 q := by
  obtain ⟨i, hi, e⟩ := List.getElem_of_mem hv
  obtain ⟨a, q, _, e2, e3, e4⟩ := h.at_ i v (by rw [List.getElem?_eq_getElem hi, e])
  exact ⟨a, q, e2, e3, e4⟩
theorem int_of {ns : List Int} {x : V} {lo hi : Option Int} {z : Int} {i : Nat} (h : (cutV (ns.map V.int) lo hi ++ [V.int z])[i]? = some x) : ∃ c : Int, x = .int c := by
  have hm := List.mem_of_getElem? h
  rcases List.mem_append.mp hm with hm | hm
  · obtain ⟨c, _, e⟩ := List.mem_map.mp (cut_mem hm)
    exact ⟨c, e.symm⟩
  · exact ⟨z, by simpa using hm⟩
/-- an error of the class at S is what «except S» names -/
theorem exm_self {K : PySem.W.Frag} {S : Addr} (h1 : PySem.W.subIn K (.ref S) (.type "BaseException") = some true) (h2 : PySem.W.isClsIn K S = true) (h3 : PySem.W.typeIn K (.ref S) = some (.type "type")) (h4 : PySem.W.subIn K (.ref S) (.ref S) = some true) :
    PySem.W.exmOne K (.ref S) (.ref S) = some true := by
  have e1 : (PySem.W.subIn K (.ref S) (.type "BaseException") == some true) = true := by rw [h1] <;> rfl
  have e2 : ((PySem.W.clsIn K S).isSome && PySem.W.typeIn K (.ref S) == some (.type "type")) = true := by
    have h2' : (PySem.W.clsIn K S).isSome = true := h2
    rw [h2', h3] <;> rfl
  show (if (PySem.W.subIn K (.ref S) (.type "BaseException") == some true) = true then (if ((PySem.W.clsIn K S).isSome && PySem.W.typeIn K (.ref S) == some (.type "type")) = true then PySem.W.subIn K (.ref S) (.ref S) else none) else none) = some true
  rw [if_pos e1, if_pos e2]
  exact h4
end Co

set_option Elab.async false
set_option linter.all false
set_option maxRecDepth 100000
set_option maxHeartbeats 4000000
namespace EXB
open PySem PySem.Spec PyProof.Rows L2
/-- what the written part says of an own error class over B -/
structure ExC (K : PySem.W.Frag) (C : Addr) (newId : String) (bmB : List Value) : Prop where
  cls : ∃ nm q N bs sn sub ab col dd k0 k1 k2 k3 k5, K.lookup C = some (excClassObj nm q C N bs bmB true sn sub ab col dd k0 k1 k2 k3 k5 newId)
  exC : PySem.W.subIn K (.ref C) (.type "BaseException") = some true
  tyC : PySem.W.typeIn K (.ref C) = some (.type "type")
  kC : PySem.W.keepIn K (.ref C) = true
section
variable {X : Cx} {pins : List (Addr × Obj)} {σ : L2.St} {H : Hp} {s : Shared} {a C : Addr} {A : Around} {E : Value → Shared → Prop} {B newId initId : String} {bmB : List Value}
/-- B.__init__(self, ..): nothing of it is told -/
theorem einit_ok {us : List Value} {Q : Value → Shared → Prop} (Fb : ExcBaseFacts B newId initId bmB) (T : ExC X.K C newId bmB) (I : Inv X pins σ H s) (e : H a = some (exo a C none)) (hl : us.length ≤ sizeLine) (h : ∀ s', Inv X pins σ H s' → Q .none s') :
    wpAny (model X.prog X.w) A (call (.builtin initId) (.ref a :: us)) Q E s := by
  obtain ⟨nm, q, N, bs, sn, sub, ab, col, dd, k0, k1, k2, k3, k5, hC⟩ := T.cls
  obtain ⟨t1, ho⟩ := exo_at I.hok e
  obtain ⟨hp, g, d, t, os⟩ := s
  refine wpAny_call (PySem.HandSPX.init_base Fb (fun Y => rfl) (I.kIn _ _ hC) ho hl fun h' t2 k hx => ?_)
  have J := I.write (t' := t) (x := a) (e := a) (o := exo a C none) (by rw [e]; exact True.intro) (.inl rfl) k ⟨_, hx⟩ (exo_ok hx)
  have eu : upd H a (exo a C none) = H := by
    funext b
    by_cases hb : b = a
    · rw [hb, upd_same, e]
    · rw [upd_ne hb]
  rw [eu] at J
  exact h _ J
end
def tExI (K : PySem.W.Frag) (newId : String) (bmB : List Value) (ta : TA) : TE := fun σ H Q => ta σ H fun vs H1 => ∃ (a C : Addr) (ws : List V), vs = .ref a :: ws ∧ ws.length ≤ 1000 ∧ ExC K C newId bmB ∧ H1 a = some (exo a C none) ∧ Q .non H1
section
variable {X : Cx} {e : Expr} {es : List Expr} {ta : TA} {p p1 p2 pos : Pos} {B newId initId : String} {bmB : List Value}
theorem typ_ZD : typeOf (.type "ZeroDivisionError") = pure (.type "type") := by kernel_rfl
theorem pe_zdinit {pl : Sem Bool} (hg : Gl X "ZeroDivisionError") (hm : X.mg "ZeroDivisionError" = none) (vV : PySem.W.findCls X.K (.type "ZeroDivisionError") (.type "type") "__init__" = some (.val (.builtin "ZeroDivisionError.__init__"))) (ha : PA X (e :: es) ta)
    (hc : eval (.Call (.Attribute (.Name "ZeroDivisionError" p1) "__init__" p2) (e :: es) [] pos) X.env = (do
      let ov ← eval (.Name "ZeroDivisionError" p1) X.env
      standAt p2.atName
      let (f, first) ← holding [ov] (getMethod ov "__init__" pl)
      callWith pos f first (backTo pos (starEach (e :: es) X.env)) (backToKw pos (keywordEach [] X.env))) := by rfl)
    (he : starEach (e :: es) X.env = (false, eval e X.env) :: starEach es X.env := by rfl) (hpl : (backTo pos (starEach es X.env)).any (·.1) = false := by rfl) :
    PE X (.Call (.Attribute (.Name "ZeroDivisionError" p1) "__init__" p2) (e :: es) [] pos) (tExI X.K "ZeroDivisionError.__new__" [.type "ZeroDivisionError", .type "ArithmeticError", .type "Exception", .type "BaseException", .type "object"] ta) := by
  refine ⟨fun pins s σ H Q I h => ?_⟩
  refine PySem.W.methodCall_KW (ld_blt I hg hm PyProof.Rows.Boot.«ZeroDivisionError» ?_ (by decide) (by decide)) hc
  obtain ⟨m, fr⟩ := I.fr
  refine PySem.W.method_type fr I.ok.mod.kin typ_ZD (by decide +kernel) vV (by decide +kernel) ?_
  show wpAny _ _ (callWith pos (Value.builtin "ZeroDivisionError.__init__") [] (backTo pos (starEach (e :: es) X.env)) []) _ _ _
  refine PyProof.Rows.callWith_method1 (thn (ha.run pos pins _ σ H _ (I.tok _) h) fun us s1 ⟨vs, H1, I1, r1, a, C, ws, ev, hl, T, ea, q⟩ => ?_) he hpl
  subst ev
  cases r1 with
  | @cons _ u0 _ ur ra rw' =>
    obtain rfl : u0 = Value.ref a := ra
    have hlen : ur.length ≤ sizeLine := by
      rw [← Paired.length rw', sizeLine_eq]
      omega
    exact einit_ok PySem.F.excBase_ZeroDivisionError T I1 ea hlen fun s' J => ⟨.non, H1, J, rfl, q⟩
/-- the end of C(..), no field: the exception is let go -/
theorem mk_endN {pins : List (Addr × Obj)} {σ : L2.St} {H1 H2 : Hp} {Q : XK} {hp hp2 h2 : Heap} {g1 g2 : Array GenState} {d1 d2 : Drawn} {t1 t2 : Nat} {os1 os2 : OsState} {a C : Addr} (T : Raises X (.ref C)) (I1 : Inv X pins σ H1 ⟨hp, g1, d1, t1, os1⟩)
    (ha : hp.objs.size ≤ a) (k : ∀ b o, hp.get? b = some o → hp2.get? b = some o) (un : Un (frs X.stack) [] (upd H1 a (exo a C none)) H2 hp2 h2) (hok : HOk X.prog X.w H2 h2) (ho : os2 = os1) (hb : AllBare g2)
    (ea : H2 a = some (exo a C none)) (q : Q (.ref C) none (del H2 a)) : MkP X pins σ Q (.ref a) ⟨h2, g2, d2, t2, os2⟩ := by
  obtain ⟨t0, hoe⟩ := exo_at hok ea
  have hn : H1 a = none := I1.hok.fresh ha
  obtain ⟨G, g1', g2'⟩ := restrict h2 fun b => decide (b ≠ a)
  have gk : ∀ b, b ≠ a → G.get? b = h2.get? b := fun b hb => g1' b (decide_eq_true hb)
  have ge : G.get? a = none := g2' a (by simp)
  have nha : ∀ {b : Addr} {o : Obj}, hp.get? b = some o → b ≠ a := fun {b o} z => Nat.ne_of_lt (Nat.lt_of_lt_of_le (Heap.lt_size z) ha)
  have up : ∀ {b : Addr}, b ≠ a → H1 b = none → upd H1 a (exo a C none) b = none := fun {b} hb n => by rw [upd_ne hb]; exact n
  have U : Un (frs X.stack) [] H1 (del H2 a) hp G := {
    keep := fun b o z n hf hx => by
      rw [gk b (nha z)]
      exact un.keep b o (k b o z) (up (nha z) n) hf hx
    slot := fun b o z n hf hx => by
      rw [gk b (nha z)]
      exact un.slot b o (k b o z) (up (nha z) n) hf hx
    free := fun b o z n hx => by
      rw [del_ne (nha z)]
      exact un.free b o (k b o z) (up (nha z) n) hx
    there := fun b o z hx => by
      rw [gk b (nha z)]
      exact un.there b o (k b o z) hx
    tups := fun b xs z => by
      rw [del_ne (ne_of_none z hn)]
      exact un.tups b xs (by rw [upd_ne (ne_of_none z hn)]; exact z)
    frzs := fun b o v z => by
      rw [del_ne (ne_of_none z hn)]
      exact un.frzs b o v (by rw [upd_ne (ne_of_none z hn)]; exact z)
    tbls := fun b ps z => by
      rw [del_ne (ne_of_none z hn)]
      exact un.tbls b ps (by rw [upd_ne (ne_of_none z hn)]; exact z) }
  have hok3 : HOk X.prog X.w (del H2 a) G := fun b o z => by
    have hba : b ≠ a := fun e => by
      rw [e, del_same] at z
      cases z
    rw [del_ne hba] at z
    have noa : ∀ {c : Addr}, H2 c = some (.own b) → c ≠ a := fun {c} hc => at_ne ea hc exo_own
    exact (hok b o z).stay (fun c v hc y => by
        have hca : c ≠ a := by
          rcases hc with hc | hc
          · rw [hc]
            exact hba
          · exact noa hc
        rw [gk c hca]
        exact y)
      (fun c hc => by rw [del_ne (noa hc)]; exact hc) (fun c xs hc => by rw [del_ne (at_ne ea hc exo_tup)]; exact hc)
  have J : Inv X pins σ (del H2 a) ⟨G, g2, d2, t2, os2⟩ := I1.call' (ch := []) ho U hok3 hb (fun b z => absurd z (by simp))
  refine ⟨a, _, _, ⟨G, g2, d2, t2, os2⟩, _, .ref C, none, rfl, J, fun b o z => ?_, ge, hoe, ⟨rfl, rfl⟩, rfl, rfl, del_same, rfl, hb, T, q⟩
  by_cases hba : b = a
  · have z' : G.get? b = some o := z
    rw [hba, ge] at z'
    cases z'
  · exact (gk b hba).symm.trans z
/-- the promise of an __init__ that makes no field -/
def spEi (C : Addr) : Sp := fun vs H Q _ => ∃ a, vs = [.ref a] ∧ H a = some (exo a C none) ∧ Q .non H
/-- C(), C's __init__ making no field -/
theorem pmk_exN {x : Str} {C fI : Addr} {k : Nat} {fd : FuncData} {ps : List Str} (Fb : ExcBaseFacts B newId initId bmB) (T : ExC X.K C newId bmB) (iC : PySem.W.findIn X.K (.ref C) "__init__" = some (some (.ref fI))) (tI : PySem.W.typeIn X.K (.ref fI) = some (.type "function"))
    (F1 : FnOk X.prog X.w X.K X.mg X.base CX0 k fI fd ps (spEi C)) (hr : Room (k + 1) X.A) (hb : Binds X.K fd ps []) (hg : Gl X x) (hm : X.mg x = some (.ref C))
    (hdb : (x == ("__debug__" : Str)) = false := by decide) :
    PMk X (.Call (.Name x p) [] [] pos) (fun _ H Q => Q (.ref C) none H) := by
  intro pins s σ H Q I h
  obtain ⟨nm, q, N, bs, sn, sub, ab, col, dd, k0, k1, k2, k3, k5, hC⟩ := T.cls
  refine wpAny_Call_Name_kw (ld_glob I hg hm ?_ hdb)
  refine PySem.W.callWith_K0 I.kIn T.kC ?_
  show wpAny _ _ (call (.ref C) []) _ _ _
  obtain ⟨hp, g, dr, tk, os⟩ := s
  have hsz : hp.objs.size ≤ hp.objs.size + 1 := Nat.le_succ _
  have hn : H (hp.objs.size + 1) = none := I.hok.fresh hsz
  have kk : ∀ b o, hp.get? b = some o → ((hp.push (PySem.W.kdv_tup [])).push (PySem.HandSPX.excO C hp.objs.size)).get? b = some o := fun b o e => Heap.get?_push_of_some _ (Heap.get?_push_of_some _ e)
  have hget : ((hp.push (PySem.W.kdv_tup [])).push (PySem.HandSPX.excO C hp.objs.size)).get? (hp.objs.size + 1) = some (PySem.HandSPX.excO C hp.objs.size) := by heap_get
  have I2 : Inv X pins σ (upd H (hp.objs.size + 1) (exo (hp.objs.size + 1) C none)) ⟨(hp.push (PySem.W.kdv_tup [])).push (PySem.HandSPX.excO C hp.objs.size), g, dr, tk, os⟩ :=
    I.laid (t' := tk) (a := hp.objs.size + 1) (o := exo (hp.objs.size + 1) C none) (h' := (hp.push (PySem.W.kdv_tup [])).push (PySem.HandSPX.excO C hp.objs.size)) kk hsz (exo_ok hget)
  have r2 : Vals [V.ref (hp.objs.size + 1)] [Value.ref (hp.objs.size + 1)] := .cons rfl .nil
  have hq : spEi C [V.ref (hp.objs.size + 1)] (upd H (hp.objs.size + 1) (exo (hp.objs.size + 1) C none)) (fun v H2 => v = .non ∧ H2 = upd H (hp.objs.size + 1) (exo (hp.objs.size + 1) C none)) (fun _ _ _ => False) :=
    ⟨_, rfl, upd_same, rfl, rfl⟩
  have hl : ([Value.ref (hp.objs.size + 1)] ++ []).length = ps.length := by
    have e := r2.length
    rw [F1.len _ _ _ _ hq] at e
    exact e.symm
  refine wpAny_call (PySem.HandSPX.call_own Fb (fun Y => rfl) (I.kIn _ _ hC) (PySem.W.looks_findIn I.kIn iC) (fun self => PySem.W.bind_fn I.kIn self tI) (Nat.zero_le _)
    (codeAny_mono (F1.run _ X.stack _ _ ⟨[Value.ref (hp.objs.size + 1)], []⟩ [Value.ref (hp.objs.size + 1)] _ _ (fun _ _ _ => False) (hr.make C [] []) (I2.env0.make C [] []) (hb _ [Value.ref (hp.objs.size + 1)] I2.kIn hl) r2 hq) fun r s' hq' => ?_))
  cases r with
  | error er => exact False.elim hq'
  | ok fl =>
    cases fl with
    | ret u =>
      obtain ⟨v, H2, os2, bare2, un2, hok2, rv, ev, eH⟩ := hq'
      subst ev
      subst eH
      obtain ⟨h2, g2, d2, t2, os'⟩ := s'
      refine ⟨rv, mk_endN (raises_own T.exC T.tyC) I hsz kk un2 hok2 os2 bare2 upd_same ?_⟩
      have eD : del (upd H (hp.objs.size + 1) (exo (hp.objs.size + 1) C none)) (hp.objs.size + 1) = H := by
        funext b
        by_cases hb : b = hp.objs.size + 1
        · rw [hb, del_same]
          exact hn.symm
        · rw [del_ne hb, upd_ne hb]
      rw [eD]
      exact h
    | next => exact False.elim hq'
    | brk => exact False.elim hq'
    | cont => exact False.elim hq'
end
/-! ### an own error over ValueError with one field -/
/-- the promise of an __init__ that makes the field f -/
def spE1 (C : Addr) (f : Str) : Sp := fun vs H Q _ => ∃ a v, vs = [.ref a, v] ∧ H a = some (exo a C none) ∧ ∀ dx, H dx = none → dx ≠ a → Q .non (upd (upd H dx (exd dx [(f, v)])) a (exo a C (some dx)))
/-- the same of two fields -/
def spE2 (C : Addr) (f g : Str) : Sp := fun vs H Q _ => ∃ a v u, vs = [.ref a, v, u] ∧ H a = some (exo a C none) ∧ ∀ dx, H dx = none → dx ≠ a → Q .non (upd (upd H dx (exd dx [(g, u), (f, v)])) a (exo a C (some dx)))
theorem heap_out {H : Hp} {a dx C : Addr} {fs : List (Str × V)} (ha : H a = none) (hd : dx ≠ a) : upd (del (upd (upd (upd H a (exo a C none)) dx (exd dx fs)) a (exo a C (some dx))) a) dx (.xd fs) = upd H dx (.xd fs) := by
  funext b
  by_cases h1 : b = dx
  · rw [h1, upd_same, upd_same]
  · rw [upd_ne h1, upd_ne h1]
    by_cases h2 : b = a
    · rw [h2, del_same, ha]
    · rw [del_ne h2, upd_ne h2, upd_ne h1, upd_ne h2]
theorem mk1 {C : Addr} {f : Str} {H : Hp} {v : V} {Q : XK} (h : ∀ dx, H dx = none → Q (.ref C) (some dx) (upd H dx (.xd [(f, v)]))) :
    [v].length ≤ 1000 ∧ ∀ a, H a = none → spE1 C f (.ref a :: ([v] ++ [])) (upd H a (exo a C none)) (fun v H2 => v = .non ∧ ∃ (d : Addr) (fs : List (Str × V)), H2 a = some (exo a C (some d)) ∧ H2 d = some (exd d fs) ∧ H d = none ∧ Q (.ref C) (some d) (upd (del H2 a) d (.xd fs))) (fun _ _ _ => False) := by
  refine ⟨by show 1 ≤ 1000; decide, fun a ha => ⟨a, v, rfl, upd_same, fun dx hdx hne => ?_⟩⟩
  have h0 : H dx = none := by rw [upd_ne hne] at hdx; exact hdx
  refine ⟨rfl, dx, [(f, v)], upd_same, by rw [upd_ne hne, upd_same], h0, ?_⟩
  rw [heap_out ha hne]
  exact h dx h0
theorem mk2 {C : Addr} {f g : Str} {H : Hp} {v u : V} {Q : XK} (h : ∀ dx, H dx = none → Q (.ref C) (some dx) (upd H dx (.xd [(g, u), (f, v)]))) :
    [v, u].length ≤ 1000 ∧ ∀ a, H a = none → spE2 C f g (.ref a :: ([v, u] ++ [])) (upd H a (exo a C none)) (fun v H2 => v = .non ∧ ∃ (d : Addr) (fs : List (Str × V)), H2 a = some (exo a C (some d)) ∧ H2 d = some (exd d fs) ∧ H d = none ∧ Q (.ref C) (some d) (upd (del H2 a) d (.xd fs))) (fun _ _ _ => False) := by
  refine ⟨by show 2 ≤ 1000; decide, fun a ha => ⟨a, v, u, rfl, upd_same, fun dx hdx hne => ?_⟩⟩
  have h0 : H dx = none := by rw [upd_ne hne] at hdx; exact hdx
  refine ⟨rfl, dx, [(g, u), (f, v)], upd_same, by rw [upd_ne hne, upd_same], h0, ?_⟩
  rw [heap_out ha hne]
  exact h dx h0
end EXB

set_option Elab.async false
set_option linter.all false
set_option maxRecDepth 100000
set_option maxHeartbeats 4000000
namespace BX
open PySem PySem.Spec PyProof.Rows L2
section
variable {X : Cx} {CX : CXT} {k : Nat} {f : Addr} {fd : FuncData} {ps ks : List Str} {sp : Sp} {E : L2.St → XK} {x : Str} {p pos : Pos} {e : Expr} {es : List Expr} {kws : List Keyword} {t tk : TA} {ds : List Value} {dvs : List V}
/-- a call with any arguments, what it raises being wished for at the caller's slots -/
theorem run_any {pins : List (Addr × Obj)} {σ : L2.St} {H : Hp} {s : Shared} {Q : VK} {us bs : List Value} {kw : List (Str × Value)} {vs : List V} (F : FnOkG X.prog X.w X.K X.mg X.base CX k f fd ps sp) (hr : Room k X.A) (hgd : X.A.guards = some []) (hx : PassesAt CX X σ (E σ))
    (I : Inv X pins σ H s) (hb : BindsTo s fd ⟨us, kw⟩ (ps.zip bs)) (r : Vals vs bs) (h : sp vs H Q (E σ)) : wpAny (model X.prog X.w) X.A (call (.ref f) us kw) (EP X pins σ Q) X.xe s := by
  refine wpAny_call (codeAny_mono (F.run X.A X.stack s H ⟨us, kw⟩ bs vs Q (E σ) hr hgd I.env0 hb r h) fun r s' hq => ?_)
  cases r with
  | error e => exact hx pins H s e s' I hq
  | ok fl =>
    cases fl with
    | ret u => exact I.after hq
    | next => exact False.elim hq
    | brk => exact False.elim hq
    | cont => exact False.elim hq
def tCallD (sp : Sp) (dvs : List V) (E : L2.St → XK) (t : TA) : TE := fun σ H Q => t σ H fun vs H1 => sp (vs ++ dvs) H1 Q (E σ)
/-- f(e, ..), the defaults behind them -/
theorem pe_callD (F : FnOkG X.prog X.w X.K X.mg X.base CX k f fd ps sp) (hr : Room k X.A) (hgd : X.A.guards = some []) (hg : Gl X x) (hm : X.mg x = some (.ref f)) (hk : PySem.W.keepIn X.K (.ref f) = true) (hb : Binds X.K fd ps ds) (hd : Vals dvs ds) (hx : ∀ σ, PassesAt CX X σ (E σ))
    (ha : PA X (e :: es) t) (hdb : (x == ("__debug__" : Str)) = false := by decide) (he : starEach (e :: es) X.env = (false, eval e X.env) :: starEach es X.env := by rfl) (hpl : (backTo pos (starEach es X.env)).any (·.1) = false := by rfl) :
    PE X (.Call (.Name x p) (e :: es) [] pos) (tCallD sp dvs E t) := by
  refine ⟨fun pins s σ H Q I h => ?_⟩
  refine wpAny_Call_Name_kw (ld_glob I hg hm ?_ hdb)
  refine PySem.W.callWith_K (h₀ := X.base) I.ok.mod.kin hk (thn (ha.run pos pins s σ H _ I h) fun us s1 ⟨vs, H1, I1, r, q⟩ => ⟨I1.kIn, ?_⟩) he hpl
  have r2 : Vals (vs ++ dvs) (us ++ ds) := r.append hd
  exact run_any F hr hgd (hx σ) I1 (hb s1 us I1.kIn (by rw [← r2.length]; exact F.len _ _ _ _ q)) r2 q
def tCallW (sp : Sp) (E : L2.St → XK) (tk : TA) : TE := fun σ H Q => tk σ H fun zs H1 => sp zs H1 Q (E σ)
/-- f(k = v, ..), all parameters by their names, in their order -/
theorem pe_callW (F : FnOkG X.prog X.w X.K X.mg X.base CX k f fd ps sp) (hr : Room k X.A) (hgd : X.A.guards = some []) (hg : Gl X x) (hm : X.mg x = some (.ref f)) (hk : PySem.W.keepIn X.K (.ref f) = true)
    (hb : ∀ (s : Shared) (ws : List Value), X.K.In s.heap → ws.length = ps.length → BindsTo s fd ⟨[], ps.zip ws⟩ (ps.zip ws)) (hx : ∀ σ, PassesAt CX X σ (E σ))
    (hkw : PK X kws tk) (hall : (backToKw pos (keywordEach kws X.env)).all (·.1.isSome) = true := by rfl) (hks : (backToKw pos (keywordEach kws X.env)).filterMap (·.1) = ps := by rfl)
    (hdb : (x == ("__debug__" : Str)) = false := by decide) (hpl : ((backTo pos (starEach [] X.env)).any (·.1) || (backToKw pos (keywordEach kws X.env)).any (·.1.isNone)) = false := by rfl) :
    PE X (.Call (.Name x p) [] kws pos) (tCallW sp E tk) := by
  refine ⟨fun pins s σ H Q I h => ?_⟩
  refine wpAny_Call_Name_kw (ld_glob I hg hm ?_ hdb)
  refine PySem.W.callWith_KW0 (h₀ := X.base) I.ok.mod.kin hk hall (thn (hkw.run pos pins s σ H _ I h) fun ws s2 ⟨zs, H2, I2, rz, q2⟩ => ⟨I2.kIn, ?_⟩) hpl
  rw [hks]
  exact run_any F hr hgd (hx σ) I2 (hb s2 ws I2.kIn (by rw [← rz.length]; exact F.len _ _ _ _ q2)) rz q2
end
end BX

set_option Elab.async false
set_option linter.all false
set_option maxRecDepth 100000
set_option maxHeartbeats 4000000
namespace BX
open PySem PySem.Spec PyProof.Rows L2
/-- the law's call, of a promise that holds where nothing is being shown -/
theorem law_callG {P : Program} {w : World} {K : PySem.W.Frag} {mg mb : Str → Option Value} {CX : CXT} {k : Nat} {fa a : Addr} {fd : FuncData} {x : Str} {sp : Sp} {s₁ : Shared} {vs : List Value} {ns : List Int}
    (KX : K.In s₁.heap) (hns : s₁.heap.Ns mainGlobals mg) (hb : s₁.heap.Ns builtinsNs mb) (hbb : ∀ x : Str, x ≠ "__name__" → mb x = bootBuiltins x) (hlim : s₁.heap.NoLimit) (hg : s₁.gens = #[])
    (ha : s₁.heap.get? a = some { cls := .type "list", data := .seq vs.toArray }) (hi : IntsAre vs ns) (hl : ns.length ≤ sizeLine) (hr : Room k callerA)
    (F : ∀ base : Heap, K.In base → base.Ns mainGlobals mg → FnOkG P w K mg base CX k fa fd [x] sp) (hbind : ∀ (s : Shared) (u : Value), BindsTo s fd ⟨[u], []⟩ [(x, u)])
    (hsp : ∀ H : Hp, Only H → SqL K H a (ns.map V.int) → sp [.ref a] H (fun v _ => v = .bl true) fun _ _ _ => False)
    (hCX : ∀ H e s', CX [] H s₁ (fun _ _ _ => False) e s' → False) :
    codeAny (model P w) callerA (.call (.ref fa) ⟨[.ref a], []⟩) (fun r s' => r = .ok (.ret (.bool true)) ∧ OldK s₁.heap s'.heap ∧ s'.os = s₁.os ∧ AllBare s'.gens) s₁ := by
  have rv := vals_ints hi
  have lenV := hi.length
  have core : ∀ H : Hp, Only H → SqL K H a (ns.map V.int) → HOk P w H s₁.heap → (∀ b, H b ≠ none → b = a) → (H a ≠ none → K.lookup a = none) →
      codeAny (model P w) callerA (.call (.ref fa) ⟨[.ref a], []⟩) (fun r s' => r = .ok (.ret (.bool true)) ∧ OldK s₁.heap s'.heap ∧ s'.os = s₁.os ∧ AllBare s'.gens) s₁ := by
    intro H hO hS hok hA hK
    have noA : ∀ {b : Addr} {o : Obj} {es : Array DictEntry} {ep : Nat}, s₁.heap.get? b = some o → o.data = .dict es ep → H b = none := fun {b o es ep} e dd => by
      cases q : H b with
      | none => rfl
      | some u =>
        have e' : b = a := hA b (by rw [q]; simp)
        rw [e', ha] at e
        cases e
        cases dd
    have nsK : ∀ {b : Addr} {m : Str → Option Value}, s₁.heap.Ns b m → (hidT s₁.heap H).Ns b m := fun {b m} ⟨o, es, ep, e, dd, r⟩ => ⟨o, es, ep, hidT_get e (noA e dd), dd, r⟩
    have hKb : K.In (hidT s₁.heap H) := fun b o e => hidT_get (KX b o e) (by
      cases q : H b with
      | none => rfl
      | some u =>
        have e' : b = a := hA b (by rw [q]; simp)
        rw [e'] at e q
        rw [hK (by rw [q]; simp)] at e
        cases e)
    have hM : Mod K mg (hidT s₁.heap H) := ⟨hKb, nsK hns, ⟨mb, nsK hb, hbb⟩, let ⟨mc, h1, h2⟩ := hlim; ⟨mc, nsK h1, h2⟩⟩
    have e0 : Env0 P w K mg (hidT s₁.heap H) callerA [] s₁ H := ⟨rfl, hM, fun b o e => of_hidT e, Nat.le_of_eq (hidT_size _ _), trivial, fun b hb => absurd (show b ∈ ([] : List Addr) from hb) (by simp), hok, .of_eq hg⟩
    refine codeAny_mono ((F _ hKb (nsK hns)).run callerA [] s₁ H ⟨[.ref a], []⟩ [.ref a] [.ref a] _ _ hr rfl e0 (hbind s₁ (.ref a)) (.cons rfl .nil) (hsp H hO hS)) fun r s' h => ?_
    cases r with
    | error e => exact (hCX H e s' h).elim
    | ok fl =>
      cases fl with
      | next => exact False.elim h
      | brk => exact False.elim h
      | cont => exact False.elim h
      | ret u =>
        obtain ⟨v, H', os, bare, un, hok', r', q⟩ := h
        have q' : v = .bl true := q
        subst q'
        obtain rfl : u = Value.bool true := r'
        refine ⟨rfl, OldK.of_keep fun b o e => ?_, os, bare⟩
        cases q : H b with
        | none => exact un.keep b o e q (by intro z; exact absurd (show b ∈ ([] : List Addr) from z) (by simp)) (by simp)
        | some u =>
          rcases hO b with z | ⟨ob, xs, z⟩
          · rw [q] at z; cases z
          · obtain ⟨e1, _⟩ := hok b _ z
            obtain ⟨e2, _⟩ := hok' b _ (un.frzs b ob _ z)
            rw [e] at e1; cases e1
            exact e2
  cases hk : K.lookup a with
  | some o =>
    have e := KX a o hk
    rw [ha] at e
    cases e
    refine core (fun _ => none) (fun _ => .inl rfl) (.inr ⟨_, vs.toArray, _, hk, rfl, rfl, rfl, by rw [List.size_toArray, lenV]; exact hl, by simpa using rv⟩) (fun b u z => by have z' : (none : Option HO) = some u := z; cases z') (fun b z => absurd rfl z) fun z => absurd rfl z
  | none =>
    refine core (fun b => if b = a then some (.frz { cls := .type "list", data := .seq vs.toArray } (.lst (ns.map V.int))) else none) (fun b => ?_) (.inl (.inr ⟨{ cls := .type "list", data := .seq vs.toArray }, if_pos rfl⟩)) (fun b u z => ?_) (fun b z => ?_) fun _ => hk
    · by_cases hb : b = a
      · exact .inr ⟨_, _, if_pos hb⟩
      · exact .inl (if_neg hb)
    · by_cases hb : b = a
      · have z' := (if_pos hb).symm.trans z
        cases z'
        subst hb
        exact ⟨ha, by rw [List.length_map]; exact hl, vs, _, rv, ha⟩
      · have z' := (if_neg hb).symm.trans z
        cases z'
    · by_cases hb : b = a
      · exact hb
      · exact absurd (if_neg hb) z
theorem walk_ofG {l : PySem.W.OpenLaw} {n k : Nat} {q : Program} {loose : List Str} {XP : (Str → Option Value) → Heap → Prop} {YP : World → Heap → Prop} {d : DefRec} {K : Params → PySem.W.Frag} {CX : World → CXT} {sp : World → Sp} {x : Str}
    (hn : l.most = some n) (hn2 : n ≤ sizeLine) (hdf : d.params.defaults = []) (hr : Room k callerA) (hY : ∀ (w : World) (h : Heap), YP w h → (K w.params).In h)
    (F : ∀ (w : World) (mg : Str → Option Value) (fa : Addr) (h : Heap), (K w.params).In h → h.Ns mainGlobals mg → mg d.name = some (.ref fa) →
      ∃ fd : FuncData, (∀ (s : Shared) (u : Value), BindsTo s fd ⟨[u], []⟩ [(x, u)]) ∧
        ∀ base : Heap, (K w.params).In base → base.Ns mainGlobals mg → FnOkG l.prog w (K w.params) mg base (CX w) k fa fd [x] (sp w))
    (hsp : ∀ (w : World) (H : Hp) (a : Addr) (ns : List Int), ns.length ≤ n → Only H → SqL (K w.params) H a (ns.map V.int) → sp w [.ref a] H (fun v _ => v = .bl true) fun _ _ _ => False)
    (hCX : ∀ (w : World) (H : Hp) (s : Shared) (e : Value) (s' : Shared), CX w [] H s (fun _ _ _ => False) e s' → False) :
    PySem.W.WalkO q loose XP YP l.row.toRowW d [] (fun f vs => PySem.call f vs) := by
  refine Att.attach_call hn hdf fun w s₀ s₁ mg mb fa o pm cd doc a vs ns G Y ho hd hcd hmg hobj hints hlen hg => ?_
  have KX := hY w _ Y
  obtain ⟨fd, hb, hF⟩ := F w mg fa _ KX G.T.g hmg
  exact law_callG KX G.T.g G.T.b G.T.builtins G.T.nolimit hg hobj hints (Nat.le_trans hlen hn2) hr hF hb (fun H hO hS => hsp w H a ns hlen hO hS) fun H e s' => hCX w H s₁ e s'
end BX

set_option Elab.async false
set_option linter.all false
set_option maxRecDepth 100000
set_option maxHeartbeats 4000000
namespace BX
open PySem PySem.Spec PyProof.Rows L2
def tMakeD (C : Addr) (sp : Sp) (dvs : List V) (E : L2.St → XK) (t : TA) : TE := fun σ H Q => t σ H fun vs H1 => ∀ x dx, H1 x = none → H1 dx = none → dx ≠ x → sp (.ref x :: (vs ++ dvs)) (upd (upd H1 dx (.own x)) x (.ins C dx [])) (fun v H2 => v = .non ∧ Q (.ref x) H2) (E σ)
section
variable {X : Cx} {CX : CXT} {k : Nat} {f C : Addr} {fd : FuncData} {ps : List Str} {sp : Sp} {E : L2.St → XK} {x : Str} {p pos : Pos} {e : Expr} {es : List Expr} {t : TA} {ds : List Value} {dvs : List V}
/-- C(e, ..), what its __init__ raises being wished for at the caller's slots -/
theorem pe_makeD (M : Mk X.K C f) (F : FnOk X.prog X.w X.K X.mg X.base CX k f fd ps sp) (hr : Room (k + 1) X.A) (hg : Gl X x) (hm : X.mg x = some (.ref C)) (hb : Binds X.K fd ps ds) (hd : Vals dvs ds) (hx : ∀ σ, PassesAt CX X σ (E σ))
    (ha : PA X (e :: es) t) (hdb : (x == ("__debug__" : Str)) = false := by decide) (he : starEach (e :: es) X.env = (false, eval e X.env) :: starEach es X.env := by rfl) (hpl : (backTo pos (starEach es X.env)).any (·.1) = false := by rfl) :
    PE X (.Call (.Name x p) (e :: es) [] pos) (tMakeD C sp dvs E t) := by
  refine ⟨fun pins s σ H Q I h => ?_⟩
  refine wpAny_Call_Name_kw (ld_glob I hg hm ?_ hdb)
  refine PySem.W.callWith_K (h₀ := X.base) I.ok.mod.kin M.kp (thn (ha.run pos pins s σ H _ I h) fun us s1 ⟨vs, H1, I1, r, q⟩ => ⟨I1.kIn, ?_⟩) he hpl
  have hq := q (s1.heap.objs.size + 1) s1.heap.objs.size (I1.hok.fresh (Nat.le_succ _)) (I1.hok.fresh (Nat.le_refl _)) (Nat.ne_of_lt (Nat.lt_succ_self _))
  have I2 := Inv.made (C := C) I1
  have r2 : Vals (V.ref (s1.heap.objs.size + 1) :: (vs ++ dvs)) (Value.ref (s1.heap.objs.size + 1) :: (us ++ ds)) := .cons rfl (r.append hd)
  have hl : (Value.ref (s1.heap.objs.size + 1) :: us ++ ds).length = ps.length := by
    have z := r2.length
    rw [F.len _ _ _ _ hq] at z
    exact z.symm
  refine wpAny_call (make_map (f := f) I1.kIn M.makes M.init (beq_iff_eq.mp M.fn) (codeAny_mono (F.run _ X.stack _ _ ⟨Value.ref (s1.heap.objs.size + 1) :: us, []⟩ (Value.ref (s1.heap.objs.size + 1) :: (us ++ ds)) _ _ (E σ) (hr.make C us [])
    (I2.env0.make C us []) (hb _ (Value.ref (s1.heap.objs.size + 1) :: us) I2.kIn hl) r2 hq) fun r s' hq' => ?_))
  cases r with
  | error er => exact hx σ pins _ _ er s' I2 hq'
  | ok fl =>
    cases fl with
    | ret u =>
      obtain ⟨v, H', I3, rv, ev, q3⟩ := I2.after hq'
      subst ev
      exact ⟨rv, ⟨V.ref (s1.heap.objs.size + 1), H', I3, rfl, q3⟩⟩
    | next => exact False.elim hq'
    | brk => exact False.elim hq'
    | cont => exact False.elim hq'
end
end BX

set_option Elab.async false
set_option linter.all false
set_option maxRecDepth 100000
set_option maxHeartbeats 4000000
namespace Ru
open PySem PySem.Spec PyProof.Rows L2 BX EXB Co
open Fr (Bd)
/-! ### rows of fractions -/
/-- cells and what they are worth, below 2 ^ n -/
structure FrN (K : PySem.W.Frag) (H : Hp) (n : Nat) (cs : List V) (qs : List Rat) : Prop where
  len : cs.length = qs.length
  at_ : ∀ (i : Nat) (v : V), cs[i]? = some v → ∃ (a : Addr) (q : Rat), qs[i]? = some q ∧ v = .ref a ∧ SqT K H a (rp q) ∧ Bd n q
section
variable {K : PySem.W.Frag} {H H' : Hp} {n : Nat} {cs : List V} {qs : List Rat}
theorem FrN.keep (h : FrN K H n cs qs) (k : ∀ a xs, SqT K H a xs → SqT K H' a xs) : FrN K H' n cs qs :=
  ⟨h.len, fun i v e => let ⟨a, q, e1, e2, e3, e4⟩ := h.at_ i v e; ⟨a, q, e1, e2, k _ _ e3, e4⟩⟩
theorem FrN.same (h : FrN K H n cs qs) (e : Same H H') : FrN K H' n cs qs := h.keep fun _ _ => seqT e
theorem FrN.mono {m : Nat} (h : FrN K H n cs qs) (l : n ≤ m) : FrN K H m cs qs :=
  ⟨h.len, fun i v e => let ⟨a, q, e1, e2, e3, e4⟩ := h.at_ i v e; ⟨a, q, e1, e2, e3, e4.mono l⟩⟩
theorem FrN.nil : FrN K H n [] [] := ⟨rfl, fun i v e => by simp at e⟩
theorem FrN.snoc {a : Addr} {q : Rat} (h : FrN K H n cs qs) (ha : SqT K H a (rp q)) (hb : Bd n q) : FrN K H n (cs ++ [.ref a]) (qs ++ [q]) := by
  refine ⟨by rw [List.length_append, List.length_append, h.len]; rfl, fun i v e => ?_⟩
  by_cases hi : i < cs.length
  · rw [List.getElem?_append_left hi] at e
    obtain ⟨a', q', e1, e2, e3, e4⟩ := h.at_ i v e
    exact ⟨a', q', by rw [List.getElem?_append_left (by rw [← h.len]; exact hi)]; exact e1, e2, e3, e4⟩
  · rw [List.getElem?_append_right (by omega)] at e
    have e0 : i - cs.length = 0 := by
      cases z : i - cs.length with
      | zero => rfl
      | succ j => rw [z] at e; simp at e
    rw [e0] at e
    have ev : (V.ref a) = v := Option.some.inj e
    refine ⟨a, q, ?_, ev.symm, ha, hb⟩
    rw [List.getElem?_append_right (by rw [← h.len]; omega), ← h.len, e0]
    rfl
theorem FrN.set {a : Addr} {q : Rat} {j : Nat} (h : FrN K H n cs qs) (ha : SqT K H a (rp q)) (hb : Bd n q) : FrN K H n (cs.set j (.ref a)) (qs.set j q) := by
  refine ⟨by rw [List.length_set, List.length_set, h.len], fun i v e => ?_⟩
  by_cases hij : j = i
  · subst hij
    have hj : j < cs.length := by
      have := (List.getElem?_eq_some_iff.mp e).1
      rw [List.length_set] at this
      exact this
    rw [List.getElem?_set_self hj] at e
    exact ⟨a, q, List.getElem?_set_self (by rw [← h.len]; exact hj), (Option.some.inj e).symm, ha, hb⟩
  · rw [List.getElem?_set_ne hij] at e
    obtain ⟨a', q', e1, e2, e3, e4⟩ := h.at_ i v e
    exact ⟨a', q', by rw [List.getElem?_set_ne hij]; exact e1, e2, e3, e4⟩
theorem FrN.dp : ∀ {cs : List V} {qs : List Rat}, FrN K H n cs qs → DpAll K H cs (qs.map dR)
  | [], [], _ => .nil
  | [], _ :: _, h => by have := h.len; simp at this
  | _ :: _, [], h => by have := h.len; simp at this
  | v :: cs, q :: qs, h => by
    obtain ⟨a, q', e1, rfl, e3, _⟩ := h.at_ 0 v rfl
    have e : q = q' := Option.some.inj e1
    subst e
    exact .cons (dp_r e3) (FrN.dp ⟨by have := h.len; simpa using this, fun i v e => h.at_ (i + 1) v e⟩)
end
/-- all but ex stays -/
def SameB (ex : Addr) (H H' : Hp) : Prop := ∀ b o, b ≠ ex → H b = some o → H' b = some o
theorem SameB.of {ex : Addr} {H H' : Hp} (h : Same H H') : SameB ex H H' := fun b o _ e => h b o e
theorem SameB.trans {ex : Addr} {H H1 H2 : Hp} (a : SameB ex H H1) (b : SameB ex H1 H2) : SameB ex H H2 := fun c o hc h => b c o hc (a c o hc h)
theorem SameB.upd {ex : Addr} {H : Hp} {o : HO} : SameB ex H (upd H ex o) := fun b u hb e => by rw [upd_ne hb]; exact e
theorem SameB.tup {K : PySem.W.Frag} {ex : Addr} {H H' : Hp} {ys : List V} (h : SameB ex H H') (hx : H ex = some (.lst ys)) : ∀ a xs, SqT K H a xs → SqT K H' a xs := fun a xs z => by
  rcases z with (z | ⟨o, z⟩) | z
  · exact .inl (.inl (h _ _ (ne_of z hx (by intro w; cases w)) z))
  · exact .inl (.inr ⟨o, h _ _ (ne_of z hx (by intro w; cases w)) z⟩)
  · exact .inr z
/-- what stands in the rows rs is worth rss -/
def RowsAt (K : PySem.W.Frag) (H : Hp) (n : Nat) (rs : List Addr) (rss : List (List Rat)) : Prop := rs.length = rss.length ∧ ∀ (j : Nat) (r : Addr), rs[j]? = some r → ∃ cs qs, rss[j]? = some qs ∧ H r = some (.lst cs) ∧ FrN K H n cs qs
theorem RowsAt.keep {K : PySem.W.Frag} {H H' : Hp} {n : Nat} {rs : List Addr} {rss : List (List Rat)} {ex : Addr} {ys : List V} (h : RowsAt K H n rs rss) (s : SameB ex H H') (hx : H ex = some (.lst ys)) (hn : ex ∉ rs) : RowsAt K H' n rs rss := by
  refine ⟨h.1, fun j r e => ?_⟩
  obtain ⟨cs, qs, e1, e2, e3⟩ := h.2 j r e
  exact ⟨cs, qs, e1, s r _ (fun z => hn (by rw [← z]; exact List.mem_of_getElem? e)) e2, e3.keep (s.tup hx)⟩
theorem RowsAt.same {K : PySem.W.Frag} {H H' : Hp} {n : Nat} {rs : List Addr} {rss : List (List Rat)} (h : RowsAt K H n rs rss) (s : Same H H') : RowsAt K H' n rs rss := by
  refine ⟨h.1, fun j r e => ?_⟩
  obtain ⟨cs, qs, e1, e2, e3⟩ := h.2 j r e
  exact ⟨cs, qs, e1, s r _ e2, e3.same s⟩
theorem RowsAt.nil {K : PySem.W.Frag} {H : Hp} {n : Nat} : RowsAt K H n [] [] := ⟨rfl, fun j r e => by simp at e⟩
theorem RowsAt.snoc {K : PySem.W.Frag} {H : Hp} {n : Nat} {rs : List Addr} {rss : List (List Rat)} {r : Addr} {cs : List V} {qs : List Rat} (h : RowsAt K H n rs rss) (hr : H r = some (.lst cs)) (hf : FrN K H n cs qs) : RowsAt K H n (rs ++ [r]) (rss ++ [qs]) := by
  refine ⟨by rw [List.length_append, List.length_append, h.1]; rfl, fun j x e => ?_⟩
  by_cases hj : j < rs.length
  · rw [List.getElem?_append_left hj] at e
    obtain ⟨cs', qs', e1, e2, e3⟩ := h.2 j x e
    exact ⟨cs', qs', by rw [List.getElem?_append_left (by rw [← h.1]; exact hj)]; exact e1, e2, e3⟩
  · rw [List.getElem?_append_right (by omega)] at e
    have e0 : j - rs.length = 0 := by
      cases z : j - rs.length with
      | zero => rfl
      | succ i => rw [z] at e; simp at e
    rw [e0] at e
    have ev : r = x := Option.some.inj e
    subst ev
    refine ⟨cs, qs, ?_, hr, hf⟩
    rw [List.getElem?_append_right (by rw [← h.1]; omega), ← h.1, e0]
    rfl
theorem RowsAt.dp {K : PySem.W.Frag} {H : Hp} {n : Nat} : ∀ {rs : List Addr} {rss : List (List Rat)}, RowsAt K H n rs rss → DpAll K H (rs.map V.ref) (rss.map fun qs => PyData.list (qs.map dR))
  | [], [], _ => .nil
  | [], _ :: _, h => by have := h.1; simp at this
  | _ :: _, [], h => by have := h.1; simp at this
  | r :: rs, q :: rss, h => by
    obtain ⟨cs, qs, e1, e2, e3⟩ := h.2 0 r rfl
    have e : q = qs := Option.some.inj e1
    subst e
    exact .cons (.lst (SqL.of e2) e3.dp) (RowsAt.dp ⟨by have := h.1; simpa using this, fun j x e => h.2 (j + 1) x e⟩)
/-- rows as data -/
def dRows (rss : List (List Rat)) : PyData := .list (rss.map fun qs => PyData.list (qs.map dR))
theorem rows_lays : ∀ rss : List (List Rat), PyData.canLayAll0 (rss.map fun qs => PyData.list (qs.map dR)) = true
  | [] => rfl
  | q :: rss => by
    show (PyData.canLayAll0 (q.map dR) && PyData.canLayAll0 (rss.map fun qs => PyData.list (qs.map dR))) = true
    rw [rows_lays rss, lays q]
    rfl
theorem rows_deps : ∀ rss : List (List Rat), PyData.depthAll (rss.map fun qs => PyData.list (qs.map dR)) ≤ 2
  | [] => by decide
  | q :: rss => by
    have h1 := rows_deps rss
    have h2 := deps q
    show max (PyData.depthAll (q.map dR) + 1) (PyData.depthAll (rss.map fun qs => PyData.list (qs.map dR))) ≤ 2
    omega
theorem dRows_lay (rss : List (List Rat)) : (dRows rss).canLay0 = true := rows_lays rss
theorem dRows_shaped (rss : List (List Rat)) : SeqAt.shaped (dRows rss) = true := by
  unfold SeqAt.shaped
  rw [dRows_lay, Bool.true_and]
  refine decide_eq_true ?_
  have := rows_deps rss
  show PyData.depthAll (rss.map fun qs => PyData.list (qs.map dR)) + 1 ≤ 64
  omega
/-- a new list of new rows, beside what stood in H0 (but ex) -/
structure New (K : PySem.W.Frag) (H0 H : Hp) (ex D : Addr) (rs : List Addr) (rss : List (List Rat)) (n : Nat) : Prop where
  at_ : H D = some (.lst (rs.map V.ref))
  nd : rs.Nodup
  ne : D ∉ rs
  fresh : ∀ x ∈ rs, H0 x = none
  fD : H0 D = none
  nx : ex ∉ rs
  keep : SameB ex H0 H
  rows : RowsAt K H n rs rss
theorem New.start {K : PySem.W.Frag} {H : Hp} {ex D : Addr} {n : Nat} (hD : H D = none) : New K H (upd H D (.lst [])) ex D [] [] n :=
  ⟨upd_same, List.nodup_nil, by simp, fun x hx => by simp at hx, hD, by simp, SameB.of (same_new hD _), RowsAt.nil⟩
/-- a step beside the list: what is new is laid, ex may change -/
theorem New.step {K : PySem.W.Frag} {H0 H H1 : Hp} {ex D : Addr} {rs : List Addr} {rss : List (List Rat)} {n : Nat} {ys : List V} (h : New K H0 H ex D rs rss n) (s : SameB ex H H1) (hx : H ex = some (.lst ys)) (hDx : D ≠ ex) : New K H0 H1 ex D rs rss n :=
  ⟨s D _ hDx h.at_, h.nd, h.ne, h.fresh, h.fD, h.nx, h.keep.trans s, h.rows.keep s hx h.nx⟩
theorem New.stepS {K : PySem.W.Frag} {H0 H H1 : Hp} {ex D : Addr} {rs : List Addr} {rss : List (List Rat)} {n : Nat} (h : New K H0 H ex D rs rss n) (s : Same H H1) : New K H0 H1 ex D rs rss n :=
  ⟨s D _ h.at_, h.nd, h.ne, h.fresh, h.fD, h.nx, h.keep.trans (SameB.of s), h.rows.same s⟩
/-- one row more -/
theorem New.push {K : PySem.W.Frag} {H0 H H1 : Hp} {ex D l : Addr} {rs : List Addr} {rss : List (List Rat)} {n : Nat} {cs : List V} {qs : List Rat} (h0 : New K H0 H ex D rs rss n) (h : New K H0 H1 ex D rs rss n) (hl0 : H l = none) (hl : H1 l = some (.lst cs)) (hf : FrN K H1 n cs qs) (hle : l ≠ ex) :
    New K H0 (upd H1 D (.lst (rs.map V.ref ++ [V.ref l]))) ex D (rs ++ [l]) (rss ++ [qs]) n := by
  have hlD : l ≠ D := fun e => by
    rw [e, h0.at_] at hl0
    cases hl0
  have hlr : l ∉ rs := fun hm => by
    obtain ⟨j, hj, e⟩ := List.getElem_of_mem hm
    obtain ⟨cs', qs', _, e2, _⟩ := h0.rows.2 j l (by rw [List.getElem?_eq_getElem hj, e])
    rw [hl0] at e2
    cases e2
  have hl00 : H0 l = none := by
    cases e : H0 l with
    | none => rfl
    | some o =>
      rw [h0.keep l o hle e] at hl0
      cases hl0
  have sD : SameB D H1 (upd H1 D (.lst (rs.map V.ref ++ [V.ref l]))) := SameB.upd
  refine ⟨by rw [upd_same, List.map_append]; rfl, ?_, ?_, ?_, h.fD, ?_, ?_, ?_⟩
  · rw [List.nodup_append]
    refine ⟨h.nd, by simp, fun a ha b hb => ?_⟩
    have : b = l := by simpa using hb
    rw [this]
    exact fun e => hlr (by rw [← e]; exact ha)
  · intro hm
    rcases List.mem_append.mp hm with hm | hm
    · exact h.ne hm
    · have : D = l := by simpa using hm
      exact hlD this.symm
  · intro x hx
    rcases List.mem_append.mp hx with hx | hx
    · exact h.fresh x hx
    · have : x = l := by simpa using hx
      rw [this]
      exact hl00
  · intro hm
    rcases List.mem_append.mp hm with hm | hm
    · exact h.nx hm
    · have : ex = l := by simpa using hm
      exact hle this.symm
  · intro b o hb e
    rw [upd_ne (ne_of_none e h.fD)]
    exact h.keep b o hb e
  · exact (h.rows.keep sD h.at_ h.ne).snoc (by rw [upd_ne hlD]; exact hl) (hf.keep (sD.tup h.at_))
/-- list(x), by values -/
def rListOf (K : PySem.W.Frag) : List V → Hp → VK → Prop := fun xs H Q => ∃ p ys, xs = [V.ref p] ∧ (SqL K H p ys ∨ SqT K H p ys) ∧ ∀ l : Addr, H l = none → Q (V.ref l) (upd H l (.lst ys))
/-! ### rules -/
def RowOk (m : Nat) (qs : List Rat) : Prop := qs.length = m ∧ (∀ q ∈ qs, 0 ≤ q) ∧ qs.sum = 1
structure Good (rss : List (List Rat)) (m : Nat) : Prop where
  w1 : 1 ≤ rss.length
  w5 : rss.length ≤ 5
  m1 : 1 ≤ m
  m30 : m ≤ 30
  row : ∀ qs ∈ rss, RowOk m qs
/-- a list of rows that stands -/
def RwL (K : PySem.W.Frag) (H : Hp) (a : Addr) (rs : List Addr) (rss : List (List Rat)) (n : Nat) : Prop := H a = some (.lst (rs.map V.ref)) ∧ RowsAt K H n rs rss
theorem RwL.same {K : PySem.W.Frag} {H H' : Hp} {a : Addr} {rs : List Addr} {rss : List (List Rat)} {n : Nat} (h : RwL K H a rs rss n) (s : Same H H') : RwL K H' a rs rss n := ⟨s _ _ h.1, h.2.same s⟩
theorem RwL.dp {K : PySem.W.Frag} {H : Hp} {a : Addr} {rs : List Addr} {rss : List (List Rat)} {n : Nat} (h : RwL K H a rs rss n) : Dp K H (.ref a) (dRows rss) := .lst (SqL.of h.1) h.2.dp
theorem New.rwl {K : PySem.W.Frag} {H0 H : Hp} {ex D : Addr} {rs : List Addr} {rss : List (List Rat)} {n : Nat} (h : New K H0 H ex D rs rss n) : RwL K H D rs rss n := ⟨h.at_, h.rows⟩
/-- a new list of new rows -/
def Fresh (K : PySem.W.Frag) (H H' : Hp) (D : Addr) (rs : List Addr) (rss : List (List Rat)) (n : Nat) : Prop := RwL K H' D rs rss n ∧ rs.Nodup ∧ D ∉ rs ∧ H D = none ∧ (∀ x ∈ rs, H x = none) ∧ Same H H'
/-- an instance of the class at C, of these rows -/
def IsRule (K : PySem.W.Frag) (H : Hp) (C x : Addr) (rss : List (List Rat)) (n : Nat) : Prop := ∃ dx ra rs, H x = some (.ins C dx [("own_rows", .ref ra)]) ∧ RwL K H ra rs rss n
theorem IsRule.same {K : PySem.W.Frag} {H H' : Hp} {C x : Addr} {rss : List (List Rat)} {n : Nat} (h : IsRule K H C x rss n) (s : Same H H') : IsRule K H' C x rss n :=
  let ⟨dx, ra, rs, e1, e2⟩ := h; ⟨dx, ra, rs, s _ _ e1, e2.same s⟩
theorem New.toFresh {K : PySem.W.Frag} {H0 H : Hp} {D : Addr} {rs : List Addr} {rss : List (List Rat)} {n : Nat} (h : New K H0 H D D rs rss n) : Fresh K H0 H D rs rss n :=
  ⟨h.rwl, h.nd, h.ne, h.fD, h.fresh, fun b o e => h.keep b o (ne_of_none e h.fD) e⟩
/-! ### the mathematics of rules -/
theorem sum_nonneg' : ∀ {qs : List Rat}, (∀ q ∈ qs, 0 ≤ q) → 0 ≤ qs.sum
  | [], _ => by rw [List.sum_nil]; exact Rat.le_refl
  | q :: qs, h => by
    rw [List.sum_cons]
    exact Rat.add_nonneg (h q (List.mem_cons_self ..)) (sum_nonneg' fun x hx => h x (List.mem_cons_of_mem _ hx))
/-- shares of two rows side by side -/
def rowB (row second : List Rat) : List Rat := row.flatMap fun s => second.map fun o => s * o
theorem sum_map_mul (s : Rat) : ∀ l : List Rat, (l.map fun o => s * o).sum = s * l.sum
  | [] => by rw [List.map_nil, List.sum_nil, Rat.mul_zero]
  | x :: l => by rw [List.map_cons, List.sum_cons, List.sum_cons, sum_map_mul s l, Rat.mul_add]
theorem rowB_sum : ∀ (row second : List Rat), (rowB row second).sum = row.sum * second.sum
  | [], second => by show ([] : List Rat).sum = _; rw [List.sum_nil, Rat.zero_mul]
  | s :: row, second => by
    show ((second.map fun o => s * o) ++ rowB row second).sum = _
    rw [List.sum_append, sum_map_mul, rowB_sum row second, List.sum_cons, Rat.add_mul]
theorem rowB_len : ∀ (row second : List Rat), (rowB row second).length = row.length * second.length
  | [], second => by show 0 = _; rw [List.length_nil, Nat.zero_mul]
  | s :: row, second => by
    show ((second.map fun o => s * o) ++ rowB row second).length = _
    rw [List.length_append, List.length_map, rowB_len row second, List.length_cons, Nat.succ_mul, Nat.add_comm]
theorem rowB_ok {m k : Nat} {row second : List Rat} (h1 : RowOk m row) (h2 : RowOk k second) : RowOk (m * k) (rowB row second) := by
  refine ⟨by rw [rowB_len, h1.1, h2.1], fun q hq => ?_, by rw [rowB_sum, h1.2.2, h2.2.2, Rat.mul_one]⟩
  obtain ⟨s, hs, hq⟩ := List.mem_flatMap.mp hq
  obtain ⟨o, ho, rfl⟩ := List.mem_map.mp hq
  exact Rat.mul_nonneg (h1.2.1 s hs) (h2.2.1 o ho)
/-- words of one group are one -/
def grp : List Rat → List Nat → List Rat → List Rat
  | s :: row, g :: gs, told => grp row gs (told.set g (told.getD g 0 + s))
  | _, _, told => told
theorem grp_len : ∀ (row : List Rat) (gs : List Nat) (told : List Rat), (grp row gs told).length = told.length
  | [], _, _ => by rw [grp] <;> simp
  | _ :: _, [], _ => by rw [grp] <;> simp
  | s :: row, g :: gs, told => by rw [grp, grp_len row gs, List.length_set]
theorem set_sum : ∀ (l : List Rat) (g : Nat) (s : Rat), g < l.length → (l.set g (l.getD g 0 + s)).sum = l.sum + s
  | [], g, s, h => by simp at h
  | x :: l, 0, s, h => by
    show ((x + s) :: l).sum = _
    rw [List.sum_cons, List.sum_cons, Rat.add_assoc, Rat.add_assoc, Rat.add_comm s]
  | x :: l, g + 1, s, h => by
    show (x :: l.set g (l.getD g 0 + s)).sum = _
    rw [List.sum_cons, List.sum_cons, set_sum l g s (by simpa using h), Rat.add_assoc]
theorem grp_sum : ∀ (row : List Rat) (gs : List Nat) (told : List Rat), row.length = gs.length → (∀ g ∈ gs, g < told.length) → (grp row gs told).sum = told.sum + row.sum
  | [], [], told, _, _ => by show told.sum = _; rw [List.sum_nil, Rat.add_zero]
  | [], _ :: _, _, h, _ => by simp at h
  | _ :: _, [], _, h, _ => by simp at h
  | s :: row, g :: gs, told, h, hg => by
    rw [grp, grp_sum row gs _ (by simpa using h) (fun x hx => by rw [List.length_set]; exact hg x (List.mem_cons_of_mem _ hx)), set_sum told g s (hg g (List.mem_cons_self ..)), List.sum_cons, Rat.add_assoc]
theorem grp_nonneg : ∀ (row : List Rat) (gs : List Nat) (told : List Rat), (∀ q ∈ row, 0 ≤ q) → (∀ q ∈ told, 0 ≤ q) → ∀ q ∈ grp row gs told, 0 ≤ q
  | [], _, _, _, ht => by rw [grp]; exact ht; simp
  | _ :: _, [], _, _, ht => by rw [grp]; exact ht; simp
  | s :: row, g :: gs, told, hr, ht => by
    rw [grp]
    refine grp_nonneg row gs _ (fun q hq => hr q (List.mem_cons_of_mem _ hq)) fun q hq => ?_
    have hx : 0 ≤ told.getD g 0 := by
      by_cases h : g < told.length
      · rw [List.getD_eq_getElem?_getD, List.getElem?_eq_getElem h]
        exact ht _ (List.getElem_mem h)
      · rw [List.getD_eq_getElem?_getD, List.getElem?_eq_none (by omega)]
        exact Rat.le_refl
    rcases List.mem_or_eq_of_mem_set hq with hq | rfl
    · exact ht q hq
    · exact Rat.add_nonneg hx (hr s (List.mem_cons_self ..))
theorem grp_ok {m many : Nat} {row : List Rat} {gs : List Nat} (h : RowOk m row) (hl : gs.length = m) (hg : ∀ g ∈ gs, g < many) : RowOk many (grp row gs (List.replicate many 0)) := by
  have z : ∀ k : Nat, (List.replicate k (0 : Rat)).sum = 0 := fun k => by
    induction k with
    | zero => rfl
    | succ k ih => rw [List.replicate_succ, List.sum_cons, ih, Rat.add_zero]
  refine ⟨by rw [grp_len, List.length_replicate], grp_nonneg row gs _ h.2.1 fun q hq => ?_, ?_⟩
  · rw [List.eq_of_mem_replicate hq]
    exact Rat.le_refl
  · rw [grp_sum row gs _ (by rw [h.1, hl]) (fun g hgm => by rw [List.length_replicate]; exact hg g hgm), z, Rat.zero_add]
    exact h.2.2
/-- the row of the world i among w -/
def unit (w i : Nat) : List Rat := (List.range w).map fun j => if j = i then 1 else 0
theorem unit_sum : ∀ (w i : Nat), (unit w i).sum = if i < w then 1 else 0
  | 0, i => rfl
  | w + 1, i => by
    unfold unit
    rw [List.range_succ, List.map_append, List.sum_append]
    have ih := unit_sum w i
    unfold unit at ih
    rw [ih]
    show _ + ([if w = i then (1 : Rat) else 0]).sum = _
    rw [List.sum_cons, List.sum_nil, Rat.add_zero]
    by_cases h1 : i < w
    · rw [if_pos h1, if_neg (by omega), if_pos (by omega), Rat.add_zero]
    · by_cases h2 : w = i
      · rw [if_neg h1, if_pos h2, if_pos (by omega), Rat.zero_add]
      · rw [if_neg h1, if_neg h2, if_neg (by omega), Rat.zero_add]
theorem unit_ok {w i : Nat} (h : i < w) : RowOk w (unit w i) := by
  refine ⟨by unfold unit; rw [List.length_map, List.length_range], fun q hq => ?_, by rw [unit_sum, if_pos h]⟩
  obtain ⟨j, _, rfl⟩ := List.mem_map.mp hq
  split
  · decide
  · exact Rat.le_refl
end Ru

set_option Elab.async false
set_option linter.all false
set_option maxRecDepth 100000
set_option maxHeartbeats 4000000
namespace Rs
open PySem PySem.Spec PyProof.Rows L2 BX EXB Co Ru
open Fr (Bd)
theorem upd_swap {H : Hp} {a dx : Addr} {A B A' : HO} (h : dx ≠ a) : upd (upd (upd H dx A) a B) dx A' = upd (upd H dx A') a B := by
  funext b
  by_cases h1 : b = dx
  · rw [h1, upd_same, upd_ne h, upd_same]
  · rw [upd_ne h1]
    by_cases h2 : b = a
    · rw [h2, upd_same, upd_same]
    · rw [upd_ne h2, upd_ne h2, upd_ne h1, upd_ne h1]
abbrev Rsp := Option (List V)
def Rv (H : Hp) (v : V) : Rsp → Prop
  | none => v = .non
  | some ws => ∃ p, v = .ref p ∧ H p = some (.lst ws)
def Ret (Q : VK) (H : Hp) (r : Rsp) : Prop := ∀ v H', Same H H' → Rv H' v r → Q v H'
theorem Rv.same {H H' : Hp} {v : V} {r : Rsp} (h : Rv H v r) (s : Same H H') : Rv H' v r := by
  cases r with
  | none => exact h
  | some ws => obtain ⟨p, e1, e2⟩ := h; exact ⟨p, e1, s _ _ e2⟩
theorem tYes_of {σ : L2.St} {H : Hp} {A B : Hp → Prop} (h : A H) : tYes σ H (fun b H3 => if b = true then A H3 else B H3) := by
  show (if true = true then A H else B H)
  rw [if_pos rfl]
  exact h
def dV : V → PyData
  | .str s => .str s
  | .int i => .int i
  | .bl b => .bool b
  | _ => .none
def datR : Rsp → PyData
  | none => .none
  | some ws => .list (ws.map dV)
def Flat (v : V) : Prop := ((∃ s, v = .str s) ∨ (∃ i, v = .int i) ∨ (∃ b, v = .bl b) ∨ v = .non) ∧ (dV v).canLay0 = true
def Okr : Rsp → Prop
  | none => True
  | some ws => ∀ v ∈ ws, Flat v
theorem flat_dp {K : PySem.W.Frag} {H : Hp} {v : V} (h : Flat v) : Dp K H v (dV v) := by
  rcases h.1 with ⟨s, rfl⟩ | ⟨i, rfl⟩ | ⟨b, rfl⟩ | rfl
  · exact .str _
  · exact .int _
  · exact .bl _
  · exact .non
theorem flats_dp {K : PySem.W.Frag} {H : Hp} : ∀ ws : List V, (∀ v ∈ ws, Flat v) → DpAll K H ws (ws.map dV)
  | [], _ => .nil
  | v :: ws, h => .cons (flat_dp (h v (List.mem_cons_self ..))) (flats_dp ws fun x hx => h x (List.mem_cons_of_mem _ hx))
theorem flats_lay : ∀ ws : List V, (∀ v ∈ ws, Flat v) → PyData.canLayAll0 (ws.map dV) = true
  | [], _ => rfl
  | v :: ws, h => by
    show (PyData.canLay0 (dV v) && PyData.canLayAll0 (ws.map dV)) = true
    rw [(h v (List.mem_cons_self ..)).2, flats_lay ws fun x hx => h x (List.mem_cons_of_mem _ hx)]
    rfl
theorem flats_dep : ∀ ws : List V, PyData.depthAll (ws.map dV) ≤ 1
  | [] => by decide
  | v :: ws => by
    have h := flats_dep ws
    show max (PyData.depth (dV v)) (PyData.depthAll (ws.map dV)) ≤ 1
    have : PyData.depth (dV v) = 0 := by cases v <;> rfl
    omega
theorem Rv.dp {K : PySem.W.Frag} {H : Hp} {v : V} {r : Rsp} (ok : Okr r) (h : Rv H v r) : Dp K H v (datR r) := by
  cases r with
  | none => cases (show v = .non from h); exact .non
  | some ws =>
    obtain ⟨p, rfl, hp⟩ := h
    exact .lst (SqL.of hp) (flats_dp ws ok)
theorem datR_lay {r : Rsp} (ok : Okr r) : (datR r).canLay0 = true := by
  cases r with
  | none => rfl
  | some ws => exact flats_lay ws ok
theorem datR_sh {r : Rsp} (ok : Okr r) : SeqAt.shaped (datR r) = true := by
  unfold SeqAt.shaped
  rw [datR_lay ok, Bool.true_and]
  refine decide_eq_true ?_
  cases r with
  | none => decide
  | some ws =>
    have := flats_dep ws
    show PyData.depthAll (ws.map dV) + 1 ≤ 64
    omega
theorem fl_str {s : Str} (h : (PyData.str s).canLay0 = true) : Flat (.str s) := ⟨.inl ⟨s, rfl⟩, h⟩
theorem fl_int (i : Int) : Flat (.int i) := ⟨.inr (.inl ⟨i, rfl⟩), rfl⟩
theorem fl_bl (b : Bool) : Flat (.bl b) := ⟨.inr (.inr (.inl ⟨b, rfl⟩)), rfl⟩
theorem fl_non : Flat .non := ⟨.inr (.inr (.inr rfl)), rfl⟩
theorem okr3 {a b c : V} (ha : Flat a) (hb : Flat b) (hc : Flat c) : Okr (some [a, b, c]) := by
  intro v hv
  rcases List.mem_cons.mp hv with rfl | hv
  · exact ha
  rcases List.mem_cons.mp hv with rfl | hv
  · exact hb
  rw [List.mem_singleton.mp hv]
  exact hc
theorem cut_len {xs : List V} {n : Nat} {lo hi : Option Int} (h : xs.length ≤ n) : (cutV xs lo hi).length ≤ n := Nat.le_trans (cutV_length xs lo hi) h
/-- the law's shares: of m words, small -/
def spShares (K : PySem.W.Frag) : Sp := fun vs H Q _ => ∃ (l : Addr) (z : Int) (m : Nat), vs = [.ref l, .int (m : Int)] ∧ H l = some (.lst [.int z]) ∧ 1 ≤ m ∧ m ≤ 30 ∧
  ∀ D cs qs z' H', SameB l H H' → H' l = some (.lst [.int z']) → H D = none → D ≠ l → H' D = some (.lst cs) → FrN K H' 8 cs qs → RowOk m qs → Q (.ref D) H'
def spRowsL (K : PySem.W.Frag) : Sp := fun vs H Q _ => ∃ (l : Addr) (z : Int) (ww up : Nat), vs = [.ref l, .int (ww : Int), .int (up : Int)] ∧ H l = some (.lst [.int z]) ∧ 1 ≤ ww ∧ ww ≤ 5 ∧ 1 ≤ up ∧ up ≤ 30 ∧
  ∀ D rs rss m z' H', New K H H' l D rs rss 8 → D ≠ l → H' l = some (.lst [.int z']) → Good rss m → rss.length = ww → m ≤ up → Q (.ref D) H'
/-- xs[i] by values, i from 0 on -/
def rGet0 (K : PySem.W.Frag) : V → V → Hp → VK → Prop := fun o i H Q => ∃ (p : Addr) (xs : List V) (j : Nat) (v : V), o = .ref p ∧ i = .int (j : Int) ∧ SqL K H p xs ∧ xs[j]? = some v ∧ Q v H
theorem pget_list {X : Cx} : PGet X (rGet0 X.K) := by
  intro pins s σ H o i ov iv Q I ro ri h
  obtain ⟨p, xs, j, z, rfl, rfl, hq, he, q⟩ := h
  cases ro
  obtain ⟨t, rfl⟩ := ri
  obtain ⟨its, r, pl, hz⟩ := I.list hq
  obtain ⟨w, ew, rw'⟩ := r.get he
  have hj : j < xs.length := (List.getElem?_eq_some_iff.mp he).1
  have hn := line63
  exact wpAny_getItem_list pl.isList (by omega) (by omega) (by rw [Int.toNat_natCast]; simpa using ew) ⟨z, H, I, rw', q⟩
def shq (ns : List Int) : List Rat := ns.map fun x => Rat.divInt x ns.sum
theorem sum_divInt (S : Int) : ∀ ns : List Int, (ns.map fun x => Rat.divInt x S).sum = Rat.divInt ns.sum S
  | [] => by rw [List.map_nil, List.sum_nil, List.sum_nil, Rat.zero_divInt]
  | x :: ns => by
    rw [List.map_cons, List.sum_cons, List.sum_cons, sum_divInt S ns]
    by_cases h : S = 0
    · subst h
      rw [Rat.divInt_zero, Rat.divInt_zero, Rat.divInt_zero, Rat.add_zero]
    · rw [Rat.divInt_add_divInt _ _ h h, ← Int.add_mul, Rat.divInt_mul_right h]
theorem divInt_nn {x S : Int} (hx : 0 ≤ x) (hS : 0 < S) : 0 ≤ Rat.divInt x S := by
  rw [← Rat.num_nonneg, ← Fr.low_num hS]
  exact Int.fdiv_nonneg hx (by omega)
theorem divInt_one {S : Int} (hS : 0 < S) : Rat.divInt S S = 1 := by
  have h := Rat.divInt_mul_right (n := 1) (d := 1) (a := S) (by omega)
  rw [Int.one_mul] at h
  rw [h]
  rfl
theorem shq_ok {ns : List Int} {m : Nat} (hl : ns.length = m) (h0 : ∀ x ∈ ns, 0 ≤ x) (hS : 0 < ns.sum) : RowOk m (shq ns) := by
  refine ⟨by unfold shq; rw [List.length_map, hl], fun q hq => ?_, ?_⟩
  · obtain ⟨x, hx, rfl⟩ := List.mem_map.mp hq
    exact divInt_nn (h0 x hx) hS
  · unfold shq
    rw [sum_divInt, divInt_one hS]
theorem sum_le : ∀ (ns : List Int) (b : Int), (∀ x ∈ ns, x ≤ b) → ns.sum ≤ b * ns.length
  | [], b, _ => by simp
  | x :: ns, b, h => by
    have h1 := sum_le ns b fun y hy => h y (List.mem_cons_of_mem _ hy)
    have h2 := h x (List.mem_cons_self ..)
    rw [List.sum_cons, List.length_cons, Int.natCast_succ, Int.mul_add]
    omega
theorem sum_nn : ∀ (ns : List Int), (∀ x ∈ ns, 0 ≤ x) → 0 ≤ ns.sum
  | [], _ => by simp
  | x :: ns, h => by
    have h1 := sum_nn ns fun y hy => h y (List.mem_cons_of_mem _ hy)
    have h2 := h x (List.mem_cons_self ..)
    rw [List.sum_cons]
    omega
theorem set_sumI : ∀ (l : List Int) (g : Nat) (x : Int), l[g]? = some x → (l.set g (x + 1)).sum = l.sum + 1
  | [], g, x, h => by simp at h
  | y :: l, 0, x, h => by
    have e : y = x := Option.some.inj h
    subst e
    show ((y + 1) :: l).sum = _
    rw [List.sum_cons, List.sum_cons]
    omega
  | y :: l, g + 1, x, h => by
    show (y :: l.set g (x + 1)).sum = _
    rw [List.sum_cons, List.sum_cons, set_sumI l g x h]
    omega
theorem tab_at {d : Int} (h0 : 0 ≤ d) (h6 : d < 6) : ∃ v : Int, atI [V.int 0, V.int 1, V.int 1, V.int 2, V.int 3, V.int 5] d = some (V.int v) ∧ 0 ≤ v ∧ v ≤ 5 := by
  have : d = 0 ∨ d = 1 ∨ d = 2 ∨ d = 3 ∨ d = 4 ∨ d = 5 := by omega
  rcases this with rfl | rfl | rfl | rfl | rfl | rfl
  · exact ⟨_, atI_nat (j := 0) rfl, by decide, by decide⟩
  · exact ⟨_, atI_nat (j := 1) rfl, by decide, by decide⟩
  · exact ⟨_, atI_nat (j := 2) rfl, by decide, by decide⟩
  · exact ⟨_, atI_nat (j := 3) rfl, by decide, by decide⟩
  · exact ⟨_, atI_nat (j := 4) rfl, by decide, by decide⟩
  · exact ⟨_, atI_nat (j := 5) rfl, by decide, by decide⟩
theorem ne_num {K : PySem.W.Frag} {H : Hp} {l : Addr} {z : Int} {a : Addr} {rs : List Addr} {rss : List (List Rat)} {n : Nat} (hl : H l = some (.lst [.int z])) (h : RwL K H a rs rss n) : a ≠ l := fun e => by
  have := h.1
  rw [e, hl] at this
  cases rs with
  | nil => cases this
  | cons r rs => cases this
theorem nr_num {K : PySem.W.Frag} {H : Hp} {l : Addr} {z : Int} {rs : List Addr} {rss : List (List Rat)} {n : Nat} (hl : H l = some (.lst [.int z])) (h : RowsAt K H n rs rss) : l ∉ rs := fun hm => by
  obtain ⟨j, hj, e⟩ := List.getElem_of_mem hm
  obtain ⟨cs, qs, e1, e2, e3⟩ := h.2 j l (by rw [List.getElem?_eq_getElem hj, e])
  rw [hl] at e2
  cases e2
  obtain ⟨a, q, _, e, _⟩ := e3.at_ 0 _ rfl
  cases e
theorem RwL.keepB {K : PySem.W.Frag} {H H' : Hp} {l : Addr} {z : Int} {a : Addr} {rs : List Addr} {rss : List (List Rat)} {n : Nat} (h : RwL K H a rs rss n) (hl : H l = some (.lst [.int z])) (s : SameB l H H') : RwL K H' a rs rss n :=
  ⟨s _ _ (ne_num hl h) h.1, h.2.keep s hl (nr_num hl h.2)⟩
theorem IsRule.keepB {K : PySem.W.Frag} {H H' : Hp} {C x l : Addr} {z : Int} {rss : List (List Rat)} {n : Nat} (h : IsRule K H C x rss n) (hl : H l = some (.lst [.int z])) (s : SameB l H H') : IsRule K H' C x rss n := by
  obtain ⟨dx, ra, rs, e1, e2⟩ := h
  exact ⟨dx, ra, rs, s _ _ (ne_of e1 hl (by intro w; cases w)) e1, RwL.keepB e2 hl s⟩
theorem New.pre {K : PySem.W.Frag} {H00 H0 H : Hp} {ex D : Addr} {rs : List Addr} {rss : List (List Rat)} {n : Nat} (h : New K H0 H ex D rs rss n) (s : SameB ex H00 H0) (hD : D ≠ ex) : New K H00 H ex D rs rss n := by
  refine ⟨h.at_, h.nd, h.ne, fun x hx => ?_, ?_, h.nx, s.trans h.keep, h.rows⟩
  · cases e : H00 x with
    | none => rfl
    | some o =>
      have := s x o (fun z => h.nx (by rw [← z]; exact hx)) e
      rw [h.fresh x hx] at this
      cases this
  · cases e : H00 D with
    | none => rfl
    | some o =>
      have := s D o hD e
      rw [h.fD] at this
      cases this
theorem RwL.ins {K : PySem.W.Frag} {H : Hp} {a x C dx : Addr} {fs gs : List (Str × V)} {rs : List Addr} {rss : List (List Rat)} {n : Nat} (h : RwL K H a rs rss n) (hx : H x = some (.ins C dx fs)) : RwL K (upd H x (.ins C dx gs)) a rs rss n := by
  have st : ∀ b xs, SqT K H b xs → SqT K (upd H x (.ins C dx gs)) b xs := fun b xs z => by
    rcases z with (z | ⟨o, z⟩) | z
    · exact .inl (.inl (by rw [upd_ne (ne_of z hx (by intro w; cases w))]; exact z))
    · exact .inl (.inr ⟨o, by rw [upd_ne (ne_of z hx (by intro w; cases w))]; exact z⟩)
    · exact .inr z
  refine ⟨by rw [upd_ne (ne_of h.1 hx (by intro w; cases w))]; exact h.1, h.2.1, fun j r e => ?_⟩
  obtain ⟨cs, qs, e1, e2, e3⟩ := h.2.2 j r e
  exact ⟨cs, qs, e1, by rw [upd_ne (ne_of e2 hx (by intro w; cases w))]; exact e2, e3.keep st⟩
/-- len(o), o an instance with its own __len__ -/
def rLenO (C : Addr) (sp : Sp) : List V → Hp → VK → Prop := fun xs H Q => ∃ (x dx : Addr) (fs : List (Str × V)), xs = [.ref x] ∧ H x = some (.ins C dx fs) ∧ sp [.ref x] H (fun v H' => ∃ n : Nat, v = .int (n : Int) ∧ n < 1000 ∧ Q (.int (n : Int)) H') (fun _ _ _ => False)
theorem call_lenO {X : Cx} {C f : Addr} {fd : FuncData} {k : Nat} {sp : Sp} (hs : PySem.W.findIn X.K (.ref C) "__len__" = some (some (.ref f))) (hf : PySem.W.isFn X.K (.ref f) = true) (F : FnOk X.prog X.w X.K X.mg X.base CX0 k f fd ["self"] sp) (hr : Room (k + 1) X.A) (hb : Binds X.K fd ["self"] []) : CallR X (.builtin "len") (rLenO C sp) := by
  intro pins s σ H xs us Q I r h
  obtain ⟨x, dx, fs, rfl, hx, hq⟩ := h
  cases r with
  | @cons _ u _ _ ru rn =>
    cases rn
    cases (show u = Value.ref x from ru)
    obtain ⟨mA, J, _⟩ := ins_get I.hok hx
    obtain ⟨od, J, _⟩ := J.look
    obtain ⟨m, hF⟩ := I.fr
    refine PySem.W.len_K hF I.ok.mod.kin J hs hf ?_
    have e0 : Env0 X.prog X.w X.K X.mg X.base X.A.in1 X.stack s H := by
      have e := I.env0
      exact ⟨e.frames, e.mod, e.bs, e.bsz, e.funs, e.frf, e.hok, e.bare⟩
    have r2 : Vals [V.ref x] [Value.ref x] := .cons rfl .nil
    refine wpAny_call (codeAny_mono (F.run X.A.in1 X.stack s H ⟨[.ref x], []⟩ [.ref x] [.ref x] _ (fun _ _ _ => False) hr.in1 e0 (by
      have := hb s [.ref x] I.kIn rfl
      simpa using this) r2 hq) fun r s' hq' => ?_)
    cases r with
    | error e => exact False.elim hq'
    | ok fl =>
      cases fl with
      | ret u =>
        obtain ⟨z, H', I', rz, n, ez, hn, q⟩ := I.after hq'
        subst ez
        obtain ⟨t, rfl⟩ := (show ∃ t, u = Value.int (n : Int) t from rz)
        exact ⟨⟨by omega, by omega⟩, .int (n : Int), H', I'.tok _, ⟨_, rfl⟩, q⟩
      | next => exact False.elim hq'
      | brk => exact False.elim hq'
      | cont => exact False.elim hq'
theorem sum_snoc' {qs : List Rat} {i : Nat} {q : Rat} (h : qs[i]? = some q) : (qs.take (i + 1)).sum = (qs.take i).sum + q := Co.sum_snoc h
def spTotal (K : PySem.W.Frag) : Sp := fun vs H Q _ => ∃ (l : Addr) (cs : List V) (qs : List Rat) (n : Nat), vs = [.ref l, .non] ∧ SqL K H l cs ∧ FrN K H n cs qs ∧ (n + 1) * qs.length + 1 ≤ 8700 ∧ ∀ r H', Same H H' → SqT K H' r (rp qs.sum) → Q (.ref r) H'
def spCopied (K : PySem.W.Frag) : Sp := fun vs H Q _ => ∃ (a : Addr) (rs : List Addr) (rss : List (List Rat)) (n : Nat), vs = [.ref a] ∧ RwL K H a rs rss n ∧ rss.length ≤ 100 ∧ ∀ D rs' H', Fresh K H H' D rs' rss n → Q (.ref D) H'
theorem eqv_dR (a b : Rat) : PyData.eqv (dR a) (dR b) = decide (a = b) := by
  show PyData.eqv (.tuple [.int a.num, .int (a.den : Int)]) (.tuple [.int b.num, .int (b.den : Int)]) = _
  simp only [PyData.eqv, PyData.eqvAll, Bool.and_true]
  by_cases h : a = b
  · subst h
    simp
  · rw [decide_eq_false h, Bool.and_eq_false_iff]
    by_cases h1 : a.num = b.num
    · refine .inr ?_
      have h2 : a.den ≠ b.den := fun e => h (Rat.ext h1 e)
      simp only [beq_eq_false_iff_ne, ne_eq]
      omega
    · refine .inl ?_
      simp only [beq_eq_false_iff_ne, ne_eq]
      exact h1
def rLenS (K : PySem.W.Frag) : List V → Hp → VK → Prop := fun xs H Q => ∃ p ys, xs = [V.ref p] ∧ (SqL K H p ys ∨ SqT K H p ys) ∧ Q (.int ys.length) H
def rStrI : List V → Hp → VK → Prop := fun xs H Q => ∃ i : Int, xs = [V.int i] ∧ i.natAbs.log2 < 1920 ∧ Q (.str (toString i)) H
def rInt1 : List V → Hp → VK → Prop := fun xs H Q => (∃ i, xs = [V.int i] ∧ Q (.int i) H) ∨ ∃ k, xs = [V.bl k] ∧ Q (.int (if k then 1 else 0)) H
def rTupOf (K : PySem.W.Frag) : List V → Hp → VK → Prop := fun xs H Q => ∃ p ys, xs = [V.ref p] ∧ ((SqL K H p ys ∧ ∀ l, H l = none → Q (.ref l) (upd H l (.tup ys))) ∨ (SqT K H p ys ∧ Q (.ref p) H))
/-- a def that may raise, where it does not -/
theorem quiet {P : Program} {w : World} {K : PySem.W.Frag} {mg : Str → Option Value} {base : Heap} {k : Nat} {f : Addr} {fd : FuncData} {ps : List Str} {sp : Sp} (F : FnOk P w K mg base (L2.CX P w) k f fd ps sp) : FnOk P w K mg base CX0 k f fd ps (fun vs H Q _ => sp vs H Q E0) := by
  refine ⟨fun vs H Q E h => F.len vs H Q E0 h, fun A outer s H args us vs Q E hr e b r h => codeAny_mono (F.run A outer s H args us vs Q E0 hr e b r h) fun r s' hq => ?_⟩
  cases r with
  | error e =>
    obtain ⟨_, _, _, _, _, _, _, _, _, _, _, _, z⟩ := hq
    exact z.elim
  | ok fl =>
    cases fl <;> exact hq
end Rs

set_option Elab.async false
set_option linter.all false
set_option maxRecDepth 100000
set_option maxHeartbeats 4000000
namespace Dz
open PySem PySem.Spec PyProof.Rows L2 BX EXB Co Ru
open Fr (Bd)
/-! ### things of any kind, none of whose lists stands where ex says -/
mutual
inductive Dz (K : PySem.W.Frag) (H : Hp) (ex : Addr → Prop) : V → PyData → Prop
  | non : Dz K H ex .non .none
  | bl (b : Bool) : Dz K H ex (.bl b) (.bool b)
  | int (i : Int) : Dz K H ex (.int i) (.int i)
  | str (x : Str) : Dz K H ex (.str x) (.str x)
  | lst {a : Addr} {xs : List V} {ds : List PyData} (h : H a = some (.lst xs)) (hn : ¬ ex a) (t : DzA K H ex xs ds) : Dz K H ex (.ref a) (.list ds)
  | tup {a : Addr} {xs : List V} {ds : List PyData} (h : SqT K H a xs) (t : DzA K H ex xs ds) : Dz K H ex (.ref a) (.tuple ds)
  | dct {a : Addr} (h : H a = some (.dK [])) (hn : ¬ ex a) : Dz K H ex (.ref a) (.dict [])
inductive DzA (K : PySem.W.Frag) (H : Hp) (ex : Addr → Prop) : List V → List PyData → Prop
  | nil : DzA K H ex [] []
  | cons {v : V} {vs : List V} {d : PyData} {ds : List PyData} (h : Dz K H ex v d) (t : DzA K H ex vs ds) : DzA K H ex (v :: vs) (d :: ds)
end
/-- what changes leaves such things -/
structure Ch (K : PySem.W.Frag) (ex : Addr → Prop) (H H' : Hp) : Prop where
  tp : ∀ a xs, SqT K H a xs → SqT K H' a xs
  ob : ∀ b o, ¬ ex b → H b = some o → H' b = some o
section
variable {K : PySem.W.Frag} {ex ex' : Addr → Prop} {H H' H2 : Hp}
theorem Ch.of (s : Same H H') : Ch K ex H H' := ⟨fun _ _ => seqT s, fun b o _ e => s b o e⟩
theorem Ch.trans (a : Ch K ex H H') (b : Ch K ex H' H2) : Ch K ex H H2 := ⟨fun x y h => b.tp x y (a.tp x y h), fun x y n h => b.ob x y n (a.ob x y n h)⟩
theorem Ch.put {p : Addr} {ys zs : List V} (hp : H p = some (.lst ys)) (h : ex p) : Ch K ex H (upd H p (.lst zs)) := ⟨SameB.tup SameB.upd hp, fun b o n e => by rw [upd_ne (fun z => n (by rw [z]; exact h))]; exact e⟩
theorem Ch.but {l : Addr} {ys : List V} (hl : H l = some (.lst ys)) (s : SameB l H H') (h : ex l) : Ch K ex H H' := ⟨s.tup hl, fun b o n e => s b o (fun z => n (by rw [z]; exact h)) e⟩
mutual
theorem Dz.ch (c : Ch K ex H H') : ∀ (d : PyData) (v : V), Dz K H ex v d → Dz K H' ex v d
  | .none, _, h => by cases h; exact .non
  | .bool b, _, h => by cases h; exact .bl _
  | .int i, _, h => by cases h; exact .int _
  | .str x, _, h => by cases h; exact .str _
  | .list ds, _, h => by
    cases h with
    | lst h hn t => exact .lst (c.ob _ _ hn h) hn (DzA.ch c ds _ t)
  | .tuple ds, _, h => by
    cases h with
    | tup h t => exact .tup (c.tp _ _ h) (DzA.ch c ds _ t)
  | .dict ds, _, h => by
    cases h with
    | dct h hn => exact .dct (c.ob _ _ hn h) hn
theorem DzA.ch (c : Ch K ex H H') : ∀ (ds : List PyData) (vs : List V), DzA K H ex vs ds → DzA K H' ex vs ds
  | [], _, h => by cases h; exact .nil
  | d :: ds, _, h => by
    cases h with
    | cons h t => exact .cons (Dz.ch c d _ h) (DzA.ch c ds _ t)
end
mutual
theorem Dz.sub (s : ∀ a, ex' a → ex a) : ∀ (d : PyData) (v : V), Dz K H ex v d → Dz K H ex' v d
  | .none, _, h => by cases h; exact .non
  | .bool b, _, h => by cases h; exact .bl _
  | .int i, _, h => by cases h; exact .int _
  | .str x, _, h => by cases h; exact .str _
  | .list ds, _, h => by
    cases h with
    | lst h hn t => exact .lst h (fun z => hn (s _ z)) (DzA.sub s ds _ t)
  | .tuple ds, _, h => by
    cases h with
    | tup h t => exact .tup h (DzA.sub s ds _ t)
  | .dict ds, _, h => by
    cases h with
    | dct h hn => exact .dct h fun z => hn (s _ z)
theorem DzA.sub (s : ∀ a, ex' a → ex a) : ∀ (ds : List PyData) (vs : List V), DzA K H ex vs ds → DzA K H ex' vs ds
  | [], _, h => by cases h; exact .nil
  | d :: ds, _, h => by
    cases h with
    | cons h t => exact .cons (Dz.sub s d _ h) (DzA.sub s ds _ t)
end
mutual
theorem Dz.dp : ∀ (d : PyData) (v : V), Dz K H ex v d → d.hasDict = false → Dp K H v d
  | .none, _, h, _ => by cases h; exact .non
  | .bool b, _, h, _ => by cases h; exact .bl _
  | .int i, _, h, _ => by cases h; exact .int _
  | .str x, _, h, _ => by cases h; exact .str _
  | .list ds, _, h, e => by
    cases h with
    | lst h hn t => exact .lst (SqL.of h) (DzA.dp ds _ t (by simpa only [PyData.hasDict] using e))
  | .tuple ds, _, h, e => by
    cases h with
    | tup h t => exact .tup h (DzA.dp ds _ t (by simpa only [PyData.hasDict] using e))
  | .dict ds, _, h, e => by simp only [PyData.hasDict] at e; cases e
theorem DzA.dp : ∀ (ds : List PyData) (vs : List V), DzA K H ex vs ds → PyData.hasDictAll ds = false → DpAll K H vs ds
  | [], _, h, _ => by cases h; exact .nil
  | d :: ds, _, h, e => by
    cases h with
    | cons h t =>
      simp only [PyData.hasDictAll, Bool.or_eq_false_iff] at e
      exact .cons (Dz.dp d _ h e.1) (DzA.dp ds _ t e.2)
end
theorem Dz.same {d : PyData} {v : V} (h : Dz K H ex v d) (s : Same H H') : Dz K H' ex v d := Dz.ch (.of s) d v h
theorem DzA.same {d : List PyData} {v : List V} (h : DzA K H ex v d) (s : Same H H') : DzA K H' ex v d := DzA.ch (.of s) d v h
theorem Dz.cc {d : PyData} {v : V} (h : Dz K H ex v d) (c : Ch K ex H H') : Dz K H' ex v d := Dz.ch c d v h
theorem DzA.cc {d : List PyData} {v : List V} (h : DzA K H ex v d) (c : Ch K ex H H') : DzA K H' ex v d := DzA.ch c d v h
variable {vs us : List V} {ds es : List PyData}
theorem DzA.len (h : DzA K H ex vs ds) : vs.length = ds.length := by
  induction ds generalizing vs with
  | nil => cases h; rfl
  | cons d ds ih => cases h with | cons h t => rw [List.length_cons, List.length_cons, ih t]
theorem DzA.at_ (h : DzA K H ex vs ds) : ∀ {i : Nat} {v : V}, vs[i]? = some v → ∃ d, ds[i]? = some d ∧ Dz K H ex v d := by
  induction ds generalizing vs with
  | nil => cases h; intro i v e; simp at e
  | cons d ds ih =>
    cases h with
    | cons h t =>
      intro i v e
      cases i with
      | zero => cases (Option.some.inj e); exact ⟨_, rfl, h⟩
      | succ i => exact ih t e
theorem DzA.app (h : DzA K H ex vs ds) (g : DzA K H ex us es) : DzA K H ex (vs ++ us) (ds ++ es) := by
  induction ds generalizing vs with
  | nil => cases h; exact g
  | cons d ds ih => cases h with | cons h t => exact .cons h (ih t)
theorem DzA.drop (h : DzA K H ex vs ds) (n : Nat) : DzA K H ex (vs.drop n) (ds.drop n) := by
  induction ds generalizing vs n with
  | nil => cases h; rw [List.drop_nil, List.drop_nil]; exact .nil
  | cons d ds ih =>
    cases h with
    | cons h t =>
      cases n with
      | zero => exact .cons h t
      | succ n => exact ih t n
theorem DzA.take (h : DzA K H ex vs ds) (n : Nat) : DzA K H ex (vs.take n) (ds.take n) := by
  induction ds generalizing vs n with
  | nil => cases h; rw [List.take_nil, List.take_nil]; exact .nil
  | cons d ds ih =>
    cases h with
    | cons h t =>
      cases n with
      | zero => exact .nil
      | succ n => exact .cons h (ih t n)
theorem DzA.set {v : V} {d : PyData} (h : DzA K H ex vs ds) (j : Nat) (g : Dz K H ex v d) : DzA K H ex (vs.set j v) (ds.set j d) := by
  induction ds generalizing vs j with
  | nil => cases h; exact .nil
  | cons d ds ih =>
    cases h with
    | cons h t =>
      cases j with
      | zero => exact .cons g t
      | succ j => exact .cons h (ih t j)
theorem DzA.rep (h : DzA K H ex vs ds) : ∀ k : Nat, DzA K H ex (List.replicate k vs).flatten (List.replicate k ds).flatten
  | 0 => .nil
  | k + 1 => by
    rw [List.replicate_succ, List.replicate_succ, List.flatten_cons, List.flatten_cons]
    exact h.app (DzA.rep h k)
theorem DzA.of_mem : ∀ {vs : List V}, (∀ v ∈ vs, ∃ d, Dz K H ex v d) → ∃ ds, DzA K H ex vs ds
  | [], _ => ⟨[], .nil⟩
  | v :: vs, h => by
    obtain ⟨d, c⟩ := h v (List.mem_cons_self ..)
    obtain ⟨ds, t⟩ := DzA.of_mem fun x hx => h x (List.mem_cons_of_mem _ hx)
    exact ⟨d :: ds, .cons c t⟩
/-! ### kinds -/
def tyD : PyData → String
  | .none => "NoneType"
  | .bool _ => "bool"
  | .int _ => "int"
  | .str _ => "str"
  | .list _ => "list"
  | .tuple _ => "tuple"
  | .dict _ => "dict"
theorem Dz.ty {v : V} {d : PyData} (h : Dz K H ex v d) : TyX K H v (.type (tyD d)) := by
  cases h with
  | non => exact .base .non
  | bl b => exact .base (.bl _)
  | int i => exact .base (.int _)
  | str x => exact .base (.str _)
  | lst h hn t => exact .base (.lst h)
  | tup h t => exact tyT h
  | dct h hn => exact .base (.dK h)
def isL : PyData → Bool
  | .list _ => true
  | _ => false
def isT : PyData → Bool
  | .tuple _ => true
  | _ => false
def isI : PyData → Bool
  | .int _ => true
  | _ => false
def isIB : PyData → Bool
  | .int _ => true
  | .bool _ => true
  | _ => false
def isB : PyData → Bool
  | .bool _ => true
  | _ => false
def isS : PyData → Bool
  | .str _ => true
  | _ => false
theorem kit_isL (d : PyData) : kitB (tyD d) "list" = some (isL d) := by
  cases d with
  | none => show kitB "NoneType" "list" = some false; decide +kernel
  | bool x => show kitB "bool" "list" = some false; decide +kernel
  | int x => show kitB "int" "list" = some false; decide +kernel
  | str x => show kitB "str" "list" = some false; decide +kernel
  | list x => show kitB "list" "list" = some true; decide +kernel
  | tuple x => show kitB "tuple" "list" = some false; decide +kernel
  | dict x => show kitB "dict" "list" = some false; decide +kernel
theorem kit_isT (d : PyData) : kitB (tyD d) "tuple" = some (isT d) := by
  cases d with
  | none => show kitB "NoneType" "tuple" = some false; decide +kernel
  | bool x => show kitB "bool" "tuple" = some false; decide +kernel
  | int x => show kitB "int" "tuple" = some false; decide +kernel
  | str x => show kitB "str" "tuple" = some false; decide +kernel
  | list x => show kitB "list" "tuple" = some false; decide +kernel
  | tuple x => show kitB "tuple" "tuple" = some true; decide +kernel
  | dict x => show kitB "dict" "tuple" = some false; decide +kernel
theorem kit_isIB (d : PyData) : kitB (tyD d) "int" = some (isIB d) := by
  cases d with
  | none => show kitB "NoneType" "int" = some false; decide +kernel
  | bool x => show kitB "bool" "int" = some true; decide +kernel
  | int x => show kitB "int" "int" = some true; decide +kernel
  | str x => show kitB "str" "int" = some false; decide +kernel
  | list x => show kitB "list" "int" = some false; decide +kernel
  | tuple x => show kitB "tuple" "int" = some false; decide +kernel
  | dict x => show kitB "dict" "int" = some false; decide +kernel
theorem kit_isB (d : PyData) : kitB (tyD d) "bool" = some (isB d) := by
  cases d with
  | none => show kitB "NoneType" "bool" = some false; decide +kernel
  | bool x => show kitB "bool" "bool" = some true; decide +kernel
  | int x => show kitB "int" "bool" = some false; decide +kernel
  | str x => show kitB "str" "bool" = some false; decide +kernel
  | list x => show kitB "list" "bool" = some false; decide +kernel
  | tuple x => show kitB "tuple" "bool" = some false; decide +kernel
  | dict x => show kitB "dict" "bool" = some false; decide +kernel
theorem kit_isS (d : PyData) : kitB (tyD d) "str" = some (isS d) := by
  cases d with
  | none => show kitB "NoneType" "str" = some false; decide +kernel
  | bool x => show kitB "bool" "str" = some false; decide +kernel
  | int x => show kitB "int" "str" = some false; decide +kernel
  | str x => show kitB "str" "str" = some true; decide +kernel
  | list x => show kitB "list" "str" = some false; decide +kernel
  | tuple x => show kitB "tuple" "str" = some false; decide +kernel
  | dict x => show kitB "dict" "str" = some false; decide +kernel
/-- how many things a list has -/
def lenD : PyData → Option Nat
  | .list ds => some ds.length
  | _ => none
def lenOk : Option Nat → Int → Int → Bool
  | some n, lo, hi => decide (lo ≤ (n : Int)) && decide ((n : Int) ≤ hi)
  | none, _, _ => false
/-- the fraction that a thing is -/
def ratD : PyData → Option Rat
  | .tuple [.int t, .int b] => if 1 ≤ b ∧ Int.gcd t b = 1 then some (Rat.divInt t b) else none
  | _ => none
theorem ratD_num {t b : Int} (h1 : 1 ≤ b) (hg : Int.gcd t b = 1) : (Rat.divInt t b).num = t ∧ ((Rat.divInt t b).den : Int) = b := by
  have e1 := Fr.low_num (t := t) (b := b) (by omega)
  have e2 := Fr.low_den (t := t) (b := b) (by omega)
  rw [hg] at e1 e2
  rw [← e1, ← e2]
  exact ⟨Int.fdiv_one _, Int.fdiv_one _⟩
theorem Dz.rat {v : V} {d : PyData} {q : Rat} (h : Dz K H ex v d) (e : ratD d = some q) : ∃ a, v = .ref a ∧ SqT K H a (rp q) ∧ d = dR q := by
  unfold ratD at e
  split at e
  · rename_i t b
    split at e
    · rename_i c
      obtain ⟨e1, e2⟩ := ratD_num c.1 c.2
      cases e
      cases h with
      | @tup a xs _ h ts =>
        cases ts with
        | cons h1 ts =>
          cases ts with
          | cons h2 ts =>
            cases ts
            cases h1
            cases h2
            refine ⟨a, rfl, ?_, ?_⟩
            · unfold rp
              rw [e1, e2]
              exact h
            · unfold dR
              rw [e1, e2]
    · cases e
  · cases e
theorem ratD_dR (q : Rat) : ratD (dR q) = some q := by
  show (if 1 ≤ (q.den : Int) ∧ Int.gcd q.num q.den = 1 then some (Rat.divInt q.num q.den) else none) = some q
  have := Fr.den_pos q
  rw [if_pos ⟨by omega, Fr.ratio_gcd q⟩, Rat.num_divInt_den]
theorem dz_dR {a : Addr} {q : Rat} (h : SqT K H a (rp q)) : Dz K H ex (.ref a) (dR q) := .tup h (.cons (.int _) (.cons (.int _) .nil))
def shD (d : PyData) : Bool := match ratD d with
  | some q => decide (0 ≤ q.num)
  | none => false
def sumD (ds : List PyData) : Rat := (ds.map fun d => (ratD d).getD 0).sum
/-- things that are all fractions -/
theorem DzA.rats {n : Nat} (h : DzA K H ex vs ds) (hb : ∀ d ∈ ds, ∀ q, ratD d = some q → Bd n q) (g : ds.all (fun d => (ratD d).isSome) = true) : ∃ qs, ds = qs.map dR ∧ FrN K H n vs qs := by
  induction ds generalizing vs with
  | nil => cases h; exact ⟨[], rfl, FrN.nil⟩
  | cons d ds ih =>
    cases h with
    | @cons v vs _ _ h t =>
      rw [List.all_cons, Bool.and_eq_true] at g
      obtain ⟨qs, e1, e2⟩ := ih t (fun x hx => hb x (List.mem_cons_of_mem _ hx)) g.2
      obtain ⟨q, eq⟩ := Option.isSome_iff_exists.mp g.1
      obtain ⟨a, rfl, e3, e4⟩ := h.rat eq
      refine ⟨q :: qs, by rw [e4, e1]; rfl, ⟨by rw [List.length_cons, List.length_cons, e2.len], fun i x e => ?_⟩⟩
      cases i with
      | zero => cases (Option.some.inj e); exact ⟨a, q, rfl, rfl, e3, hb d (List.mem_cons_self ..) q eq⟩
      | succ i => exact e2.at_ i x e
theorem frn_dz : ∀ {vs : List V} {qs : List Rat} {n : Nat}, FrN K H n vs qs → DzA K H ex vs (qs.map dR)
  | [], [], _, _ => .nil
  | [], _ :: _, _, h => by have := h.len; simp at this
  | _ :: _, [], _, h => by have := h.len; simp at this
  | v :: vs, q :: qs, n, h => by
    obtain ⟨a, q', e1, rfl, e3, e4⟩ := h.at_ 0 v rfl
    cases (Option.some.inj e1)
    exact .cons (dz_dR e3) (frn_dz (n := n) ⟨by have := h.len; simpa using this, fun i v e => h.at_ (i + 1) v e⟩)
theorem rows_dz : ∀ {rs : List Addr} {rss : List (List Rat)} {n : Nat}, RowsAt K H n rs rss → (∀ r ∈ rs, ¬ ex r) → DzA K H ex (rs.map V.ref) (rss.map fun qs => .list (qs.map dR))
  | [], [], _, _, _ => .nil
  | [], _ :: _, _, h, _ => by have := h.1; simp at this
  | _ :: _, [], _, h, _ => by have := h.1; simp at this
  | r :: rs, q :: rss, n, h, hn => by
    obtain ⟨cs, qs, e1, e2, e3⟩ := h.2 0 r rfl
    have e : q = qs := Option.some.inj e1
    subst e
    exact .cons (.lst e2 (hn r (List.mem_cons_self ..)) (frn_dz e3)) (rows_dz (n := n) ⟨by have := h.1; simpa using this, fun j x e => h.2 (j + 1) x e⟩ fun r hr => hn r (List.mem_cons_of_mem _ hr))
end
/-! ### shown -/
section
variable {X : Cx} {pins : List (Addr × Obj)} {σ : L2.St} {H : Hp} {s : Shared} {ex : Addr → Prop}
mutual
theorem Dz.repk (I : Inv X pins σ H s) : ∀ (d : PyData) (v : V) (u : Value), Dz X.K H ex v d → RelV v u → d.showable = true → d.shown.length ≤ sizeLine → ∃ as bs, Reads s.heap u d as ∧ ReadAtMost s.heap d.depth bs ∧ ReprK X.prog X.w bs s.heap d.depth u d.shown
  | .none, _, _, h, r, _, _ => by
    cases h
    cases r
    exact ⟨[], [], .none, fun _ z => (nomatch z), ReprK.of_is ReprIs.none [] _ _⟩
  | .bool b, _, _, h, r, _, _ => by
    cases h
    cases r
    exact ⟨[], [], .bool b, fun _ z => (nomatch z), ReprK.of_is (ReprIs.bool b) [] _ _⟩
  | .int i, _, _, h, r, hs, _ => by
    cases h
    obtain ⟨t, rfl⟩ := r
    exact ⟨[], [], .int i t, fun _ z => (nomatch z), ReprK.of_is (ReprIs.int t (of_decide_eq_true hs)) [] _ _⟩
  | .str x, _, _, h, r, _, hz => by
    cases h
    obtain ⟨t, rfl⟩ := r
    exact ⟨[], [], .str x t, fun _ z => (nomatch z), ReprK.of_is (ReprIs.str x t hz) [] _ _⟩
  | .list ds, _, _, h, r, hs, hz => by
    cases h with
    | @lst a xs _ h hn t =>
      cases r
      obtain ⟨_, its, n, rv, e⟩ := (show ObjOk X.prog X.w H s.heap a (.lst xs) from I.hok a _ h)
      have hz1 : (listText (PyData.shownAll ds)).length ≤ sizeLine := hz
      obtain ⟨as, bs, h1, h2, h3⟩ := DzA.repk I ds xs its t rv hs fun y hy => Nat.le_trans (listText_mem_le hy) hz1
      have rd : Reads s.heap (.ref a) (.list ds) (a :: as) := .list e rfl rfl h1
      have na : a ∉ bs := not_mem_of_deeper rd (Nat.lt_succ_self _) h2
      refine ⟨_, a :: bs, rd, ReadAtMost.cons rd (Nat.le_succ _) h2, ?_⟩
      cases its with
      | nil =>
        cases h1
        exact ReprK.listEmpty e rfl rfl
      | cons x l => exact ReprK.list e rfl rfl na (by simpa using h3.length_eq) fun i y z => h3.item i y (by simpa using z)
  | .tuple ds, _, _, h, r, hs, hz => by
    cases h with
    | @tup a xs _ h t =>
      cases r
      obtain ⟨its, rv, ⟨o, ho, hc, n, hd⟩, _⟩ := I.tuple h
      have hz1 : (tupleText (PyData.shownAll ds)).length ≤ sizeLine := hz
      obtain ⟨as, bs, h1, h2, h3⟩ := DzA.repk I ds xs its t rv hs fun y hy => Nat.le_trans (tupleText_mem_le hy) hz1
      have rd : Reads s.heap (.ref a) (.tuple ds) as := .tuple ho hc hd h1
      exact ⟨_, a :: bs, rd, ReadAtMost.cons rd (Nat.le_succ _) h2, ReprK.tuple ho hc hd (not_mem_of_deeper rd (Nat.lt_succ_self _) h2) h3⟩
  | .dict ds, _, _, h, r, _, _ => by
    cases h with
    | @dct a h hn =>
      cases r
      obtain ⟨_, hns, vs, hkv, o, es, ep, h1, h2, h3, h4, h5, _⟩ := (show ObjOk X.prog X.w H s.heap a (.dK []) from I.hok a _ h)
      cases hkv
      have he : es.toList = [] := List.eq_nil_of_length_eq_zero h5.length
      have rd : Reads s.heap (.ref a) (.dict []) (a :: [] ++ []) := .dict h1 h2.1 h3 (by rw [he]; exact .nil) (by rw [he]; exact .nil)
      refine ⟨_, [a], rd, ReadAtMost.cons (n := 0) (bs := []) rd (Nat.zero_le _) (fun _ z => (nomatch z)), ReprK.dict (d := 0) (ps := []) h1 h2.1 h3 hns (by simp) (by rw [he]; exact .nil)⟩
theorem DzA.repk (I : Inv X pins σ H s) : ∀ (ds : List PyData) (vs : List V) (us : List Value), DzA X.K H ex vs ds → Vals vs us → PyData.showableAll ds = true → (∀ t ∈ PyData.shownAll ds, t.length ≤ sizeLine) → ∃ as bs, ReadsAll s.heap us ds as ∧ ReadAtMost s.heap (PyData.depthAll ds) bs ∧ ReprAllK X.prog X.w bs s.heap (PyData.depthAll ds) us (PyData.shownAll ds)
  | [], _, _, h, r, _, _ => by
    cases h
    cases r
    exact ⟨[], [], .nil, fun _ z => (nomatch z), .nil⟩
  | d :: ds, _, _, h, r, hs, hz => by
    cases h with
    | cons h t =>
      cases r with
      | cons r1 r2 =>
        have hs' : d.showable = true ∧ PyData.showableAll ds = true := Bool.and_eq_true _ _ ▸ (show (d.showable && PyData.showableAll ds) = true from hs)
        obtain ⟨as, bs, a1, a2, a3⟩ := Dz.repk I d _ _ h r1 hs'.1 (hz _ (List.mem_cons_self ..))
        obtain ⟨cs, es, b1, b2, b3⟩ := DzA.repk I ds _ _ t r2 hs'.2 fun y hy => hz y (List.mem_cons_of_mem _ hy)
        refine ⟨as ++ cs, bs ++ es, .cons a1 b1, fun b hb => ?_, .cons ((a3.more fun b hb => List.mem_append_left _ hb).level_le (Nat.le_max_left _ _)) (b3.more_le (fun b hb => List.mem_append_right _ hb) (Nat.le_max_right _ _))⟩
        rcases List.mem_append.mp hb with hb | hb
        · obtain ⟨x, y, z1, z2⟩ := a2 b hb
          exact ⟨x, y, z1, Nat.le_trans z2 (Nat.le_max_left _ _)⟩
        · obtain ⟨x, y, z1, z2⟩ := b2 b hb
          exact ⟨x, y, z1, Nat.le_trans z2 (Nat.le_max_right _ _)⟩
end
/-- repr of a list that is not empty -/
def rReprZ (K : PySem.W.Frag) : List V → Hp → VK → Prop := fun xs H Q => ∃ (ex : Addr → Prop) (x : V) (d : PyData) (ds : List PyData), xs = [x] ∧ Dz K H ex x (.list (d :: ds)) ∧ (PyData.list (d :: ds)).showable = true ∧ (PyData.list (d :: ds)).depth ≤ 64 ∧ (PyData.list (d :: ds)).shown.length ≤ sizeLine ∧ Q (.str (PyData.list (d :: ds)).shown) H
theorem call_reprZ {X : Cx} (hgd : X.A.guards = some []) (hu : X.A.units + 80 < cLine) : CallR X (.builtin "repr") (rReprZ X.K) := by
  intro pins s σ H xs us Q I r h
  obtain ⟨ex, x, d, ds, rfl, hd, hs, hdp, hsz, q⟩ := h
  cases r with
  | @cons _ u _ _ ru rn =>
    cases rn
    cases hd with
    | @lst a xs _ h hn t =>
      cases ru
      obtain ⟨_, its, n, rv, e⟩ := (show ObjOk X.prog X.w H s.heap a (.lst xs) from I.hok a _ h)
      have hz1 : (listText (PyData.shownAll (d :: ds))).length ≤ sizeLine := hsz
      obtain ⟨as, bs, h1, h2, h3⟩ := DzA.repk I (d :: ds) xs its t rv hs fun y hy => Nat.le_trans (listText_mem_le hy) hz1
      have rd : Reads s.heap (.ref a) (.list (d :: ds)) (a :: as) := .list e rfl rfl h1
      have na : a ∉ bs := not_mem_of_deeper rd (Nat.lt_succ_self _) h2
      have hdp' : PyData.depthAll (d :: ds) + 1 ≤ 64 := hdp
      cases its with
      | nil => cases h1
      | cons x l =>
        refine call_repr_slot (by omega) ⟨_, e, rfl⟩ F.slot_list_repr.toG (call_list_reprK e rfl rfl na (by simpa using h3.length_eq) (fun i y z => h3.item i y (by simpa using z)) hgd (fun b _ => Clear.nil b) (by show X.A.units + 1 + (_ + 1) < cLine; omega) (fun _ _ z => z) (fun h' u tk hk => ⟨_, _, rfl, ?_⟩) hz1)
        exact ⟨.str (PyData.list (d :: ds)).shown, H, I.kept (t' := tk) hk, ⟨_, rfl⟩, q⟩
end
/-! ### how long what is shown is -/
theorem textFrom_le : ∀ (ts : List Str) (k : Nat) (acc : Str), (textFrom k acc ts).length ≤ acc.length + piled ts
  | [], k, acc => Nat.le_add_right _ _
  | t :: ts, k, acc => by
    have h := textFrom_le ts (k + 1) (acc ++ (if k > 0 then ", " else "" : String) ++ t)
    rw [strLen_append, strLen_append] at h
    rw [piled_cons]
    have e : textFrom k acc (t :: ts) = textFrom (k + 1) (acc ++ (if k > 0 then ", " else "" : String) ++ t) ts := rfl
    rw [e]
    have hc : (((if k > 0 then ", " else "" : String) : Str)).length ≤ 2 := by split <;> decide
    omega
theorem listText_le (ts : List Str) : (listText ts).length ≤ 2 + piled ts := by
  have h := textFrom_le ts 0 "["
  unfold listText
  rw [strLen_append]
  have h1 : (("[" : String) : Str).length = 1 := by decide
  have h2 : (("]" : String) : Str).length = 1 := by decide
  omega
theorem tupleText_le (ts : List Str) : (tupleText ts).length ≤ 3 + piled ts := by
  unfold tupleText
  rw [strLen_append, strLen_append]
  have h1 : (("(" : String) : Str).length = 1 := by decide
  have h2 : (((if ts.length == 1 then ",)" else ")" : String) : Str)).length ≤ 2 := by split <;> decide
  cases ts with
  | nil =>
    have h3 : (Str.join ", " []).length = 0 := by decide
    omega
  | cons t ts =>
    have h3 := join_length_add (t :: ts) (by simp)
    omega
theorem piled_le {ts : List Str} {b : Nat} (h : ∀ t ∈ ts, t.length ≤ b) : piled ts ≤ ts.length * (b + 2) := by
  induction ts with
  | nil => exact Nat.zero_le _
  | cons t ts ih =>
    rw [piled_cons, List.length_cons, Nat.succ_mul]
    have h1 := h t (List.mem_cons_self ..)
    have h2 := ih fun x hx => h x (List.mem_cons_of_mem _ hx)
    omega
/-- data that can be shown, of so many levels, no longer than b -/
structure Sm (d : PyData) (k b : Nat) : Prop where
  sh : d.showable = true
  dp : d.depth ≤ k
  sz : d.shown.length ≤ b
  ly : d.canLay0 = true
theorem Sm.mono {d : PyData} {k b k' b' : Nat} (h : Sm d k b) (hk : k ≤ k') (hb : b ≤ b') : Sm d k' b' := ⟨h.sh, Nat.le_trans h.dp hk, Nat.le_trans h.sz hb, h.ly⟩
theorem shownAll_len : ∀ ds : List PyData, (PyData.shownAll ds).length = ds.length
  | [] => by simp only [PyData.shownAll, List.length_nil]
  | d :: ds => by simp only [PyData.shownAll, List.length_cons, shownAll_len ds]
theorem shownAll_mem : ∀ {ds : List PyData} {t : Str}, t ∈ PyData.shownAll ds → ∃ d ∈ ds, t = d.shown
  | [], t, h => by simp only [PyData.shownAll] at h; exact nomatch h
  | d :: ds, t, h => by
    simp only [PyData.shownAll, List.mem_cons] at h
    rcases h with rfl | h
    · exact ⟨d, List.mem_cons_self .., rfl⟩
    · obtain ⟨x, hx, e⟩ := shownAll_mem h
      exact ⟨x, List.mem_cons_of_mem _ hx, e⟩
theorem sm_piled {ds : List PyData} {k b n : Nat} (h : ∀ d ∈ ds, Sm d k b) (hn : ds.length ≤ n) : piled (PyData.shownAll ds) ≤ n * (b + 2) := by
  have h1 := piled_le (ts := PyData.shownAll ds) (b := b) fun t ht => by
    obtain ⟨d, hd, rfl⟩ := shownAll_mem ht
    exact (h d hd).sz
  rw [shownAll_len] at h1
  exact Nat.le_trans h1 (Nat.mul_le_mul_right _ hn)
theorem sm_shs : ∀ {ds : List PyData} {k b : Nat}, (∀ d ∈ ds, Sm d k b) → PyData.showableAll ds = true
  | [], _, _, _ => by simp only [PyData.showableAll]
  | d :: ds, k, b, h => by simp only [PyData.showableAll, (h d (List.mem_cons_self ..)).sh, sm_shs fun x hx => h x (List.mem_cons_of_mem _ hx), Bool.and_self]
theorem sm_lys : ∀ {ds : List PyData} {k b : Nat}, (∀ d ∈ ds, Sm d k b) → PyData.canLayAll0 ds = true
  | [], _, _, _ => rfl
  | d :: ds, k, b, h => by
    show (PyData.canLay0 d && PyData.canLayAll0 ds) = true
    rw [(h d (List.mem_cons_self ..)).ly, sm_lys fun x hx => h x (List.mem_cons_of_mem _ hx)]
    rfl
theorem sm_dps : ∀ {ds : List PyData} {k b : Nat}, (∀ d ∈ ds, Sm d k b) → PyData.depthAll ds ≤ k
  | [], _, _, _ => Nat.zero_le _
  | d :: ds, k, b, h => by
    show max (PyData.depth d) (PyData.depthAll ds) ≤ k
    have h1 := (h d (List.mem_cons_self ..)).dp
    have h2 := sm_dps fun x hx => h x (List.mem_cons_of_mem _ hx)
    omega
theorem sm_list {ds : List PyData} {k b n c : Nat} (h : ∀ d ∈ ds, Sm d k b) (hn : ds.length ≤ n) (hc : 3 + n * (b + 2) ≤ c) : Sm (.list ds) (k + 1) c := by
  refine ⟨by simp only [PyData.showable]; exact sm_shs h, ?_, ?_, sm_lys h⟩
  · have := sm_dps h
    show PyData.depthAll ds + 1 ≤ k + 1
    omega
  · have h1 := listText_le (PyData.shownAll ds)
    have h2 := sm_piled h hn
    simp only [PyData.shown]
    omega
theorem sm_tup {ds : List PyData} {k b n c : Nat} (h : ∀ d ∈ ds, Sm d k b) (hn : ds.length ≤ n) (hc : 3 + n * (b + 2) ≤ c) : Sm (.tuple ds) (k + 1) c := by
  refine ⟨by simp only [PyData.showable]; exact sm_shs h, ?_, ?_, sm_lys h⟩
  · have := sm_dps h
    show PyData.depthAll ds + 1 ≤ k + 1
    omega
  · have h1 := tupleText_le (PyData.shownAll ds)
    have h2 := sm_piled h hn
    simp only [PyData.shown]
    omega
end Dz

set_option Elab.async false
set_option linter.all false
set_option maxRecDepth 100000
set_option maxHeartbeats 4000000
namespace Cs
open PySem PySem.Spec PyProof.Rows L2 BX EXB Co Ru
open Dz
open Fr (Bd)
def itemsD : PyData → List PyData
  | .list ds => ds
  | _ => []
def spWholeZ (K : PySem.W.Frag) : Sp := fun vs H Q _ => ∃ (ex : Addr → Prop) (v : V) (d : PyData), vs = [v] ∧ Dz.Dz K H ex v d ∧ Q (.bl (isI d)) H
def spIsRZ (K : PySem.W.Frag) : Sp := fun vs H Q _ => ∃ (ex : Addr → Prop) (v : V) (d : PyData), vs = [v] ∧ Dz.Dz K H ex v d ∧ Q (.bl (ratD d).isSome) H
def spShareZ (K : PySem.W.Frag) : Sp := fun vs H Q _ => ∃ (ex : Addr → Prop) (v : V) (d : PyData), vs = [v] ∧ Dz.Dz K H ex v d ∧ Q (.bl (shD d)) H
def spListOfZ (K : PySem.W.Frag) : Sp := fun vs H Q _ => ∃ (ex : Addr → Prop) (v : V) (d : PyData) (lo hi : Int), vs = [v, .int lo, .int hi] ∧ Dz.Dz K H ex v d ∧ Q (.bl (lenOk (lenD d) lo hi)) H
def rowOkZ (d : PyData) (lo hi : Int) : Bool := lenOk (lenD d) lo hi && (itemsD d).all fun e => (ratD e).isSome
def firstWrongZ : List PyData → Nat → Int → Int → Option Nat
  | [], _, _, _ => none
  | d :: ds, j, lo, hi => if rowOkZ d lo hi = true then firstWrongZ ds (j + 1) ((itemsD d).length : Int) ((itemsD d).length : Int) else some j
theorem firstWrongZ_drop {ds : List PyData} {i : Nat} {d : PyData} {lo hi : Int} (h : ds[i]? = some d) : firstWrongZ (ds.drop i) i lo hi = if rowOkZ d lo hi = true then firstWrongZ (ds.drop (i + 1)) (i + 1) ((itemsD d).length : Int) ((itemsD d).length : Int) else some i := by
  have hi' : i < ds.length := (List.getElem?_eq_some_iff.mp h).1
  have e : ds[i] = d := (List.getElem?_eq_some_iff.mp h).2
  rw [List.drop_eq_getElem_cons hi', e, firstWrongZ]
def spRowZ (K : PySem.W.Frag) : Sp := fun vs H Q _ => ∃ (ex : Addr → Prop) (v : V) (d : PyData) (lo hi : Int), vs = [v, .int lo, .int hi] ∧ Dz.Dz K H ex v d ∧ hi ≤ 6 ∧ ∀ H', Same H H' → Q (.bl (rowOkZ d lo hi)) H'
def optI : Option Nat → V
  | none => .non
  | some j => .int (j : Nat)
def spWrongZ (K : PySem.W.Frag) (fR : Addr) : Sp := fun vs H Q _ => ∃ (ex : Addr → Prop) (a : Addr) (rs : List V) (ds : List PyData) (lo hi : Int), vs = [.ref a, .ref fR, .int lo, .int hi] ∧ H a = some (.lst rs) ∧ DzA K H ex rs ds ∧ hi ≤ 6 ∧ ∀ H', Same H H' → Q (optI (firstWrongZ ds 0 lo hi)) H'
def firstNot (p : PyData → Bool) : List PyData → Nat → Option Nat
  | [], _ => none
  | d :: ds, j => if p d = true then firstNot p ds (j + 1) else some j
theorem firstNot_drop {p : PyData → Bool} {ds : List PyData} {i : Nat} {d : PyData} (h : ds[i]? = some d) : firstNot p (ds.drop i) i = if p d = true then firstNot p (ds.drop (i + 1)) (i + 1) else some i := by
  have hi' : i < ds.length := (List.getElem?_eq_some_iff.mp h).1
  have e : ds[i] = d := (List.getElem?_eq_some_iff.mp h).2
  rw [List.drop_eq_getElem_cons hi', e, firstNot]
theorem firstNot_all {p : PyData → Bool} : ∀ {ds : List PyData} {j : Nat}, firstNot p ds j = none → ds.all p = true
  | [], _, _ => rfl
  | d :: ds, j, h => by
    rw [firstNot] at h
    split at h
    · rename_i c
      rw [List.all_cons, c, firstNot_all h]
      rfl
    · cases h
def numS : Option Nat → Rat → Option V
  | some j, _ => some (.int (j : Nat))
  | none, s => if s = 1 then none else some .non
/-- what is wrong with shares: its number -/
def badS (d : PyData) : Option V := if lenOk (lenD d) 1 5 = true then numS (firstNot shD (itemsD d) 0) (sumD (itemsD d)) else some .non
def badG (d : PyData) (ww lo hi : Int) : Option V := if lenOk (lenD d) ww ww = true then (firstWrongZ (itemsD d) 0 lo hi).map fun j => V.int (j : Nat) else some .non
def deedsD (d : PyData) : Nat := (itemsD ((itemsD d).headD .none)).length
def orP (p : Str) (o : Option V) (r : Option (Str × V)) : Option (Str × V) :=
  match o with
  | some n => some (p, n)
  | none => r
def badC (ds dh dt : PyData) : Option (Str × V) := orP "shares" (badS ds) (orP "hearer" (badG dh ((itemsD ds).length : Int) 1 6) (orP "teller" (badG dt ((itemsD ds).length : Int) (deedsD dh : Int) (deedsD dh : Int)) none))
/-- fractions of few figures -/
def Few (n : Nat) (ds : List PyData) : Prop := ∀ d ∈ ds, ∀ q, ratD d = some q → Bd n q
def spChkS (K : PySem.W.Frag) (CN : Addr) : Sp := fun vs H Q E => ∃ (ex : Addr → Prop) (v : V) (d : PyData), vs = [v] ∧ Dz.Dz K H ex v d ∧ Few 1000 (itemsD d) ∧
  (∀ r, badS d = some r → ∀ H' dd, Same H H' → H' dd = some (.xd [("number", r), ("part", .str "shares")]) → E (.ref CN) (some dd) H') ∧ (badS d = none → ∀ H', Same H H' → Q .non H')
def spChkG (K : PySem.W.Frag) (CN : Addr) : Sp := fun vs H Q E => ∃ (ex : Addr → Prop) (pt : Str) (v : V) (d : PyData) (ww lo hi : Int), vs = [.str pt, v, .int ww, .int lo, .int hi] ∧ Dz.Dz K H ex v d ∧ hi ≤ 6 ∧
  (∀ r, badG d ww lo hi = some r → ∀ H' dd, Same H H' → H' dd = some (.xd [("number", r), ("part", .str pt)]) → E (.ref CN) (some dd) H') ∧ (badG d ww lo hi = none → ∀ H', Same H H' → Q .non H')
/-- a case that stands -/
def IsCase (K : PySem.W.Frag) (H : Hp) (C x : Addr) (qs : List Rat) (hss tss : List (List Rat)) (n : Nat) : Prop := ∃ (dx sa ha ta : Addr) (cs : List V) (rh rt : List Addr), H x = some (.ins C dx [("own_shares", .ref sa), ("own_hearer", .ref ha), ("own_teller", .ref ta)]) ∧ H sa = some (.lst cs) ∧ FrN K H n cs qs ∧ RwL K H ha rh hss n ∧ RwL K H ta rt tss n
theorem IsCase.same {K : PySem.W.Frag} {H H' : Hp} {C x : Addr} {qs : List Rat} {hss tss : List (List Rat)} {n : Nat} (h : IsCase K H C x qs hss tss n) (s : Same H H') : IsCase K H' C x qs hss tss n :=
  let ⟨dx, sa, ha, ta, cs, rh, rt, e1, e2, e3, e4, e5⟩ := h; ⟨dx, sa, ha, ta, cs, rh, rt, s _ _ e1, s _ _ e2, e3.same s, e4.same s, e5.same s⟩
abbrev dS (qs : List Rat) : PyData := .list (qs.map dR)
/-- good parts of a case -/
structure GoodC (qs : List Rat) (hss tss : List (List Rat)) (ww dd : Nat) : Prop where
  w1 : 1 ≤ ww
  w5 : ww ≤ 5
  d1 : 1 ≤ dd
  d6 : dd ≤ 6
  sh : RowOk ww qs
  hl : hss.length = ww
  tl : tss.length = ww
  hr : ∀ r ∈ hss, r.length = dd
  tr : ∀ r ∈ tss, r.length = dd
theorem lenOk_iff {n : Nat} {lo hi : Int} : lenOk (some n) lo hi = true ↔ lo ≤ (n : Int) ∧ (n : Int) ≤ hi := by
  show (decide _ && decide _) = true ↔ _
  rw [Bool.and_eq_true, decide_eq_true_eq, decide_eq_true_eq]
theorem lenOk_list {d : PyData} {lo hi : Int} (h : lenOk (lenD d) lo hi = true) : ∃ ds, d = .list ds ∧ lo ≤ (ds.length : Int) ∧ (ds.length : Int) ≤ hi := by
  cases d with
  | list ds => exact ⟨ds, rfl, lenOk_iff.mp h⟩
  | _ => cases h
theorem all_dR (qs : List Rat) : (qs.map dR).all (fun e => (ratD e).isSome) = true := by
  rw [List.all_eq_true]
  intro d hd
  obtain ⟨q, _, rfl⟩ := List.mem_map.mp hd
  rw [ratD_dR]
  rfl
theorem shD_dR (q : Rat) : shD (dR q) = decide (0 ≤ q.num) := by
  unfold shD
  rw [ratD_dR]
theorem sumD_dR (qs : List Rat) : sumD (qs.map dR) = qs.sum := by
  unfold sumD
  rw [List.map_map]
  congr 1
  have : ((fun d => (ratD d).getD 0) ∘ dR) = id := by
    funext q
    show (ratD (dR q)).getD 0 = q
    rw [ratD_dR]
    rfl
  rw [this, List.map_id]
theorem firstNot_good {qs : List Rat} (h : ∀ q ∈ qs, 0 ≤ q) : ∀ {j : Nat}, firstNot shD (qs.map dR) j = none := by
  induction qs with
  | nil => intro j; rfl
  | cons q qs ih =>
    intro j
    show firstNot shD (dR q :: qs.map dR) j = none
    rw [firstNot, if_pos (by rw [shD_dR]; exact decide_eq_true (Rat.num_nonneg.mpr (h q (List.mem_cons_self ..))))]
    exact ih fun x hx => h x (List.mem_cons_of_mem _ hx)
theorem badS_good {qs : List Rat} {ww : Nat} (h : RowOk ww qs) (h1 : 1 ≤ ww) (h5 : ww ≤ 5) : badS (dS qs) = none := by
  unfold badS
  have e : lenOk (lenD (dS qs)) 1 5 = true := lenOk_iff.mpr (by rw [List.length_map, h.1]; omega)
  rw [if_pos e]
  show numS (firstNot shD (qs.map dR) 0) (sumD (qs.map dR)) = none
  rw [firstNot_good h.2.1, sumD_dR, h.2.2]
  rfl
theorem fwz_good {dd : Nat} : ∀ (rss : List (List Rat)) (j : Nat) (lo hi : Int), (∀ r ∈ rss, r.length = dd) → lo ≤ (dd : Int) → (dd : Int) ≤ hi → firstWrongZ (rss.map fun qs => .list (qs.map dR)) j lo hi = none
  | [], _, _, _, _, _, _ => rfl
  | q :: rss, j, lo, hi, h, h1, h2 => by
    have hq := h q (List.mem_cons_self ..)
    have c : rowOkZ (.list (q.map dR)) lo hi = true := by
      unfold rowOkZ
      have e : lenOk (lenD (.list (q.map dR))) lo hi = true := lenOk_iff.mpr (by rw [List.length_map, hq]; exact ⟨h1, h2⟩)
      rw [e]
      exact all_dR q
    show firstWrongZ (.list (q.map dR) :: rss.map fun qs => .list (qs.map dR)) j lo hi = none
    rw [firstWrongZ, if_pos c]
    have e : ((itemsD (.list (q.map dR))).length : Int) = (dd : Int) := by
      show ((q.map dR).length : Int) = _
      rw [List.length_map, hq]
    rw [e]
    exact fwz_good rss _ _ _ (fun r hr => h r (List.mem_cons_of_mem _ hr)) (Int.le_refl _) (Int.le_refl _)
theorem badG_good {rss : List (List Rat)} {ww dd : Nat} {lo hi : Int} (hl : rss.length = ww) (hr : ∀ r ∈ rss, r.length = dd) (h1 : lo ≤ (dd : Int)) (h2 : (dd : Int) ≤ hi) : badG (dRows rss) (ww : Int) lo hi = none := by
  unfold badG
  have e : lenOk (lenD (dRows rss)) (ww : Int) (ww : Int) = true := lenOk_iff.mpr (by rw [List.length_map, hl]; omega)
  rw [if_pos e]
  show (firstWrongZ (rss.map fun qs => .list (qs.map dR)) 0 lo hi).map _ = none
  rw [fwz_good rss 0 lo hi hr h1 h2]
  rfl
theorem badC_good {qs : List Rat} {hss tss : List (List Rat)} {ww dd : Nat} (g : GoodC qs hss tss ww dd) : badC (dS qs) (dRows hss) (dRows tss) = none := by
  have e0 := badS_good g.sh g.w1 g.w5
  have el : ((itemsD (dS qs)).length : Int) = (ww : Int) := by
    show ((qs.map dR).length : Int) = _
    rw [List.length_map, g.sh.1]
  have ed : deedsD (dRows hss) = dd := by
    have := g.w1
    have := g.hl
    cases hss with
    | nil => simp at this; omega
    | cons r hss =>
      show (r.map dR).length = dd
      rw [List.length_map]
      exact g.hr r (List.mem_cons_self ..)
  have h1 := g.d1
  have h6 := g.d6
  unfold badC
  rw [e0]
  rw [el, badG_good g.hl g.hr (by omega) (by omega), ed, badG_good g.tl g.tr (Int.le_refl _) (Int.le_refl _)]
  rfl
/-- rows that are let by are rows of fractions -/
theorem rows_of {K : PySem.W.Frag} {H : Hp} {ex : Addr → Prop} {n : Nat} : ∀ {ds : List PyData} {vs : List V} {j : Nat} {lo hi : Int}, DzA K H ex vs ds → (∀ d ∈ ds, Few n (itemsD d)) → firstWrongZ ds j lo hi = none → ∃ rs rss, vs = rs.map V.ref ∧ ds = rss.map (fun qs => PyData.list (qs.map dR)) ∧ RowsAt K H n rs rss
  | [], _, _, _, _, h, _, _ => by cases h; exact ⟨[], [], rfl, rfl, RowsAt.nil⟩
  | d :: ds, _, j, lo, hi, h, hf, e => by
    cases h with
    | @cons v vs _ _ h t =>
      rw [firstWrongZ] at e
      split at e
      · rename_i c
        obtain ⟨rs, rss, e1, e2, e3⟩ := rows_of t (fun x hx => hf x (List.mem_cons_of_mem _ hx)) e
        unfold rowOkZ at c
        rw [Bool.and_eq_true] at c
        obtain ⟨es, rfl, _, _⟩ := lenOk_list c.1
        cases h with
        | @lst a cs _ h hn ts =>
          obtain ⟨qs, f1, f2⟩ := ts.rats (n := n) (hf _ (List.mem_cons_self ..)) c.2
          refine ⟨a :: rs, qs :: rss, by rw [e1]; rfl, by rw [e2, f1]; rfl, ⟨by rw [List.length_cons, List.length_cons, e3.1], fun j x e => ?_⟩⟩
          cases j with
          | zero => cases (Option.some.inj e); exact ⟨cs, qs, rfl, h, f2⟩
          | succ j => exact e3.2 j x e
      · cases e
/-- Case(shares, hearer, teller), of any things -/
def spCInit (K : PySem.W.Frag) (C CN : Addr) : Sp := fun vs H Q E => ∃ (ex : Addr → Prop) (n : Nat) (x dx : Addr) (vs0 vh vt : V) (ds dh dt : PyData), vs = [.ref x, vs0, vh, vt] ∧ H x = some (.ins C dx []) ∧ Dz.Dz K H ex vs0 ds ∧ Dz.Dz K H ex vh dh ∧ Dz.Dz K H ex vt dt ∧
  n ≤ 1000 ∧ Few n (itemsD ds) ∧ (∀ d ∈ itemsD dh, Few n (itemsD d)) ∧ (∀ d ∈ itemsD dt, Few n (itemsD d)) ∧
  (∀ p r, badC ds dh dt = some (p, r) → ∀ H' dd, Same H H' → H' dd = some (.xd [("number", r), ("part", .str p)]) → E (.ref CN) (some dd) H') ∧
  (badC ds dh dt = none → ∀ sa ha ta cs rh rt qs hss tss H', (∀ b ob, b ≠ x → H b = some ob → H' b = some ob) → H' x = some (.ins C dx [("own_shares", .ref sa), ("own_hearer", .ref ha), ("own_teller", .ref ta)]) → H' sa = some (.lst cs) → FrN K H' n cs qs → RwL K H' ha rh hss n → RwL K H' ta rt tss n →
    ds = dS qs → dh = dRows hss → dt = dRows tss → Q .non H')
end Cs

set_option Elab.async false
set_option linter.all false
set_option maxRecDepth 100000
set_option maxHeartbeats 4000000
namespace Lw
open PySem PySem.Spec PyProof.Rows L2 BX EXB Co Ru
open Dz Cs
open Fr (Bd)
def spGain (K : PySem.W.Frag) : Sp := fun vs H Q _ => ∃ (l : Addr) (z : Int), vs = [.ref l] ∧ H l = some (.lst [.int z]) ∧ ∀ p q z' H', SameB l H H' → H' l = some (.lst [.int z']) → SqT K H' p (rp q) → Bd 8 q → Q (.ref p) H'
def spGains (K : PySem.W.Frag) : Sp := fun vs H Q _ => ∃ (l : Addr) (z : Int) (ww dd : Nat), vs = [.ref l, .int (ww : Int), .int (dd : Int)] ∧ H l = some (.lst [.int z]) ∧ ww ≤ 5 ∧ dd ≤ 6 ∧
  ∀ D rs rss z' H', New K H H' l D rs rss 8 → D ≠ l → H' l = some (.lst [.int z']) → rss.length = ww → (∀ r ∈ rss, r.length = dd) → Q (.ref D) H'
/-- the law's parts of a case -/
def PartsAt (K : PySem.W.Frag) (H : Hp) (P : Addr) (qs : List Rat) (hss tss : List (List Rat)) : Prop := ∃ (A B C : Addr) (cs : List V) (rh rt : List Addr), H P = some (.lst [.ref A, .ref B, .ref C]) ∧ H A = some (.lst cs) ∧ FrN K H 8 cs qs ∧ RwL K H B rh hss 8 ∧ RwL K H C rt tss 8
theorem PartsAt.same {K : PySem.W.Frag} {H H' : Hp} {P : Addr} {qs : List Rat} {hss tss : List (List Rat)} (h : PartsAt K H P qs hss tss) (s : Same H H') : PartsAt K H' P qs hss tss :=
  let ⟨A, B, C, cs, rh, rt, e1, e2, e3, e4, e5⟩ := h; ⟨A, B, C, cs, rh, rt, s _ _ e1, s _ _ e2, e3.same s, e4.same s, e5.same s⟩
theorem frn_num {K : PySem.W.Frag} {H : Hp} {n : Nat} {z : Int} {qs : List Rat} (h : FrN K H n [.int z] qs) : False := by
  obtain ⟨a, q, _, e, _⟩ := h.at_ 0 _ rfl
  cases e
theorem PartsAt.but {K : PySem.W.Frag} {H H' : Hp} {P l : Addr} {z : Int} {qs : List Rat} {hss tss : List (List Rat)} (h : PartsAt K H P qs hss tss) (hl : H l = some (.lst [.int z])) (s : SameB l H H') : PartsAt K H' P qs hss tss := by
  obtain ⟨A, B, C, cs, rh, rt, e1, e2, e3, e4, e5⟩ := h
  refine ⟨A, B, C, cs, rh, rt, s _ _ (fun e => ?_) e1, s _ _ (fun e => ?_) e2, e3.keep (s.tup hl), Rs.RwL.keepB e4 hl s, Rs.RwL.keepB e5 hl s⟩
  · rw [e, hl] at e1
    cases e1
  · rw [e, hl] at e2
    cases e2
    exact frn_num e3
def spParts (K : PySem.W.Frag) : Sp := fun vs H Q _ => ∃ (l : Addr) (z : Int) (mw md : Nat), vs = [.ref l, .int (mw : Int), .int (md : Int)] ∧ H l = some (.lst [.int z]) ∧ 1 ≤ mw ∧ mw ≤ 5 ∧ 1 ≤ md ∧ md ≤ 6 ∧
  ∀ P qs hss tss ww dd z' H', SameB l H H' → H' l = some (.lst [.int z']) → PartsAt K H' P qs hss tss → GoodC qs hss tss ww dd → ww ≤ mw → dd ≤ md → H P = none → P ≠ l → Q (.ref P) H'
theorem bd_one : Bd 8 (1 : Rat) := ⟨by decide, by decide⟩
theorem bd_nul : Bd 8 (0 : Rat) := ⟨by decide, by decide⟩
theorem tab5 {d : Int} (h0 : 0 ≤ d) (h5 : d < 5) : ∃ v : Int, atI [V.int 1, V.int 1, V.int 1, V.int 2, V.int 3] d = some (V.int v) ∧ 1 ≤ v ∧ v ≤ 3 := by
  have : d = 0 ∨ d = 1 ∨ d = 2 ∨ d = 3 ∨ d = 4 := by omega
  rcases this with rfl | rfl | rfl | rfl | rfl
  · exact ⟨1, atI_nat (j := 0) rfl, by decide, by decide⟩
  · exact ⟨1, atI_nat (j := 1) rfl, by decide, by decide⟩
  · exact ⟨1, atI_nat (j := 2) rfl, by decide, by decide⟩
  · exact ⟨2, atI_nat (j := 3) rfl, by decide, by decide⟩
  · exact ⟨3, atI_nat (j := 4) rfl, by decide, by decide⟩
end Lw

set_option Elab.async false
set_option linter.all false
set_option maxRecDepth 100000
set_option maxHeartbeats 4000000
namespace Hr
open PySem PySem.Spec PyProof.Rows L2 BX EXB Co Ru
open Dz Cs
open Fr (Bd)
/-! ### a def's promise, asked of less -/
theorem less {P : Program} {w : World} {K : PySem.W.Frag} {mg : Str → Option Value} {base : Heap} {CX : CXT} {k : Nat} {f : Addr} {fd : FuncData} {ps : List Str} {sp sp' : Sp} (F : FnOk P w K mg base CX k f fd ps sp) (h : ∀ vs H Q E, sp' vs H Q E → sp vs H Q E) : FnOk P w K mg base CX k f fd ps sp' :=
  ⟨fun vs H Q E z => F.len vs H Q E (h _ _ _ _ z), fun A outer s H args us vs Q E hr e b r z => F.run A outer s H args us vs Q E hr e b r (h _ _ _ _ z)⟩
/-! ### calls by names -/
section
variable {X : Cx} {CX : CXT} {k : Nat} {f : Addr} {fd : FuncData} {ps ks : List Str} {sp : Sp} {E : XK} {x : Str} {p pos : Pos} {kws : List Keyword} {tk : TA} {g : List Value → List Value → List Value} {gV : List V → List V → List V}
/-- f(k = v, ..), by names alone -/
theorem pe_callN0 (F : FnOk X.prog X.w X.K X.mg X.base CX k f fd ps sp) (hr : Room k X.A) (hg : Gl X x) (hm : X.mg x = some (.ref f)) (hk : PySem.W.keepIn X.K (.ref f) = true) (hb : KBn X.K fd ps 0 ks g gV) (hx : Passes CX X E)
    (hkw : PK X kws tk) (hall : (backToKw pos (keywordEach kws X.env)).all (·.1.isSome) = true := by rfl) (hks : (backToKw pos (keywordEach kws X.env)).filterMap (·.1) = ks := by rfl)
    (hdb : (x == ("__debug__" : Str)) = false := by decide) (hpl : ((backTo pos (starEach [] X.env)).any (·.1) || (backToKw pos (keywordEach kws X.env)).any (·.1.isNone)) = false := by rfl) :
    PE X (.Call (.Name x p) [] kws pos) (tCallN 0 ks.length sp gV E tNil tk) := by
  constructor
  intro pins s σ H Q I h
  apply wpAny_Call_Name_kw
  apply ld_glob I hg hm _ hdb
  apply PySem.W.callWith_KW0 (h₀ := X.base) I.ok.mod.kin hk hall _ hpl
  refine thn (hkw.run pos pins s σ H _ I h) ?_
  rintro ws s2 ⟨zs, H2, I2, rz, l1, l2, q2⟩
  rw [hks]
  exact ⟨I2.kIn, run_fnN F hr hb hx I2 .nil rz l1 l2 q2⟩
end
theorem kbn_of {K : PySem.W.Frag} {x qual : Str} {st : Stmt} {f : Addr} {fd : FuncData} {ps ks : List Str} {n : Nat} (g : {α : Type} → List α → List α → List α) (F : Fun K x qual st f fd)
    (hrel : ∀ {vs : List V} {us : List Value} {zs : List V} {ws : List Value}, Vals vs us → Vals zs ws → Vals (g vs zs) (g us ws))
    (h : ∀ (kV doc pm : Value) (an : Option Addr) (cdv ct : Value) (us ws : List Value), us.length = n → ws.length = ks.length → bindArgs (PySem.W.fnOf x qual (defArgs st) (defBody st) (defScope st) .none kV doc pm an cdv ct) ⟨us, ks.zip ws⟩ = pure (ps.zip (g us ws))) : KBn K fd ps n ks g g := by
  obtain ⟨oc, od, kV, doc, pm, an, cdv, ct, osl, rfl, lk, hcd⟩ := F.ex
  exact ⟨fun s us ws _ l1 l2 => .of_eq (h kV doc pm an cdv ct us ws l1 l2), hrel⟩
/-- first the values, then the names' -/
def gA : {α : Type} → List α → List α → List α := fun us ws => us ++ ws
theorem gA_rel {vs : List V} {us : List Value} {zs : List V} {ws : List Value} (a : Vals vs us) (b : Vals zs ws) : Vals (gA vs zs) (gA us ws) := a.append b
/-! ### numbers -/
theorem bd_sum {n : Nat} : ∀ {qs : List Rat}, (∀ q ∈ qs, Bd n q) → Bd ((n + 1) * qs.length + 1) qs.sum
  | [], _ => ⟨by show (0 : Int).natAbs < 2 ^ 1; decide, by show 1 < 2 ^ 1; decide⟩
  | q :: qs, h => by
    rw [List.sum_cons, List.length_cons]
    exact (Fr.bd_add (h q (List.mem_cons_self ..)) (bd_sum fun x hx => h x (List.mem_cons_of_mem _ hx))).mono (by rw [Nat.mul_succ]; omega)
theorem frn_get {K : PySem.W.Frag} {H : Hp} {n : Nat} {cs : List V} {qs : List Rat} (h : FrN K H n cs qs) {i : Nat} {q : Rat} (e : qs[i]? = some q) : ∃ a, cs[i]? = some (.ref a) ∧ SqT K H a (rp q) ∧ Bd n q := by
  have hi : i < cs.length := by
    rw [h.len]
    exact (List.getElem?_eq_some_iff.mp e).1
  obtain ⟨a, q', e1, e2, e3, e4⟩ := h.at_ i _ (List.getElem?_eq_getElem hi)
  rw [e] at e1
  cases e1
  exact ⟨a, by rw [List.getElem?_eq_getElem hi, e2], e3, e4⟩
theorem frn_bd {K : PySem.W.Frag} {H : Hp} {n : Nat} {cs : List V} {qs : List Rat} (h : FrN K H n cs qs) : ∀ q ∈ qs, Bd n q := fun q hq => by
  obtain ⟨i, hi, e⟩ := List.getElem_of_mem hq
  obtain ⟨_, _, _, b⟩ := frn_get h (show qs[i]? = some q by rw [List.getElem?_eq_getElem hi, e])
  exact b
theorem lt_iff' (a b : Rat) : decide (a.num * b.den < b.num * a.den) = decide (a < b) := by
  have := Rat.lt_iff a b
  simp only [this]
/-! ### what deeds are worth -/
def prods (rss : List (List Rat)) (ws : List Rat) (d : Nat) : List Rat := List.zipWith (fun w r => w * r.getD d 0) ws rss
def wq (rss : List (List Rat)) (ws : List Rat) (d : Nat) : Rat := (prods rss ws d).sum
theorem prods_at {rss : List (List Rat)} {ws : List Rat} {d i : Nat} {q : Rat} {r : List Rat} (h1 : ws[i]? = some q) (h2 : rss[i]? = some r) : (prods rss ws d)[i]? = some (q * r.getD d 0) := by
  unfold prods
  rw [List.getElem?_zipWith, h1, h2]
theorem prods_len {rss : List (List Rat)} {ws : List Rat} {d : Nat} (h : ws.length = rss.length) : (prods rss ws d).length = ws.length := by
  unfold prods
  rw [List.length_zipWith]
  omega
/-- a table of gains by weights -/
def spWorth (K : PySem.W.Frag) : Sp := fun vs H Q _ => ∃ (a b : Addr) (d : Nat) (rs : List Addr) (rss : List (List Rat)) (cs : List V) (ws : List Rat) (n m dd : Nat), vs = [.ref a, .ref b, .int (d : Int)] ∧ RwL K H a rs rss n ∧ SqL K H b cs ∧ FrN K H m cs ws ∧ ws.length = rss.length ∧ rss.length ≤ 5 ∧ (∀ r ∈ rss, r.length = dd) ∧ d < dd ∧ n ≤ 280 ∧ m ≤ 280 ∧
  ∀ p H', Same H H' → SqT K H' p (rp (wq rss ws d)) → Bd ((n + m + 1) * 5 + 1) (wq rss ws d) → Q (.ref p) H'
theorem bd_wq {K : PySem.W.Frag} {H : Hp} {a : Addr} {rs : List Addr} {rss : List (List Rat)} {cs : List V} {ws : List Rat} {n m d : Nat} (h1 : RwL K H a rs rss n) (h2 : FrN K H m cs ws) (hd : ∀ r ∈ rss, d < r.length) (hl : ws.length = rss.length) (h5 : rss.length ≤ 5) : (∀ q ∈ prods rss ws d, Bd (n + m) q) ∧ Bd ((n + m + 1) * 5 + 1) (wq rss ws d) := by
  have hb : ∀ q ∈ prods rss ws d, Bd (n + m) q := fun q hq => by
    unfold prods at hq
    obtain ⟨i, hi, e⟩ := List.getElem_of_mem hq
    rw [List.length_zipWith] at hi
    have hw : i < ws.length := by omega
    have hr : i < rss.length := by omega
    have e2 : (List.zipWith (fun w r => w * r.getD d 0) ws rss)[i]? = some (ws[i] * rss[i].getD d 0) := prods_at (List.getElem?_eq_getElem hw) (List.getElem?_eq_getElem hr)
    have eq : q = ws[i] * rss[i].getD d 0 := by
      rw [← e]
      have := List.getElem?_eq_some_iff.mp e2
      exact this.2
    rw [eq]
    have b1 := frn_bd h2 ws[i] (List.getElem_mem hw)
    have hrs : i < rs.length := by rw [h1.2.1]; exact hr
    obtain ⟨cs', qs, f1, f2, f3⟩ := h1.2.2 i rs[i] (List.getElem?_eq_getElem hrs)
    rw [List.getElem?_eq_getElem hr] at f1
    cases f1
    have hdl := hd rss[i] (List.getElem_mem hr)
    have b2 : Bd n (rss[i].getD d 0) := by
      rw [List.getD_eq_getElem?_getD, List.getElem?_eq_getElem hdl]
      exact frn_bd f3 _ (List.getElem_mem hdl)
    exact (Fr.bd_mul b1 b2).mono (by omega)
  refine ⟨hb, (bd_sum hb).mono ?_⟩
  have : (prods rss ws d).length ≤ 5 := by rw [prods_len hl]; omega
  have := Nat.mul_le_mul_left (n + m + 1) this
  omega
/-! ### the greatest -/
def spGreatest (K : PySem.W.Frag) : Sp := fun vs H Q _ => ∃ (a : Addr) (cs : List V) (qs : List Rat) (n : Nat), vs = [.ref a] ∧ SqL K H a cs ∧ FrN K H n cs qs ∧ qs ≠ [] ∧ n ≤ 4400 ∧
  ∀ (i : Nat) (p : Addr) (q : Rat), cs[i]? = some (.ref p) → qs[i]? = some q → SqT K H p (rp q) → (∀ x ∈ qs, x ≤ q) → Q (.ref p) H
/-! ### good things alone -/
def spWithin : Sp := fun vs H Q _ => ∃ i lo hi : Int, vs = [.int i, .int lo, .int hi] ∧ Q (.bl (decide (lo ≤ i) && decide (i ≤ hi))) H
def spWholeI : Sp := fun vs H Q _ => ∃ i : Int, vs = [.int i] ∧ Q (.bl true) H
def spShare (K : PySem.W.Frag) : Sp := fun vs H Q _ => ∃ (a : Addr) (q : Rat), vs = [.ref a] ∧ SqT K H a (rp q) ∧ 0 ≤ q ∧ Q (.bl true) H
def spListOf (K : PySem.W.Frag) : Sp := fun vs H Q _ => ∃ (a : Addr) (xs : List V) (lo hi : Int), vs = [.ref a, .int lo, .int hi] ∧ H a = some (.lst xs) ∧ Q (.bl (decide (lo ≤ (xs.length : Int)) && decide ((xs.length : Int) ≤ hi))) H
def spShRow (K : PySem.W.Frag) : Sp := fun vs H Q _ => ∃ (r : Addr) (cs : List V) (qs : List Rat) (n m : Nat) (lo hi : Int), vs = [.ref r, .int lo, .int hi] ∧ H r = some (.lst cs) ∧ FrN K H n cs qs ∧ RowOk m qs ∧ m ≤ 30 ∧ n ≤ 280 ∧ lo ≤ (m : Int) ∧ (m : Int) ≤ hi ∧ ∀ H', Same H H' → Q (.bl true) H'
def spWrong (K : PySem.W.Frag) (fR : Addr) : Sp := fun vs H Q _ => ∃ (a : Addr) (rs : List Addr) (rss : List (List Rat)) (n m : Nat), vs = [.ref a, .ref fR, .int 1, .int 30] ∧ RwL K H a rs rss n ∧ Good rss m ∧ n ≤ 280 ∧ ∀ H', Same H H' → Q .non H'
section
variable {P : Program} {w : World} {K : PySem.W.Frag} {mg : Str → Option Value} {base : Heap} {k : Nat} {f : Addr} {fd : FuncData} {ps : List Str}
theorem wholeI (F : FnOk P w K mg base CX0 k f fd ps (spWholeZ K)) : FnOk P w K mg base CX0 k f fd ps spWholeI := less F fun vs H Q E ⟨i, e, q⟩ => ⟨fun _ => False, .int i, .int i, e, .int i, q⟩
theorem shareG (F : FnOk P w K mg base CX0 k f fd ps (spShareZ K)) : FnOk P w K mg base CX0 k f fd ps (spShare K) := less F fun vs H Q E ⟨a, r, e, ha, h0, q⟩ => ⟨fun _ => False, .ref a, dR r, e, dz_dR ha, by
  rw [shD_dR, decide_eq_true (Rat.num_nonneg.mpr h0)]
  exact q⟩
end
/-! ### what a case tells -/
def spCWorlds (K : PySem.W.Frag) (C : Addr) : Sp := fun vs H Q _ => ∃ (x : Addr) (qs : List Rat) (hss tss : List (List Rat)) (n : Nat), vs = [.ref x] ∧ IsCase K H C x qs hss tss n ∧ Q (.int (qs.length : Int)) H
def spCDeeds (K : PySem.W.Frag) (C : Addr) : Sp := fun vs H Q _ => ∃ (x : Addr) (qs : List Rat) (hss tss : List (List Rat)) (n ww dd : Nat), vs = [.ref x] ∧ IsCase K H C x qs hss tss n ∧ GoodC qs hss tss ww dd ∧ Q (.int (dd : Int)) H
def spCShares (K : PySem.W.Frag) (C : Addr) : Sp := fun vs H Q _ => ∃ (x : Addr) (qs : List Rat) (hss tss : List (List Rat)) (n : Nat), vs = [.ref x] ∧ IsCase K H C x qs hss tss n ∧ ∀ p cs, H p = none → FrN K H n cs qs → Q (.ref p) (upd H p (.lst cs))
def spCHearer (K : PySem.W.Frag) (C : Addr) : Sp := fun vs H Q _ => ∃ (x : Addr) (qs : List Rat) (hss tss : List (List Rat)) (n : Nat), vs = [.ref x] ∧ IsCase K H C x qs hss tss n ∧ hss.length ≤ 100 ∧ ∀ D rs H', Fresh K H H' D rs hss n → Q (.ref D) H'
def spCTeller (K : PySem.W.Frag) (C : Addr) : Sp := fun vs H Q _ => ∃ (x : Addr) (qs : List Rat) (hss tss : List (List Rat)) (n : Nat), vs = [.ref x] ∧ IsCase K H C x qs hss tss n ∧ tss.length ≤ 100 ∧ ∀ D rs H', Fresh K H H' D rs tss n → Q (.ref D) H'
structure CaM (K : PySem.W.Frag) (C fW fD fS fH fT : Addr) : Prop where
  mW : Meth K C "worlds" fW
  mD : Meth K C "deeds" fD
  mS : Meth K C "shares" fS
  mH : Meth K C "hearer" fH
  mT : Meth K C "teller" fT
/-! ### deeds -/
/-- the best deeds -/
def bestL (hss : List (List Rat)) (ws : List Rat) (dd : Nat) : List Nat := (List.range dd).filter fun d => decide (∀ e, e < dd → wq hss ws e ≤ wq hss ws d)
/-- a case and weights for it -/
structure Wts (K : PySem.W.Frag) (H : Hp) (C x b : Addr) (qs : List Rat) (hss tss : List (List Rat)) (ws : List Rat) (n m ww dd : Nat) : Prop where
  c : IsCase K H C x qs hss tss n
  g : GoodC qs hss tss ww dd
  b : ∃ cs, H b = some (.lst cs) ∧ FrN K H m cs ws
  l : ws.length = ww
  hn : n ≤ 280
  hm : m ≤ 280
theorem Wts.same {K : PySem.W.Frag} {H H' : Hp} {C x b : Addr} {qs : List Rat} {hss tss : List (List Rat)} {ws : List Rat} {n m ww dd : Nat} (h : Wts K H C x b qs hss tss ws n m ww dd) (s : Same H H') : Wts K H' C x b qs hss tss ws n m ww dd :=
  let ⟨cs, e1, e2⟩ := h.b
  ⟨h.c.same s, h.g, ⟨cs, s _ _ e1, e2.same s⟩, h.l, h.hn, h.hm⟩
def spChkB (K : PySem.W.Frag) (C : Addr) : Sp := fun vs H Q _ => ∃ (x b : Addr) (qs : List Rat) (hss tss : List (List Rat)) (ws : List Rat) (n m ww dd : Nat), vs = [.ref x, .ref b] ∧ Wts K H C x b qs hss tss ws n m ww dd ∧ RowOk ww ws ∧ ∀ H', Same H H' → Q .non H'
/-- a list of deeds, as values -/
def dsV (l : List Nat) : List V := l.map fun (d : Nat) => V.int (d : Int)
def spBestBy (K : PySem.W.Frag) (C : Addr) : Sp := fun vs H Q _ => ∃ (x b : Addr) (qs : List Rat) (hss tss : List (List Rat)) (ws : List Rat) (n m ww dd : Nat), vs = [.ref x, .ref b] ∧ Wts K H C x b qs hss tss ws n m ww dd ∧ ∀ p H', Same H H' → SqT K H' p (dsV (bestL hss ws dd)) → Q (.ref p) H'
def spBest (K : PySem.W.Frag) (C : Addr) : Sp := fun vs H Q _ => ∃ (x b : Addr) (qs : List Rat) (hss tss : List (List Rat)) (ws : List Rat) (n m ww dd : Nat), vs = [.ref x, .ref b] ∧ Wts K H C x b qs hss tss ws n m ww dd ∧ RowOk ww ws ∧ ∀ p H', Same H H' → SqT K H' p (dsV (bestL hss ws dd)) → Q (.ref p) H'
def spWorths (K : PySem.W.Frag) (C : Addr) : Sp := fun vs H Q _ => ∃ (x b : Addr) (d : Nat) (qs : List Rat) (hss tss : List (List Rat)) (ws : List Rat) (n m ww dd : Nat), vs = [.ref x, .ref b, .int (d : Int)] ∧ Wts K H C x b qs hss tss ws n m ww dd ∧ RowOk ww ws ∧ d < dd ∧
  ∀ p p1 p2 H', Same H H' → SqT K H' p [.ref p1, .ref p2] → SqT K H' p1 (rp (wq hss ws d)) → SqT K H' p2 (rp (wq tss ws d)) → Q (.ref p) H'
/-! ### the greatest of the worths -/
def worthL (hss : List (List Rat)) (ws : List Rat) (dd : Nat) : List Rat := (List.range dd).map (wq hss ws)
theorem worthL_at {hss : List (List Rat)} {ws : List Rat} {dd d : Nat} (h : d < dd) : (worthL hss ws dd)[d]? = some (wq hss ws d) := by
  unfold worthL
  rw [List.getElem?_map, List.getElem?_range h]
  rfl
theorem worthL_len {hss : List (List Rat)} {ws : List Rat} {dd : Nat} : (worthL hss ws dd).length = dd := by
  unfold worthL
  rw [List.length_map, List.length_range]
theorem take_succ_at {α : Type} {l : List α} {i : Nat} {x : α} (h : l[i]? = some x) : l.take (i + 1) = l.take i ++ [x] := by
  rw [List.take_add_one, h]
  rfl
theorem range_take {dd i : Nat} (h : i ≤ dd) : (List.range dd).take i = List.range i := by
  rw [List.take_range, Nat.min_eq_left h]
theorem best_iff {hss : List (List Rat)} {ws : List Rat} {dd d : Nat} {top : Rat} (h1 : top ∈ worthL hss ws dd) (h2 : ∀ x ∈ worthL hss ws dd, x ≤ top) (hd : d < dd) : decide (wq hss ws d = top) = decide (∀ e, e < dd → wq hss ws e ≤ wq hss ws d) := by
  apply decide_eq_decide.mpr
  constructor
  · intro e e' he
    rw [e]
    exact h2 _ (List.mem_of_getElem? (worthL_at he))
  · intro h
    have hle := h2 _ (List.mem_of_getElem? (worthL_at hd))
    obtain ⟨j, hj, e⟩ := List.mem_map.mp h1
    have := h j (List.mem_range.mp hj)
    rw [e] at this
    exact Rat.le_antisymm hle this
theorem best_ne {hss : List (List Rat)} {ws : List Rat} {dd : Nat} {top : Rat} (h1 : top ∈ worthL hss ws dd) (h2 : ∀ x ∈ worthL hss ws dd, x ≤ top) : bestL hss ws dd ≠ [] := by
  intro e
  obtain ⟨j, hj, ej⟩ := List.mem_map.mp h1
  have hj' := List.mem_range.mp hj
  have : j ∈ bestL hss ws dd := by
    unfold bestL
    refine List.mem_filter.mpr ⟨hj, ?_⟩
    rw [← best_iff h1 h2 hj']
    exact decide_eq_true ej
  rw [e] at this
  cases this
end Hr

set_option Elab.async false
set_option linter.all false
set_option maxRecDepth 100000
set_option maxHeartbeats 4000000
namespace Hr
open PySem PySem.Spec PyProof.Rows L2 BX EXB Co Ru
/-- xs + ys, each a list of any standing -/
def rCatS (K : PySem.W.Frag) : R2 := fun x y H Q => ∃ (l b : Addr) (xs zs : List V), x = .ref l ∧ y = .ref b ∧ SqL K H l xs ∧ SqL K H b zs ∧ xs.length + zs.length ≤ sizeLine ∧ ∀ p, H p = none → Q (.ref p) (upd H p (.lst (xs ++ zs)))
theorem op_catS {X : Cx} : OpR X (binaryOp .Add) (rCatS X.K) := by
  rintro pins s σ H x y v u Q I rx ry ⟨l, b, xs, zs, rfl, rfl, hA, hB, hz, q⟩
  cases rx
  cases ry
  obtain ⟨is1, r1, ⟨⟨c1, m1, t1, o1⟩, n1, g1, h1, h1', h1''⟩, _⟩ := I.list hA
  obtain ⟨is2, r2, ⟨⟨c2, m2, t2, o2⟩, n2, g2, h2, h2', h2''⟩, _⟩ := I.list hB
  cases h1
  cases h2
  cases h1''
  cases h2''
  have size : is1.toArray.size + is2.toArray.size ≤ sizeLine := by
    have a1 := r1.length
    have a2 := r2.length
    simp only [List.size_toArray]
    omega
  have go := list_addW l b is1.toArray is2.toArray n1 n2 m1 m2 o1 o2 size
  have k1 : s.TypeIs (.ref l) "list" := ⟨_, g1, rfl⟩
  have k2 : s.TypeIs (.ref b) "list" := ⟨_, g2, rfl⟩
  apply concat_meets k1 k2 noFill_list_add seq_list_add PySem.F.slot_list_add PySem.F.entry_list_add (PySem.F.args_list_add_2 _ _) go
  refine ⟨g1, g2, ?_⟩
  have glue : is1.toArray ++ is2.toArray = (is1 ++ is2).toArray := by simp
  rw [glue]
  have made := I.lnew (t' := s.toks) (r1.append r2) (by rw [List.length_append]; exact hz)
  exact ⟨.ref _, _, made, rfl, q _ I.fresh⟩
end Hr

set_option Elab.async false
set_option linter.all false
set_option maxRecDepth 100000
set_option maxHeartbeats 4000000
namespace Hr
open PySem PySem.Spec PyProof.Rows L2 BX EXB Co Ru
open Dz Cs
open Fr (Bd)
theorem few_dR {n : Nat} {K : PySem.W.Frag} {H : Hp} {cs : List V} {qs : List Rat} (h : FrN K H n cs qs) : Few n (qs.map dR) := fun d hd q e => by
  obtain ⟨r, hr, rfl⟩ := List.mem_map.mp hd
  rw [ratD_dR] at e
  cases e
  obtain ⟨i, hi, e⟩ := List.getElem_of_mem hr
  obtain ⟨a, q', e1, _, _, e4⟩ := h.at_ i (cs[i]'(by rw [h.len]; exact hi)) (List.getElem?_eq_getElem _)
  rw [List.getElem?_eq_getElem hi] at e1
  rw [← e, Option.some.inj e1]
  exact e4
theorem few_rows {n : Nat} {K : PySem.W.Frag} {H : Hp} {rs : List Addr} {rss : List (List Rat)} (h : RowsAt K H n rs rss) : ∀ d ∈ rss.map (fun qs => PyData.list (qs.map dR)), Few n (itemsD d) := fun d hd => by
  obtain ⟨qs, hq, rfl⟩ := List.mem_map.mp hd
  obtain ⟨i, hi, e⟩ := List.getElem_of_mem hq
  have hir : i < rs.length := by rw [h.1]; exact hi
  obtain ⟨cs, qs', e1, _, e3⟩ := h.2 i _ (List.getElem?_eq_getElem hir)
  rw [List.getElem?_eq_getElem hi, e] at e1
  cases (Option.some.inj e1)
  exact few_dR e3
theorem few_mono {n m : Nat} {ds : List PyData} (h : Few n ds) (l : n ≤ m) : Few m ds := fun d hd q e => (h d hd q e).mono l
theorem dRows_inj : ∀ {r1 r2 : List (List Rat)}, dRows r1 = dRows r2 → r1 = r2 := by
  have dRi : ∀ {a b : Rat}, dR a = dR b → a = b := fun {a b} e => by
    have h1 := ratD_dR a
    rw [e, ratD_dR] at h1
    exact (Option.some.inj h1).symm
  intro r1 r2 e
  have e' : (r1.map fun qs => PyData.list (qs.map dR)) = r2.map fun qs => PyData.list (qs.map dR) := by injection e
  refine (List.map_inj_right (fun x y h => ?_)).mp e'
  have h' : x.map dR = y.map dR := by injection h
  exact (List.map_inj_right (fun a b h => dRi h)).mp h'
theorem dS_inj {a b : List Rat} (e : dS a = dS b) : a = b := by
  have h' : a.map dR = b.map dR := by injection e
  refine (List.map_inj_right (fun x y h => ?_)).mp h'
  have h1 := ratD_dR x
  rw [h, ratD_dR] at h1
  exact (Option.some.inj h1).symm
/-- Case(..) of good parts -/
theorem mk_caseN {K : PySem.W.Frag} {n : Nat} (hn : n ≤ 1000) {C CN A B' C' : Addr} {H : Hp} {cs : List V} {rh rt : List Addr} {qs : List Rat} {hss tss : List (List Rat)} {ww dd : Nat} {Q : Addr → Hp → Prop} (e2 : H A = some (.lst cs)) (e3 : FrN K H n cs qs) (e4 : RwL K H B' rh hss n) (e5 : RwL K H C' rt tss n) (g : GoodC qs hss tss ww dd) (q : ∀ x H', Same H H' → H x = none → IsCase K H' C x qs hss tss n → Q x H') :
    ∀ x dx, H x = none → H dx = none → dx ≠ x → spCInit K C CN [.ref x, .ref A, .ref B', .ref C'] (upd (upd H dx (.own x)) x (.ins C dx [])) (fun v H2 => v = .non ∧ Q x H2) E0 := by
  intro x dx hx hdx hne
  have s1 := same_new hdx (.own x)
  have hx1 : (upd H dx (.own x)) x = none := by rw [upd_ne (Ne.symm hne)]; exact hx
  have s2 := s1.trans (same_new hx1 (.ins C dx []))
  refine ⟨fun _ => False, n, x, dx, .ref A, .ref B', .ref C', dS qs, dRows hss, dRows tss, rfl, upd_same, .lst (s2 _ _ e2) (fun z => z) ((frn_dz e3).same s2), .lst (s2 _ _ e4.1) (fun z => z) ((rows_dz e4.2 fun _ _ z => z).same s2), .lst (s2 _ _ e5.1) (fun z => z) ((rows_dz e5.2 fun _ _ z => z).same s2), hn, few_dR e3, few_rows e4.2, few_rows e5.2, fun p r er => ?_, fun _ sa ha ta cs' rh' rt' qs' hss' tss' H' kp hx' g1 g2 g3 g4 i1 i2 i3 => ⟨rfl, ?_⟩⟩
  · rw [badC_good g] at er
    cases er
  · have j1 := dS_inj i1
    have j2 := dRows_inj i2
    have j3 := dRows_inj i3
    subst j1 j2 j3
    exact q x H' (fun b ob e => kp b ob (ne_of_none e hx) (s2 _ _ e)) hx ⟨dx, sa, ha, ta, cs', rh', rt', hx', g1, g2, g3, g4⟩
/-! ### the laws' own helpers -/
def spLSum (K : PySem.W.Frag) : Sp := fun vs H Q _ => ∃ (l : Addr) (cs : List V) (qs : List Rat) (n : Nat), vs = [.ref l] ∧ SqL K H l cs ∧ FrN K H n cs qs ∧ (n + 1) * qs.length + 1 ≤ 8700 ∧ ∀ r H', Same H H' → SqT K H' r (rp qs.sum) → Q (.ref r) H'
/-- new shares, of the digits at l -/
def Shd (K : PySem.W.Frag) (H : Hp) (l : Addr) (m : Nat) (Q : VK) : Prop := ∀ D cs qs z' H', SameB l H H' → H' l = some (.lst [.int z']) → H D = none → D ≠ l → H' D = some (.lst cs) → FrN K H' 8 cs qs → RowOk m qs → Q (.ref D) H'
def spParted (K : PySem.W.Frag) : Sp := fun vs H Q _ => ∃ (l : Addr) (z : Int) (m : Nat) (top : Int), vs = [.ref l, .int (m : Int), .int top] ∧ H l = some (.lst [.int z]) ∧ 1 ≤ m ∧ m ≤ 30 ∧ 1 ≤ top ∧ top ≤ 4 ∧ Shd K H l m Q
def spAllIn (K : PySem.W.Frag) : Sp := fun vs H Q _ => ∃ (l : Addr) (z : Int) (m : Nat), vs = [.ref l, .int (m : Int)] ∧ H l = some (.lst [.int z]) ∧ 1 ≤ m ∧ m ≤ 30 ∧ Shd K H l m Q
def spGain (K : PySem.W.Frag) : Sp := fun vs H Q _ => ∃ (l : Addr) (z : Int), vs = [.ref l] ∧ H l = some (.lst [.int z]) ∧ ∀ p q z' H', SameB l H H' → H' l = some (.lst [.int z']) → SqT K H' p (rp q) → Bd 43 q → Q (.ref p) H'
def spGains (K : PySem.W.Frag) : Sp := fun vs H Q _ => ∃ (l : Addr) (z : Int) (ww dd : Nat), vs = [.ref l, .int (ww : Int), .int (dd : Int)] ∧ H l = some (.lst [.int z]) ∧ ww ≤ 5 ∧ 1 ≤ dd ∧ dd ≤ 6 ∧
  ∀ D rs rss z' H', New K H H' l D rs rss 43 → D ≠ l → H' l = some (.lst [.int z']) → rss.length = ww → (∀ r ∈ rss, r.length = dd) → Q (.ref D) H'
/-- a case's parts, in a tuple -/
def PartsT (K : PySem.W.Frag) (H : Hp) (P : Addr) (qs : List Rat) (hss tss : List (List Rat)) (n : Nat) : Prop := ∃ (A B C : Addr) (cs : List V) (rh rt : List Addr), SqT K H P [.ref A, .ref B, .ref C] ∧ H A = some (.lst cs) ∧ FrN K H n cs qs ∧ RwL K H B rh hss n ∧ RwL K H C rt tss n
theorem PartsT.same {K : PySem.W.Frag} {H H' : Hp} {P : Addr} {qs : List Rat} {hss tss : List (List Rat)} {n : Nat} (h : PartsT K H P qs hss tss n) (s : Same H H') : PartsT K H' P qs hss tss n :=
  let ⟨A, B, C, cs, rh, rt, e1, e2, e3, e4, e5⟩ := h; ⟨A, B, C, cs, rh, rt, seqT s e1, s _ _ e2, e3.same s, e4.same s, e5.same s⟩
theorem frn_ne {K : PySem.W.Frag} {H : Hp} {n : Nat} {a l : Addr} {z : Int} {cs : List V} {qs : List Rat} (h : FrN K H n cs qs) (ha : H a = some (.lst cs)) (hl : H l = some (.lst [.int z])) : a ≠ l := fun e => by
  rw [e, hl] at ha
  cases ha
  exact Lw.frn_num h
theorem PartsT.but {K : PySem.W.Frag} {H H' : Hp} {P l : Addr} {z : Int} {qs : List Rat} {hss tss : List (List Rat)} {n : Nat} (h : PartsT K H P qs hss tss n) (hl : H l = some (.lst [.int z])) (s : SameB l H H') : PartsT K H' P qs hss tss n :=
  let ⟨A, B, C, cs, rh, rt, e1, e2, e3, e4, e5⟩ := h; ⟨A, B, C, cs, rh, rt, s.tup hl _ _ e1, s _ _ (frn_ne e3 e2 hl) e2, e3.keep (s.tup hl), Rs.RwL.keepB e4 hl s, Rs.RwL.keepB e5 hl s⟩
theorem IsCase.but {K : PySem.W.Frag} {H H' : Hp} {C x l : Addr} {z : Int} {qs : List Rat} {hss tss : List (List Rat)} {n : Nat} (h : IsCase K H C x qs hss tss n) (hl : H l = some (.lst [.int z])) (s : SameB l H H') : IsCase K H' C x qs hss tss n :=
  let ⟨dx, sa, ha, ta, cs, rh, rt, e1, e2, e3, e4, e5⟩ := h; ⟨dx, sa, ha, ta, cs, rh, rt, s _ _ (ne_of e1 hl (by intro w; cases w)) e1, s _ _ (frn_ne e3 e2 hl) e2, e3.keep (s.tup hl), Rs.RwL.keepB e4 hl s, Rs.RwL.keepB e5 hl s⟩
def spParts (K : PySem.W.Frag) : Sp := fun vs H Q _ => ∃ (l : Addr) (z : Int) (ww dd : Nat), vs = [.ref l, .int (ww : Int), .int (dd : Int)] ∧ H l = some (.lst [.int z]) ∧ 1 ≤ ww ∧ ww ≤ 5 ∧ 1 ≤ dd ∧ dd ≤ 6 ∧
  ∀ P qs hss tss z' H', SameB l H H' → H' l = some (.lst [.int z']) → PartsT K H' P qs hss tss 43 → GoodC qs hss tss ww dd → Q (.ref P) H'
theorem New.setRow {K : PySem.W.Frag} {H0 H : Hp} {ex D r : Addr} {rs : List Addr} {rss : List (List Rat)} {n i : Nat} {ys cs : List V} {qs : List Rat} (h : New K H0 H ex D rs rss n) (hr : rs[i]? = some r) (hr0 : H r = some (.lst ys)) (hf : FrN K H n cs qs) : New K H0 (upd H r (.lst cs)) ex D rs (rss.set i qs) n := by
  have hm := List.mem_of_getElem? hr
  have sr : SameB r H (upd H r (.lst cs)) := SameB.upd
  refine ⟨by rw [upd_ne (fun e => h.ne (by rw [e]; exact hm))]; exact h.at_, h.nd, h.ne, h.fresh, h.fD, h.nx, fun b o hb e => ?_, by rw [List.length_set]; exact h.rows.1, fun j x ex => ?_⟩
  · rw [upd_ne (ne_of_none e (h.fresh r hm))]
    exact h.keep b o hb e
  · by_cases hij : i = j
    · subst hij
      rw [hr] at ex
      cases ex
      refine ⟨cs, qs, ?_, upd_same, hf.keep (sr.tup hr0)⟩
      have hi : i < rss.length := by
        rw [← h.rows.1]
        exact (List.getElem?_eq_some_iff.mp hr).1
      rw [List.getElem?_set_self hi]
    · obtain ⟨cs', qs', f1, f2, f3⟩ := h.rows.2 j x ex
      have hne : x ≠ r := fun e => by
        subst e
        obtain ⟨a1, a2⟩ := List.getElem?_eq_some_iff.mp hr
        obtain ⟨b1, b2⟩ := List.getElem?_eq_some_iff.mp ex
        have pw := List.pairwise_iff_getElem.mp h.nd
        rcases Nat.lt_or_gt_of_ne hij with z | z
        · exact pw i j a1 b1 z (a2.trans b2.symm)
        · exact pw j i b1 a1 z (b2.trans a2.symm)
      exact ⟨cs', qs', by rw [List.getElem?_set_ne hij]; exact f1, by rw [upd_ne hne]; exact f2, f3.keep (sr.tup hr0)⟩
theorem tabA {w d : Int} (h0 : 0 ≤ d) (h5 : d < 5) : ∃ v : Int, atI [V.int 1, V.int 1, V.int 1, V.int 1, V.int w] d = some (V.int v) ∧ (v = 1 ∨ v = w) := by
  have : d = 0 ∨ d = 1 ∨ d = 2 ∨ d = 3 ∨ d = 4 := by omega
  rcases this with rfl | rfl | rfl | rfl | rfl
  · exact ⟨1, atI_nat (j := 0) rfl, .inl rfl⟩
  · exact ⟨1, atI_nat (j := 1) rfl, .inl rfl⟩
  · exact ⟨1, atI_nat (j := 2) rfl, .inl rfl⟩
  · exact ⟨1, atI_nat (j := 3) rfl, .inl rfl⟩
  · exact ⟨w, atI_nat (j := 4) rfl, .inr rfl⟩
theorem tabB {w d : Int} (h0 : 0 ≤ d) (h5 : d < 6) : ∃ v : Int, atI [V.int 1, V.int 1, V.int 1, V.int 2, V.int 3, V.int w] d = some (V.int v) ∧ (v = 1 ∨ v = 2 ∨ v = 3 ∨ v = w) := by
  have : d = 0 ∨ d = 1 ∨ d = 2 ∨ d = 3 ∨ d = 4 ∨ d = 5 := by omega
  rcases this with rfl | rfl | rfl | rfl | rfl | rfl
  · exact ⟨1, atI_nat (j := 0) rfl, .inl rfl⟩
  · exact ⟨1, atI_nat (j := 1) rfl, .inl rfl⟩
  · exact ⟨1, atI_nat (j := 2) rfl, .inl rfl⟩
  · exact ⟨2, atI_nat (j := 3) rfl, .inr (.inl rfl)⟩
  · exact ⟨3, atI_nat (j := 4) rfl, .inr (.inr (.inl rfl))⟩
  · exact ⟨w, atI_nat (j := 5) rfl, .inr (.inr (.inr rfl))⟩
/-- the law's own best deeds -/
def spLBest (K : PySem.W.Frag) : Sp := fun vs H Q _ => ∃ (a b : Addr) (rs : List Addr) (rss : List (List Rat)) (cs : List V) (ws : List Rat) (n m dd : Nat), vs = [.ref a, .ref b] ∧ RwL K H a rs rss n ∧ SqL K H b cs ∧ FrN K H m cs ws ∧ ws.length = rss.length ∧ 1 ≤ rss.length ∧ rss.length ≤ 5 ∧ (∀ r ∈ rss, r.length = dd) ∧ 1 ≤ dd ∧ dd ≤ 6 ∧ n ≤ 280 ∧ m ≤ 280 ∧
  ∀ p H', Same H H' → H' p = some (.lst (dsV (bestL rss ws dd))) → H p = none → Q (.ref p) H'
theorem any_map {α : Type} (p : α → Bool) (l : List α) : (l.map p).any id = l.any p := by
  induction l with
  | nil => rfl
  | cons x l ih => rw [List.map_cons, List.any_cons, List.any_cons, ih]; rfl
theorem best_any {hss : List (List Rat)} {ws : List Rat} {dd d : Nat} : (!(worthL hss ws dd).any fun x => decide (wq hss ws d < x)) = decide (∀ e, e < dd → wq hss ws e ≤ wq hss ws d) := by
  by_cases h : ∀ e, e < dd → wq hss ws e ≤ wq hss ws d
  · rw [decide_eq_true h, Bool.not_eq_true']
    rw [List.any_eq_false]
    intro x hx
    obtain ⟨e, he, rfl⟩ := List.mem_map.mp hx
    rw [decide_eq_true_eq]
    exact Rat.not_lt.mpr (h e (List.mem_range.mp he))
  · rw [decide_eq_false h]
    have : ∃ e, e < dd ∧ ¬ wq hss ws e ≤ wq hss ws d := by
      apply Classical.byContradiction
      intro z
      exact h fun e he => Classical.byContradiction fun y => z ⟨e, he, y⟩
    obtain ⟨e, he, hn⟩ := this
    have ha : (worthL hss ws dd).any (fun x => decide (wq hss ws d < x)) = true := List.any_eq_true.mpr ⟨wq hss ws e, List.mem_of_getElem? (worthL_at he), decide_eq_true (Rat.not_le.mp hn)⟩
    rw [ha]
    rfl
def spLBel (K : PySem.W.Frag) : Sp := fun vs H Q _ => ∃ (l P : Addr) (z : Int) (qs : List Rat) (hss tss : List (List Rat)) (n m : Nat), vs = [.ref l, .ref P] ∧ H l = some (.lst [.int z]) ∧ PartsT K H P qs hss tss n ∧ qs.length = m ∧ 1 ≤ m ∧ m ≤ 5 ∧ Shd K H l m Q
def spRight (K : PySem.W.Frag) (C : Addr) : Sp := fun vs H Q _ => ∃ (P x b : Addr) (qs : List Rat) (hss tss : List (List Rat)) (ws : List Rat) (cs : List V) (n m ww dd : Nat), vs = [.ref P, .ref x, .ref b] ∧ PartsT K H P qs hss tss n ∧ IsCase K H C x qs hss tss n ∧ GoodC qs hss tss ww dd ∧ H b = some (.lst cs) ∧ FrN K H m cs ws ∧ RowOk ww ws ∧ n ≤ 280 ∧ m ≤ 280 ∧ ∀ H', Same H H' → Q (.bl true) H'
/-! ### data -/
theorem ds_dp {K : PySem.W.Frag} {H : Hp} : ∀ l : List Nat, DpAll K H (dsV l) (l.map fun (d : Nat) => PyData.int (d : Int))
  | [] => .nil
  | d :: l => .cons (.int _) (ds_dp l)
theorem ds_lay : ∀ l : List Nat, PyData.canLayAll0 (l.map fun (d : Nat) => PyData.int (d : Int)) = true
  | [] => rfl
  | d :: l => ds_lay l
theorem ds_dep : ∀ l : List Nat, PyData.depthAll (l.map fun (d : Nat) => PyData.int (d : Int)) = 0
  | [] => rfl
  | d :: l => by
    show max 0 (PyData.depthAll (l.map fun (d : Nat) => PyData.int (d : Int))) = 0
    rw [ds_dep l]
    rfl
abbrev dDs (l : List Nat) : PyData := .tuple (l.map fun (d : Nat) => PyData.int (d : Int))
theorem dDs_lay (l : List Nat) : (dDs l).canLay0 = true := ds_lay l
theorem dDs_sh (l : List Nat) : SeqAt.shaped (dDs l) = true := by
  unfold SeqAt.shaped
  rw [dDs_lay, Bool.true_and]
  refine decide_eq_true ?_
  show PyData.depthAll (l.map fun (d : Nat) => PyData.int (d : Int)) + 1 ≤ 64
  rw [ds_dep]
  decide
abbrev d2R (a b : Rat) : PyData := .tuple [dR a, dR b]
theorem d2_lay (a b : Rat) : (d2R a b).canLay0 = true := rfl
theorem d2_sh (a b : Rat) : SeqAt.shaped (d2R a b) = true := rfl
theorem d2_dp {K : PySem.W.Frag} {H : Hp} {p p1 p2 : Addr} {a b : Rat} (h : SqT K H p [.ref p1, .ref p2]) (h1 : SqT K H p1 (rp a)) (h2 : SqT K H p2 (rp b)) : Dp K H (.ref p) (d2R a b) := .tup h (.cons (dp_r h1) (.cons (dp_r h2) .nil))
theorem not_bool {K : PySem.W.Frag} {H : Hp} {i : Int} : TyX K H (.int i) (.type "int") := .base (.int _)
theorem cut_int {ns : List Int} {c : Int} {lo hi : Option Int} {i : Nat} {x : V} (h : (cutV (ns.map V.int ++ [V.int c]) lo hi)[i]? = some x) : ∃ c, x = .int c := by
  have := cut_mem (List.mem_of_getElem? h)
  rcases List.mem_append.mp this with h | h
  · obtain ⟨y, _, rfl⟩ := List.mem_map.mp h
    exact ⟨y, rfl⟩
  · exact ⟨c, List.mem_singleton.mp h⟩
end Hr

set_option Elab.async false
set_option linter.all false
set_option maxRecDepth 100000
set_option maxHeartbeats 8000000
namespace K35
open PySem PySem.Spec PyProof.Rows L2 BX EXB Co Ru
open Dz Cs Hr
open Rs (Rsp Rv Ret tYes_of dV datR Flat Okr spShares spRowsL spTotal spCopied eqv_dR)
open Fr (Bd)
def topS (i : Nat) : Stmt := PySem.Challenge.pw_besttelling_k35_bounds_told.main.body.getD i (.Pass ⟨0, 0, 0, 0⟩)
abbrev sNcInit : Stmt := inClass (topS 2) 0
abbrev sNsInit : Stmt := inClass (topS 3) 0
abbrev sWhole : Stmt := topS 5
abbrev sIsR : Stmt := topS 6
abbrev sPlus : Stmt := topS 7
abbrev sTimes : Stmt := topS 8
abbrev sTotal : Stmt := topS 9
abbrev sLowest : Stmt := topS 10
abbrev sDiv : Stmt := topS 11
abbrev sListOf : Stmt := topS 15
abbrev sShare : Stmt := topS 16
abbrev sRRow : Stmt := topS 17
abbrev sShRow : Stmt := topS 18
abbrev sWrong : Stmt := topS 19
abbrev sCopied : Stmt := topS 20
abbrev sBound : Stmt := topS 22
abbrev sCInit : Stmt := inClass (topS 24) 0
abbrev sCWorlds : Stmt := inClass (topS 24) 1
abbrev sCDeeds : Stmt := inClass (topS 24) 2
abbrev sCShares : Stmt := inClass (topS 24) 3
abbrev sCHearer : Stmt := inClass (topS 24) 4
abbrev sCTeller : Stmt := inClass (topS 24) 5
abbrev sCWith : Stmt := inClass (topS 24) 6
abbrev sCLen : Stmt := inClass (topS 24) 7
abbrev sCEq : Stmt := inClass (topS 24) 8
abbrev sCStr : Stmt := inClass (topS 24) 9
abbrev sCRepr : Stmt := inClass (topS 24) 10
abbrev sChkS : Stmt := topS 25
abbrev sChkG : Stmt := topS 26
abbrev sLeft : Stmt := topS 28
abbrev sDigit : Stmt := topS 29
abbrev sLow : Stmt := topS 30
abbrev sLPlus : Stmt := topS 31
abbrev sLLess : Stmt := topS 32
abbrev sLTimes : Stmt := topS 33
abbrev sLUnder : Stmt := topS 34
abbrev sShares : Stmt := topS 35
abbrev sGain : Stmt := topS 36
abbrev sGains : Stmt := topS 37
abbrev sParts : Stmt := topS 38
abbrev sDueP : Stmt := topS 39
abbrev sLBound : Stmt := topS 42
abbrev sMade : Stmt := topS 43
abbrev sOdd : Stmt := topS 44
abbrev sRefused : Stmt := topS 45
abbrev sLaw : Stmt := topS 46
structure NcT (K : PySem.W.Frag) (mg : Str → Option Value) (C fI : Addr) : Prop where
  g : mg "NoCase" = some (.ref C)
  i : PySem.W.findIn K (.ref C) "__init__" = some (some (.ref fI))
  t : PySem.W.typeIn K (.ref fI) = some (.type "function")
  xf : XfC K C
  ex : ExcC K C
  o : OexC K C
  n1 : PySem.W.findIn K (.ref C) "part" = some none
  n2 : PySem.W.findIn K (.ref C) "number" = some none
  vV : PySem.W.findCls K (.type "ValueError") (.type "type") "__init__" = some (.val (.builtin "ValueError.__init__"))
  nn : PySem.W.exmOne K (.ref C) (.ref C) = some true
  kV : PySem.W.kitOne K (.ref C) (.type "ValueError") = some true
structure CaT (K : PySem.W.Frag) (mg : Str → Option Value) (C fI : Addr) : Prop where
  cl : Cls K C
  gC : mg "Case" = some (.ref C)
  n1 : NoAttr K C "own_shares"
  n2 : NoAttr K C "own_hearer"
  n3 : NoAttr K C "own_teller"
  mkC : Mk K C fI
  g5 : ∃ t, mg "MOST_WORLDS" = some (.int 5 t)
  g6 : ∃ t, mg "MOST_DEEDS" = some (.int 6 t)
section
variable {P : Program} {w : World} {K : PySem.W.Frag} {mg : Str → Option Value} {base : Heap}
theorem scDiv : FnScope ["one", "other"] ["one", "other"] (defScope sDiv) := ⟨rfl, rfl, rfl, by decide +kernel, rfl, by decide +kernel, by decide +kernel⟩
theorem ok_div {f : Addr} {fd : FuncData} {k : Nat} (F : Fun K "divisor" "divisor" sDiv f fd) (B : Blt mg) : FnOk P w K mg base CX0 (k + 1) f fd ["one", "other"] spDiv := by
  refine F.ok scDiv (fun vs H Q E h => ?_) (fun cdv A outer s H vs Q E hr h => ?_)
  · obtain ⟨a, b, rfl, _⟩ := h
    rfl
  · obtain ⟨a, b, rfl, q⟩ := h
    refine ⟨_, pss_cons (ps_while PassesOwn.never (pt_cmpR op_ne (pv 1) pe_int (nomark _))
        (pss_one (ps_par (i := 0) (j := 1) (by rfl) scDiv.nd rfl rfl (by decide) rfl rfl (pa_cons (pv 1) (pa_cons (pe_op op_modN (pv 0) (pv 1)) pa_nil)) (by rfl))))
      (pss_one (ps_ret (pe_callB call_abs (by rfl) B.abs_ (by decide +kernel) (pa_cons (pv 0) pa_nil)))), ?_⟩
    refine ⟨fun m σ H' => ∃ x y : Int, σ = [some (.int x), some (.int y)] ∧ m = y.natAbs ∧ Int.gcd x y = Int.gcd a b ∧ H' = H, ⟨_, a, b, rfl, rfl, rfl, rfl⟩, ?_⟩
    rintro m σ H' ⟨x, y, rfl, rfl, hg, rfl⟩
    refine ⟨.int y, rfl, rfl, _, rfl, ite2 (fun c => ?_) (fun c => ?_)⟩
    · have hy : y ≠ 0 := fun e => by
        subst e
        exact absurd c (by decide)
      refine ⟨fun σ' H'' => ∃ x' y' : Int, σ' = [some (.int x'), some (.int y')] ∧ y'.natAbs < y.natAbs ∧ Int.gcd x' y' = Int.gcd a b ∧ H'' = H', ?_, ?_⟩
      · rintro σ' H'' ⟨x', y', e1, e2, e3, e4⟩
        exact ⟨y'.natAbs, e2, x', y', e1, rfl, e3, e4⟩
      · refine ⟨.int y, rfl, .int x, rfl, .int y, rfl, x, y, rfl, rfl, hy, _, _, rfl, y, _, rfl, Fr.fmod_abs x hy, ?_, rfl⟩
        rw [Fr.gcd_step]
        exact hg
    · have hy : y = 0 := by
        by_cases e : y = 0
        · exact e
        · exact absurd (by simp [e]) c
      subst hy
      rw [Int.gcd_zero_right] at hg
      refine ⟨.int x, rfl, x, rfl, ?_⟩
      have e : (if x < 0 then -x else x) = (Int.gcd a b : Int) := by
        rw [← hg]
        split <;> omega
      rw [e]
      exact q
theorem scLowest : FnScope ["top", "bottom", "by"] ["top", "bottom"] (defScope sLowest) := ⟨rfl, rfl, rfl, by decide +kernel, rfl, by decide +kernel, by decide +kernel⟩
theorem ok_lowest {f fD : Addr} {fd fdD : FuncData} {k : Nat} (F : Fun K "lowest" "lowest" sLowest f fd) (GD : FnOk P w K mg base CX0 k fD fdD ["one", "other"] spDiv) (kD : PySem.W.keepIn K (.ref fD) = true) (bD : Binds K fdD ["one", "other"] []) (gD : mg "divisor" = some (.ref fD)) : FnOk P w K mg base CX0 (k + 1) f fd ["top", "bottom"] spLow := by
  refine F.ok scLowest (fun vs H Q E h => ?_) (fun cdv A outer s H vs Q E hr h => ?_)
  · obtain ⟨a, b, n, rfl, _⟩ := h
    rfl
  · obtain ⟨t, b, n, rfl, ht, hb, h0, hn, q⟩ := h
    refine ⟨_, pss_cons (ps_set (i := 2) scLowest.nd rfl (.inl rfl) (pe_call GD hr (by rfl) gD kD bD .nil pass0 (pa_cons (pv 0) (pa_cons (pv 1) pa_nil))))
      (pss_cons (ps_if (pt_cmpR op_lt (pv 1) pe_int (nomark _)) (pss_one (ps_set (i := 2) scLowest.nd rfl (.inl rfl) (pe_un un_neg (pv 2)))) pss_nil)
      (pss_one (ps_ret (pe_tup (pa_cons (pe_op op_fdivZ (pv 0) (pv 2)) (pa_cons (pe_op op_fdivZ (pv 1) (pv 2)) pa_nil)))))), ?_⟩
    have hg := Fr.gcd_pos (t := t) h0
    have hgb := gcd_bd (t := t) h0 hb
    have hn0 : 0 < n := by
      cases n with
      | zero => simp at hb; omega
      | succ n => omega
    refine ⟨_, rfl, _, rfl, t, b, rfl, ?_⟩
    refine ⟨_, rfl, b, 0, rfl, rfl, _, rfl, ite2 (fun c => ?_) (fun c => ?_)⟩
    · have hb0 : b < 0 := of_decide_eq_true c
      refine ⟨_, rfl, _, rfl, ?_⟩
      have d : ∀ i : Int, CDivZ i (-(Int.gcd t b : Int)) := fun i => divZ (n := n) (by omega) (by rw [Int.natAbs_neg]; exact hgb) hn0 (by omega)
      refine ⟨_, rfl, _, rfl, t, _, rfl, rfl, d _, _, rfl, _, rfl, b, _, rfl, rfl, d _, (by show 2 ≤ sizeLine; decide), fun p hp => ?_⟩
      have z := q p hp
      rw [rp, ← Fr.lowN_num hb0, ← Fr.lowN_den hb0] at z
      exact z
    · have hb0 : 0 < b := by
        have : ¬ b < 0 := of_decide_eq_false (Bool.eq_false_iff.mpr c)
        omega
      have d : ∀ i : Int, CDivZ i (Int.gcd t b : Int) := fun i => divZ (n := n) (by omega) hgb hn0 (by omega)
      refine ⟨_, rfl, _, rfl, t, _, rfl, rfl, d _, _, rfl, _, rfl, b, _, rfl, rfl, d _, (by show 2 ≤ sizeLine; decide), fun p hp => ?_⟩
      have z := q p hp
      rw [rp, ← Fr.low_num hb0, ← Fr.low_den hb0] at z
      exact z

theorem scPlus : FnScope ["one", "other"] ["one", "other"] (defScope sPlus) := ⟨rfl, rfl, rfl, by decide +kernel, rfl, by decide +kernel, by decide +kernel⟩
theorem ok_Plus {f fC : Addr} {fd fdC : FuncData} {k : Nat} (F : Fun K "plus" "plus" sPlus f fd) (GC : FnOk P w K mg base CX0 k fC fdC ["top", "bottom"] spLow) (kC : PySem.W.keepIn K (.ref fC) = true) (bC : Binds K fdC ["top", "bottom"] []) (gC : mg "lowest" = some (.ref fC)) :
    FnOk P w K mg base CX0 (k + 1) f fd ["one", "other"] (spBin K (· + ·)) := by
  refine F.ok scPlus (fun vs H Q E h => ?_) (fun cdv A outer s H vs Q E hr h => ?_)
  · obtain ⟨a, b, x, y, n, m, rfl, _⟩ := h
    rfl
  · obtain ⟨a, b, x, y, n, m, rfl, hx, hy, bx, by_, hn, q⟩ := h
    refine ⟨_, pss_one (ps_ret (pe_call GC hr (by rfl) gC kC bC .nil pass0 (pa_cons (pe_op op_add (pe_op op_mulW (pe_ix ix_tup (pv 0) pe_int (fun _ _ => rfl)) (pe_ix ix_tup (pv 1) pe_int (fun _ _ => rfl))) (pe_op op_mulW (pe_ix ix_tup (pv 1) pe_int (fun _ _ => rfl)) (pe_ix ix_tup (pv 0) pe_int (fun _ _ => rfl)))) (pa_cons (pe_op op_mulW (pe_ix ix_tup (pv 0) pe_int (fun _ _ => rfl)) (pe_ix ix_tup (pv 1) pe_int (fun _ _ => rfl))) pa_nil)))), ?_⟩
    refine ⟨.ref a, rfl, a, rp x, 0, .int x.num, rfl, rfl, hx, at0 x, .ref b, rfl, b, rp y, 1, .int (y.den : Int), rfl, rfl, hy, at1 y, _, _, rfl, rfl, wmul bx.1 by_.dn (by omega), .ref b, rfl, b, rp y, 0, .int y.num, rfl, rfl, hy, at0 y, .ref a, rfl, a, rp x, 1, .int (x.den : Int), rfl, rfl, hx, at1 x, _, _, rfl, rfl, wmul by_.1 bx.dn (by omega), _, _, rfl, rfl, .ref a, rfl, a, rp x, 1, .int (x.den : Int), rfl, rfl, hx, at1 x, .ref b, rfl, b, rp y, 1, .int (y.den : Int), rfl, rfl, hy, at1 y, _, _, rfl, rfl, wmul bx.dn by_.dn (by omega), _, _, n + m + 1, rfl, Fr.add_bd (Fr.mul_bd bx.1 by_.dn) (by rw [Nat.add_comm n m]; exact Fr.mul_bd by_.1 bx.dn), Fr.up (Fr.mul_bd bx.dn by_.dn) (Nat.le_succ _), Fr.dd_ne x y, by omega, fun p hp => ?_⟩
    have z := q p hp
    rw [Fr.add_eq]
    exact z

theorem scTimes : FnScope ["one", "other"] ["one", "other"] (defScope sTimes) := ⟨rfl, rfl, rfl, by decide +kernel, rfl, by decide +kernel, by decide +kernel⟩
theorem ok_Times {f fC : Addr} {fd fdC : FuncData} {k : Nat} (F : Fun K "times" "times" sTimes f fd) (GC : FnOk P w K mg base CX0 k fC fdC ["top", "bottom"] spLow) (kC : PySem.W.keepIn K (.ref fC) = true) (bC : Binds K fdC ["top", "bottom"] []) (gC : mg "lowest" = some (.ref fC)) :
    FnOk P w K mg base CX0 (k + 1) f fd ["one", "other"] (spBin K (· * ·)) := by
  refine F.ok scTimes (fun vs H Q E h => ?_) (fun cdv A outer s H vs Q E hr h => ?_)
  · obtain ⟨a, b, x, y, n, m, rfl, _⟩ := h
    rfl
  · obtain ⟨a, b, x, y, n, m, rfl, hx, hy, bx, by_, hn, q⟩ := h
    refine ⟨_, pss_one (ps_ret (pe_call GC hr (by rfl) gC kC bC .nil pass0 (pa_cons (pe_op op_mulW (pe_ix ix_tup (pv 0) pe_int (fun _ _ => rfl)) (pe_ix ix_tup (pv 1) pe_int (fun _ _ => rfl))) (pa_cons (pe_op op_mulW (pe_ix ix_tup (pv 0) pe_int (fun _ _ => rfl)) (pe_ix ix_tup (pv 1) pe_int (fun _ _ => rfl))) pa_nil)))), ?_⟩
    refine ⟨.ref a, rfl, a, rp x, 0, .int x.num, rfl, rfl, hx, at0 x, .ref b, rfl, b, rp y, 0, .int y.num, rfl, rfl, hy, at0 y, _, _, rfl, rfl, wmul bx.1 by_.1 (by omega), .ref a, rfl, a, rp x, 1, .int (x.den : Int), rfl, rfl, hx, at1 x, .ref b, rfl, b, rp y, 1, .int (y.den : Int), rfl, rfl, hy, at1 y, _, _, rfl, rfl, wmul bx.dn by_.dn (by omega), _, _, n + m, rfl, Fr.mul_bd bx.1 by_.1, Fr.mul_bd bx.dn by_.dn, Fr.dd_ne x y, by omega, fun p hp => ?_⟩
    have z := q p hp
    rw [Fr.mul_eq]
    exact z
theorem scTotal : FnScope ["some", "start", "whole", "one"] ["some", "start"] (defScope sTotal) := ⟨rfl, rfl, rfl, by decide +kernel, rfl, by decide +kernel, by decide +kernel⟩
theorem ok_Total {f fP : Addr} {fd fdP : FuncData} {k : Nat} (F : FunD K "total" "total" (defArgs sTotal) (defBody sTotal) (defScope sTotal) [.non] [] f fd) (GP : FnOk P w K mg base CX0 k fP fdP ["one", "other"] (spBin K (· + ·))) (kP : PySem.W.keepIn K (.ref fP) = true) (bP : Binds K fdP ["one", "other"] []) (gP : mg "plus" = some (.ref fP)) :
    FnOk P w K mg base CX0 (k + 1) f fd ["some", "start"] (spTotal K) := by
  refine F.ok scTotal (fun vs H Q E h => ?_) (fun cdv A outer s H vs Q E hr h => ?_)
  · obtain ⟨l, cs, qs, n, rfl, _⟩ := h
    rfl
  · obtain ⟨l, cs, qs, n, rfl, hl, hf, hn, q⟩ := h
    refine ⟨_, PSs.nox (pss_cons (ps_set (i := 2) scTotal.nd rfl (.inl rfl) (pe_ifExp (pt_cmpR op_isN (pv 1) pe_non (nomark _)) (pe_tup (pa_cons pe_int (pa_cons pe_int pa_nil))) (pv 1)))
      (pss_cons (ps_for PassesOwn.never rfl (pi_list (pv 0)) (pg_name (i := 3) scTotal.nd rfl (.inl rfl)) (pss_one (ps_set (i := 2) scTotal.nd rfl (.inl rfl) (pe_call GP hr (by rfl) gP kP bP .nil pass0 (pa_cons (pv 2) (pa_cons (pv 3) pa_nil))))))
      (pss_one (ps_ret (pv 2))))), ?_⟩
    refine ⟨_, rfl, rfl, _, rfl, iteT ⟨(by show 2 ≤ sizeLine; decide), fun p hp => ?_⟩⟩
    have s1 := same_new hp (.tup (rp 0))
    refine ⟨_, rfl, l, rfl, ⟨_, s1.seq hl⟩, for_list (K := K) (a := l) (xs := cs) (fun i σ H' => ∃ (c : Addr) (y : Option V), σ = [some (.ref l), some .non, some (.ref c), y] ∧ Same H H' ∧ SqT K H' c (rp (qs.take i).sum) ∧ Bd ((n + 1) * i + 1) (qs.take i).sum)
      ⟨p, none, rfl, s1, SqT.of upd_same, ⟨by show (0 : Int).natAbs < 2 ^ 1; decide, by show 1 < 2 ^ 1; decide⟩⟩ (fun i σ H' _ ⟨_, _, _, s5, _⟩ => s5.seq hl) ?_ ?_⟩
    · rintro i v σ H' hi ⟨c, y, rfl, s5, hc5, hb5⟩
      obtain ⟨a, z, e1, rfl, e3, e4⟩ := hf.at_ i v hi
      have hil : i < qs.length := by
        rw [← hf.len]
        exact (List.getElem?_eq_some_iff.mp hi).1
      have hm : (n + 1) * i + (n + 1) ≤ (n + 1) * qs.length := by
        have := Nat.mul_le_mul_left (n + 1) (Nat.succ_le_of_lt hil)
        rw [Nat.mul_succ] at this
        exact this
      refine ⟨_, rfl, _, rfl, c, a, _, z, _, n, rfl, hc5, seqT s5 e3, hb5, e4, by omega, fun p hp => ?_⟩
      refine ⟨p, _, rfl, s5.trans (same_new hp _), ?_, ?_⟩
      · rw [Rs.sum_snoc' e1]
        exact SqT.of upd_same
      · rw [Rs.sum_snoc' e1]
        exact (Fr.bd_add hb5 e4).mono (by rw [Nat.mul_succ]; omega)
    · rintro σ H' ⟨c, y, rfl, s5, hc5, _⟩
      rw [hf.len, List.take_length] at hc5
      exact ⟨_, rfl, q c H' s5 hc5⟩
theorem scWhole : FnScope ["thing"] ["thing"] (defScope sWhole) := ⟨rfl, rfl, rfl, by decide +kernel, rfl, by decide +kernel, by decide +kernel⟩
theorem ok_WholeZ {f  : Addr} {fd  : FuncData} {k : Nat} (F : Fun K "is_whole" "is_whole" sWhole f fd)  (B : Blt mg) : FnOk P w K mg base CX0 (k + 1) f fd ["thing"] (spWholeZ K) := by
  refine F.ok scWhole (fun vs H Q E h => ?_) (fun cdv A outer s H vs Q E hr h => ?_)
  · obtain ⟨ex, v, d, rfl, _⟩ := h
    rfl
  · obtain ⟨ex, v, d, rfl, hv, q⟩ := h
    refine ⟨_, (pss_one (ps_ret (pe_and (pe_callB call_isi (by rfl) B.isinstance_ (by decide +kernel) (pa_cons (pv 0) (pa_cons (pe_bltn (v := .ty "int") (by rfl) B.int_ (by decide +kernel) rfl) pa_nil))) (pe_one (pe_not (pe_callB call_isi (by rfl) B.isinstance_ (by decide +kernel) (pa_cons (pv 0) (pa_cons (pe_bltn (v := .ty "bool") (by rfl) B.bool_ (by decide +kernel) rfl) pa_nil)))))))), ?_⟩
    refine ⟨_, rfl, _, _, _, _, isIB d, rfl, .ty "int", hv.ty, kit_ty (kit_isIB d), _, rfl, ?_⟩
    cases d with
    | int i => exact iteT ⟨_, rfl, _, _, _, _, isB (.int i), rfl, .ty "bool", hv.ty, kit_ty (kit_isB _), _, rfl, q⟩
    | bool b => exact iteT ⟨_, rfl, _, _, _, _, isB (.bool b), rfl, .ty "bool", hv.ty, kit_ty (kit_isB _), _, rfl, q⟩
    | none => exact iteF q
    | str x => exact iteF q
    | list x => exact iteF q
    | tuple x => exact iteF q
    | dict x => exact iteF q
theorem scIsR : FnScope ["thing", "top", "bottom"] ["thing"] (defScope sIsR) := ⟨rfl, rfl, rfl, by decide +kernel, rfl, by decide +kernel, by decide +kernel⟩
theorem ok_IsRZ {f fW fD : Addr} {fd fdW fdD : FuncData} {k : Nat} (F : Fun K "is_ratio" "is_ratio" sIsR f fd) (GW : FnOk P w K mg base CX0 k fW fdW ["thing"] (spWholeZ K)) (kW : PySem.W.keepIn K (.ref fW) = true) (bW : Binds K fdW ["thing"] []) (gW : mg "is_whole" = some (.ref fW)) (GD : FnOk P w K mg base CX0 k fD fdD ["one", "other"] spDiv) (kD : PySem.W.keepIn K (.ref fD) = true) (bD : Binds K fdD ["one", "other"] []) (gD : mg "divisor" = some (.ref fD)) (B : Blt mg) : FnOk P w K mg base CX0 (k + 1) f fd ["thing"] (spIsRZ K) := by
  refine F.ok scIsR (fun vs H Q E h => ?_) (fun cdv A outer s H vs Q E hr h => ?_)
  · obtain ⟨ex, v, d, rfl, _⟩ := h
    rfl
  · obtain ⟨ex, v, d, rfl, hv, q⟩ := h
    refine ⟨_, (pss_cons (ps_if (PW.pt (pw_or (pt_not (pt_val (pe_callB call_isi (by rfl) B.isinstance_ (by decide +kernel) (pa_cons (pv 0) (pa_cons (pe_bltn (v := .ty "tuple") (by rfl) B.tuple_ (by decide +kernel) rfl) pa_nil))))) (pw_or1 (pt_cmpR op_ne (pe_callB call_len_seq (by rfl) B.len_ PySem.boot_len (pa_cons (pv 0) pa_nil)) pe_int (nomark _))))) (pss_one (ps_ret pe_bl)) pss_nil)
      (pss_cons (ps_asg (pv 0) (pg_tup (by rfl) (pgs_cons (pg_name (i := 1) scIsR.nd rfl (.inl rfl)) (pgs_cons (pg_name (i := 2) scIsR.nd rfl (.inl rfl)) pgs_nil))))
      (pss_cons (ps_if (PW.pt (pw_or (pt_not (pt_val (pe_call GW hr (by rfl) gW kW bW .nil pass0 (pa_cons (pv 1) pa_nil)))) (pw_or1 (pt_not (pt_val (pe_call GW hr (by rfl) gW kW bW .nil pass0 (pa_cons (pv 2) pa_nil))))))) (pss_one (ps_ret pe_bl)) pss_nil)
      (pss_one (ps_ret (pe_and (pe_cmpR op_ge (pv 2) pe_int (nomark _)) (pe_one (pe_cmpR op_eq (pe_call GD hr (by rfl) gD kD bD .nil pass0 (pa_cons (pv 1) (pa_cons (pv 2) pa_nil))) pe_int (nomark _))))))))), ?_⟩
    cases d with
    | none => exact ⟨_, rfl, _, _, _, _, isT _, rfl, .ty "tuple", hv.ty, kit_ty (kit_isT _), _, rfl, iteT (iteT q)⟩
    | bool b => exact ⟨_, rfl, _, _, _, _, isT _, rfl, .ty "tuple", hv.ty, kit_ty (kit_isT _), _, rfl, iteT (iteT q)⟩
    | int i => exact ⟨_, rfl, _, _, _, _, isT _, rfl, .ty "tuple", hv.ty, kit_ty (kit_isT _), _, rfl, iteT (iteT q)⟩
    | str x => exact ⟨_, rfl, _, _, _, _, isT _, rfl, .ty "tuple", hv.ty, kit_ty (kit_isT _), _, rfl, iteT (iteT q)⟩
    | list x => exact ⟨_, rfl, _, _, _, _, isT _, rfl, .ty "tuple", hv.ty, kit_ty (kit_isT _), _, rfl, iteT (iteT q)⟩
    | dict x => exact ⟨_, rfl, _, _, _, _, isT _, rfl, .ty "tuple", hv.ty, kit_ty (kit_isT _), _, rfl, iteT (iteT q)⟩
    | tuple ds =>
      refine ⟨_, rfl, _, _, _, _, isT (.tuple ds), rfl, .ty "tuple", hv.ty, kit_ty (kit_isT _), _, rfl, iteF ?_⟩
      cases hv with
      | @tup a xs _ ha ts =>
        have hl := ts.len
        refine ⟨_, rfl, a, xs, rfl, .inr ha, rfl, _, rfl, ?_⟩
        by_cases h2 : xs.length = 2
        rotate_left
        · rw [decide_eq_false (fun z => h2 (by have := V.int.inj z; omega))]
          refine iteT ?_
          have e : ratD (.tuple ds) = none := by
            unfold ratD
            split
            · rename_i heq
              injection heq with heq
              rw [heq] at hl
              exact absurd hl h2
            · rfl
          rw [e] at q
          exact q
        have e2 : V.int (xs.length : Int) = V.int 2 := by rw [h2]; rfl
        rw [decide_eq_true e2]
        refine iteF ?_
        obtain ⟨x, y, rfl⟩ : ∃ x y, xs = [x, y] := by
          match xs, h2 with
          | [x, y], _ => exact ⟨x, y, rfl⟩
        cases ts with
        | @cons _ _ dx _ hx ts =>
          cases ts with
          | @cons _ _ dy _ hy ts =>
            cases ts
            refine ⟨_, rfl, a, _, rfl, ha, rfl, _, _, rfl, _, _, rfl, rfl, ?_⟩
            refine ⟨_, rfl, ex, x, dx, rfl, hx, _, rfl, ?_⟩
            have no : ∀ {b : PyData}, isI dx = false → ratD (.tuple [dx, b]) = none := fun {b} h => by cases dx <;> first | rfl | cases h
            cases c1 : isI dx with
            | false =>
              rw [no c1] at q
              exact iteT (iteT q)
            | true =>
              refine iteF ?_
              refine ⟨_, rfl, ex, y, dy, rfl, hy, _, rfl, ?_⟩
              cases dx with
              | int t =>
                cases c2 : isI dy with
                | false =>
                  have e : ratD (.tuple [.int t, dy]) = none := by cases dy <;> first | rfl | cases c2
                  rw [e] at q
                  exact iteT q
                | true =>
                  refine iteF ?_
                  cases dy with
                  | int b =>
                    cases hx
                    cases hy
                    have e : ratD (.tuple [.int t, .int b]) = if 1 ≤ b ∧ Int.gcd t b = 1 then some (Rat.divInt t b) else none := rfl
                    refine ⟨_, rfl, _, _, rfl, rfl, _, rfl, ?_⟩
                    by_cases h1 : 1 ≤ b
                    · rw [if_pos (decide_eq_true h1)]
                      refine ⟨_, rfl, _, rfl, _, _, rfl, rfl, ?_⟩
                      by_cases hg : Int.gcd t b = 1
                      · rw [e, if_pos ⟨h1, hg⟩] at q
                        rw [hg]
                        exact q
                      · rw [e, if_neg (fun z => hg z.2)] at q
                        rw [decide_eq_false (fun z => hg (by have := V.int.inj z; omega))]
                        exact q
                    · rw [e, if_neg (fun z => h1 z.1)] at q
                      rw [if_neg (by rw [decide_eq_false h1]; decide)]
                      exact q
                  | _ => cases c2
              | _ => cases c1
theorem scShare : FnScope ["thing"] ["thing"] (defScope sShare) := ⟨rfl, rfl, rfl, by decide +kernel, rfl, by decide +kernel, by decide +kernel⟩
theorem ok_ShareZ {f fR : Addr} {fd fdR : FuncData} {k : Nat} (F : Fun K "is_share" "is_share" sShare f fd) (GR : FnOk P w K mg base CX0 k fR fdR ["thing"] (spIsRZ K)) (kR : PySem.W.keepIn K (.ref fR) = true) (bR : Binds K fdR ["thing"] []) (gR : mg "is_ratio" = some (.ref fR)) : FnOk P w K mg base CX0 (k + 1) f fd ["thing"] (spShareZ K) := by
  refine F.ok scShare (fun vs H Q E h => ?_) (fun cdv A outer s H vs Q E hr h => ?_)
  · obtain ⟨ex, v, d, rfl, _⟩ := h
    rfl
  · obtain ⟨ex, v, d, rfl, hv, q⟩ := h
    refine ⟨_, (pss_one (ps_ret (pe_and (pe_call GR hr (by rfl) gR kR bR .nil pass0 (pa_cons (pv 0) pa_nil)) (pe_one (pe_cmpR op_ge (pe_ix ix_tup (pv 0) pe_int (fun _ _ => rfl)) pe_int (nomark _)))))), ?_⟩
    refine ⟨_, rfl, ex, v, d, rfl, hv, _, rfl, ?_⟩
    unfold shD at q
    cases e : ratD d with
    | none =>
      rw [e] at q
      exact iteF q
    | some r =>
      rw [e] at q
      obtain ⟨a, rfl, ha, _⟩ := hv.rat e
      exact iteT ⟨_, rfl, a, rp r, 0, .int r.num, rfl, rfl, ha, at0 r, _, _, rfl, rfl, q⟩
theorem scListOf : FnScope ["thing", "least", "most"] ["thing", "least", "most"] (defScope sListOf) := ⟨rfl, rfl, rfl, by decide +kernel, rfl, by decide +kernel, by decide +kernel⟩
theorem ok_ListOfZ {f  : Addr} {fd  : FuncData} {k : Nat} (F : Fun K "is_list_of" "is_list_of" sListOf f fd)  (B : Blt mg) : FnOk P w K mg base CX0 (k + 1) f fd ["thing", "least", "most"] (spListOfZ K) := by
  refine F.ok scListOf (fun vs H Q E h => ?_) (fun cdv A outer s H vs Q E hr h => ?_)
  · obtain ⟨ex, v, d, lo, hi, rfl, _⟩ := h
    rfl
  · obtain ⟨ex, v, d, lo, hi, rfl, hv, q⟩ := h
    refine ⟨_, (pss_one (ps_ret (pe_and (pe_callB call_isi (by rfl) B.isinstance_ (by decide +kernel) (pa_cons (pv 0) (pa_cons (pe_bltn (v := .ty "list") (by rfl) B.list_ (by decide +kernel) rfl) pa_nil))) (pe_one (pe_chain op_le op_le (pv 1) (pe_callB call_len_seq (by rfl) B.len_ PySem.boot_len (pa_cons (pv 0) pa_nil)) (pv 2)))))), ?_⟩
    cases d with
    | none => exact ⟨_, rfl, _, _, _, _, isL _, rfl, .ty "list", hv.ty, kit_ty (kit_isL _), _, rfl, iteF q⟩
    | bool b => exact ⟨_, rfl, _, _, _, _, isL _, rfl, .ty "list", hv.ty, kit_ty (kit_isL _), _, rfl, iteF q⟩
    | int i => exact ⟨_, rfl, _, _, _, _, isL _, rfl, .ty "list", hv.ty, kit_ty (kit_isL _), _, rfl, iteF q⟩
    | str x => exact ⟨_, rfl, _, _, _, _, isL _, rfl, .ty "list", hv.ty, kit_ty (kit_isL _), _, rfl, iteF q⟩
    | tuple x => exact ⟨_, rfl, _, _, _, _, isL _, rfl, .ty "list", hv.ty, kit_ty (kit_isL _), _, rfl, iteF q⟩
    | dict x => exact ⟨_, rfl, _, _, _, _, isL _, rfl, .ty "list", hv.ty, kit_ty (kit_isL _), _, rfl, iteF q⟩
    | list ds =>
      refine ⟨_, rfl, _, _, _, _, isL (.list ds), rfl, .ty "list", hv.ty, kit_ty (kit_isL _), _, rfl, iteT ?_⟩
      cases hv with
      | @lst a xs _ ha hn ts =>
        have q' : Q (.bl (decide (lo ≤ (ds.length : Int)) && decide ((ds.length : Int) ≤ hi))) H := q
        rw [← ts.len] at q'
        refine ⟨_, rfl, _, rfl, a, xs, rfl, .inl (SqL.of ha), lo, _, rfl, rfl, _, rfl, ?_⟩
        by_cases h1 : lo ≤ (xs.length : Int)
        · rw [decide_eq_true h1] at q' ⊢
          refine iteT ⟨_, rfl, _, hi, rfl, rfl, ?_⟩
          rw [Bool.true_and] at q'
          exact q'
        · rw [decide_eq_false h1] at q' ⊢
          exact iteF q'
theorem scRRow : FnScope ["thing", "least", "most", "one"] ["thing", "least", "most"] (defScope sRRow) := ⟨rfl, rfl, rfl, by decide +kernel, rfl, by decide +kernel, by decide +kernel⟩
theorem all_mapZ (p : PyData → Bool) (os : List PyData) : (os.map p).all id = os.all p := by
  induction os with
  | nil => rfl
  | cons o os ih => rw [List.map_cons, List.all_cons, List.all_cons, ih]; rfl
theorem ok_RRowZ {f fL fR : Addr} {fd fdL fdR : FuncData} {k : Nat} (F : Fun K "is_ratio_row" "is_ratio_row" sRRow f fd) (GL : FnOk P w K mg base CX0 k fL fdL ["thing", "least", "most"] (spListOfZ K)) (kL : PySem.W.keepIn K (.ref fL) = true) (bL : Binds K fdL ["thing", "least", "most"] []) (gL : mg "is_list_of" = some (.ref fL)) (GR : FnOk P w K mg base CX0 k fR fdR ["thing"] (spIsRZ K)) (kR : PySem.W.keepIn K (.ref fR) = true) (bR : Binds K fdR ["thing"] []) (gR : mg "is_ratio" = some (.ref fR)) (B : Blt mg) : FnOk P w K mg base CX0 (k + 1) f fd ["thing", "least", "most"] (spRowZ K) := by
  refine F.ok scRRow (fun vs H Q E h => ?_) (fun cdv A outer s H vs Q E hr h => ?_)
  · obtain ⟨ex, v, d, lo, hi, rfl, _⟩ := h
    rfl
  · obtain ⟨ex, v, d, lo, hi, rfl, hv, h6, q⟩ := h
    refine ⟨_, (pss_one (ps_ret (pe_and (pe_call GL hr (by rfl) gL kL bL .nil pass0 (pa_cons (pv 0) (pa_cons (pv 1) (pa_cons (pv 2) pa_nil)))) (pe_one (pe_callB (cr_all rfl) (by rfl) B.all_ (by decide +kernel) (pa_cons (pe_lc (own := [("one", 3)]) (g := gName 3) (tt := tYes) (te := (tCall (spIsRZ K) [] E0 (tCons (tVar 3) tNil))) rfl scRRow.nd (pi_list (pv 0)) (blkOk_by (N := ["thing", "least", "most", "one"]) (sc := defScope sRRow) (by decide +kernel)) (fun _ _ _ _ _ => (pg_name (i := 3) scRRow.nd rfl (Or.inl rfl))) (fun _ _ _ _ _ => pts_nil) (fun _ _ _ _ _ => (pe_call GR hr (by rfl) gR kR bR .nil pass0 (pa_cons (pv 3) pa_nil)))) pa_nil)))))), ?_⟩
    refine ⟨_, rfl, _, rfl, _, rfl, ex, v, d, lo, hi, rfl, hv, _, rfl, ?_⟩
    unfold rowOkZ at q
    cases c0 : lenOk (lenD d) lo hi with
    | false =>
      rw [c0] at q
      exact iteF (q _ (Same.refl _))
    | true =>
      rw [c0, Bool.true_and] at q
      refine iteT ?_
      obtain ⟨ds, rfl, l1, l2⟩ := lenOk_list c0
      cases hv with
      | @lst r cs _ hr0 hn hc =>
        refine ⟨_, rfl, r, rfl, ⟨_, SqL.of hr0⟩, fun D hD => lc_list (K := K) (a := r) (xs := cs) (fun i H' => H' = upd H D (.lst (((ds.take i).map fun e => (ratD e).isSome).map V.bl))) rfl (fun i H' _ e => by rw [e]; exact SqL.of (same_new hD _ _ _ hr0)) ?_ ?_⟩
        · rintro i v H' hi' rfl
          obtain ⟨d, e1, e2⟩ := hc.at_ hi'
          refine ⟨rfl, tYes_of ?_⟩
          refine ⟨_, rfl, ex, v, d, rfl, e2.same (same_new hD _), _, upd_same, ?_, ?_⟩
          · rw [List.length_map, List.length_map, List.length_take]
            exact small1000 (by omega)
          · rw [upd_upd, List.take_add_one, e1, List.map_append, List.map_append]
            rfl
        · rintro H' rfl
          rw [hc.len, List.take_length]
          refine ⟨D, ds.map fun e => (ratD e).isSome, rfl, SqL.of upd_same, ?_⟩
          rw [all_mapZ]
          exact q _ (same_new hD _)
theorem scWrong : FnScope ["rows", "is_row", "least", "most", "number", "row"] ["rows", "is_row", "least", "most"] (defScope sWrong) := ⟨rfl, rfl, rfl, by decide +kernel, rfl, by decide +kernel, by decide +kernel⟩
theorem ok_WrongZ {f fR : Addr} {fd fdR : FuncData} {k : Nat} (F : Fun K "wrong_row" "wrong_row" sWrong f fd) (GR : FnOk P w K mg base CX0 k fR fdR ["thing", "least", "most"] (spRowZ K)) (kR : PySem.W.keepIn K (.ref fR) = true) (bR : Binds K fdR ["thing", "least", "most"] []) (B : Blt mg) : FnOk P w K mg base CX0 (k + 1) f fd ["rows", "is_row", "least", "most"] (spWrongZ K fR) := by
  refine F.ok scWrong (fun vs H Q E h => ?_) (fun cdv A outer s H vs Q E hr h => ?_)
  · obtain ⟨ex, a, rs, ds, lo, hi, rfl, _⟩ := h
    rfl
  · obtain ⟨ex, a, rs, ds, lo, hi, rfl, ha, hw, h6, q⟩ := h
    refine ⟨_, (pss_cons (ps_for PassesOwn.never rfl (pi_enum (by rfl) B.enumerate_ (pa_cons (pv 0) pa_nil)) (pg_tup rfl (pgs_cons (pg_name (i := 4) scWrong.nd rfl (.inl rfl)) (pgs_cons (pg_name (i := 5) scWrong.nd rfl (.inl rfl)) pgs_nil))) (pss_cons (ps_if (pt_not (pt_val (pe_callL (i := 1) GR hr rfl (.inl rfl) kR bR .nil pass0 (pa_cons (pv 5) (pa_cons (pv 2) (pa_cons (pv 3) pa_nil)))))) (pss_one (ps_ret (pv 4))) pss_nil)
      (pss_one (ps_asg2 (pe_callB call_len_seq (by rfl) B.len_ PySem.boot_len (pa_cons (pv 5) pa_nil)) (pg_name (i := 2) scWrong.nd rfl (.inl rfl)) (pg_name (i := 3) scWrong.nd rfl (.inl rfl))))))
      (pss_one (ps_ret pe_non))), ?_⟩
    refine ⟨_, rfl, a, _, rfl, SqL.of ha, for_it (walk_enum (K := K) (a := a) (xs := rs)) (fun i σ H' => ∃ (lo' hi' : Int) (y4 y5 : Option V), σ = [some (.ref a), some (.ref fR), some (.int lo'), some (.int hi'), y4, y5] ∧ Same H H' ∧ hi' ≤ 6 ∧ firstWrongZ ds 0 lo hi = firstWrongZ (ds.drop i) i lo' hi')
      ⟨lo, hi, none, none, rfl, Same.refl _, h6, by rw [List.drop_zero]⟩ (fun i σ H' _ ⟨_, _, _, _, _, s5, _⟩ => SqL.of (s5 _ _ ha)) ?_ ?_⟩
    · rintro i x σ H1 H2 hi1 ⟨lo', hi', y4, y5, rfl, s5, h6', fw⟩ ⟨T, u, v, rfl, nT, rfl, e1, e2⟩
      have eu : u = .int (i : Nat) := (Option.some.inj e1).symm
      subst eu
      obtain ⟨d, f1, f2⟩ := hw.at_ e2
      have s6 := s5.trans (same_new nT (.tup [.int (i : Nat), v]))
      refine ⟨T, _, rfl, SqT.of upd_same, rfl, _, _, rfl, _, _, rfl, rfl, ?_⟩
      refine ⟨rfl, _, rfl, _, rfl, _, rfl, ex, v, d, lo', hi', rfl, f2.same s6, h6', fun H3 s7 => ?_⟩
      rw [firstWrongZ_drop f1] at fw
      cases c : rowOkZ d lo' hi' with
      | false =>
        rw [if_neg (by rw [c]; decide)] at fw
        rw [fw] at q
        exact ⟨_, rfl, iteT ⟨_, rfl, q _ (s6.trans s7)⟩⟩
      | true =>
        rw [if_pos c] at fw
        refine ⟨_, rfl, iteF ?_⟩
        unfold rowOkZ at c
        rw [Bool.and_eq_true] at c
        obtain ⟨es, rfl, l1, l2⟩ := lenOk_list c.1
        cases f2 with
        | @lst r cs _ hr0 hn hc =>
          refine ⟨_, rfl, r, cs, rfl, .inl (SqL.of ((s6.trans s7) _ _ hr0)), ?_⟩
          rw [hc.len]
          exact ⟨_, _, _, _, rfl, s6.trans s7, by omega, fw⟩
    · rintro σ H1 ⟨lo', hi', y4, y5, rfl, s5, _, fw⟩
      rw [hw.len, List.drop_length] at fw
      rw [fw] at q
      exact q H1 s5
theorem scCopied : FnScope ["rows", "row"] ["rows"] (defScope sCopied) := ⟨rfl, rfl, rfl, by decide +kernel, rfl, by decide +kernel, by decide +kernel⟩
theorem ok_Copied {f : Addr} {fd : FuncData} {k : Nat} (F : Fun K "copied_rows" "copied_rows" sCopied f fd) (B : Blt mg) : FnOk P w K mg base CX0 (k + 1) f fd ["rows"] (spCopied K) := by
  refine F.ok scCopied (fun vs H Q E h => ?_) (fun cdv A outer s H vs Q E hr h => ?_)
  · obtain ⟨a, rs, rss, n, rfl, _⟩ := h
    rfl
  · obtain ⟨a, rs, rss, n, rfl, hw, hlen, q⟩ := h
    refine ⟨_, pss_one (ps_ret (pe_lc (own := [("row", 1)]) (g := gName 1) (tt := tYes) (te := tCB (rListOf K) (tCons (tVar 1) tNil)) rfl scCopied.nd (pi_list (pv 0)) (blkOk_by (N := ["rows", "row"]) (sc := defScope sCopied) (by decide +kernel)) (fun _ _ _ _ _ => pg_name (i := 1) scCopied.nd rfl (Or.inl rfl)) (fun _ _ _ _ _ => pts_nil)
      (fun _ _ _ _ _ => pe_callTy (T := "list") call_list_of (by rfl) B.list_ (by decide +kernel) (pa_cons (pv 1) pa_nil)))), ?_⟩
    -- an address that stays out of the way: D itself
    refine ⟨_, rfl, a, rfl, ⟨_, SqL.of hw.1⟩, fun D hD => lc_list (K := K) (a := a) (xs := rs.map V.ref) (fun i H' => ∃ rs', rs'.length = i ∧ H' D = some (.lst (rs'.map V.ref)) ∧ rs'.Nodup ∧ D ∉ rs' ∧ (∀ x ∈ rs', H x = none) ∧ Same H H' ∧ RowsAt K H' n rs' (rss.take i))
      ⟨[], rfl, upd_same, List.nodup_nil, by simp, fun x hx => by simp at hx, same_new hD _, RowsAt.nil⟩ (fun i H' _ ⟨_, _, _, _, _, _, s5, _⟩ => SqL.of (s5 _ _ hw.1)) ?_ ?_⟩
    · rintro i v H' hi ⟨rs', hl', hD', nd', ne', fr', s5, ra⟩
      obtain ⟨r, er, rfl⟩ : ∃ r, rs[i]? = some r ∧ v = .ref r := by
        rw [List.getElem?_map] at hi
        cases e : rs[i]? with
        | none => rw [e] at hi; cases hi
        | some r => rw [e] at hi; exact ⟨r, rfl, (Option.some.inj hi).symm⟩
      obtain ⟨cs, qs, e3, e4, e5⟩ := hw.2.2 i r er
      refine ⟨rfl, ?_⟩
      unfold tYes
      dsimp only
      refine iteT ?_
      refine ⟨_, rfl, r, cs, rfl, .inl (SqL.of (s5 _ _ e4)), fun l hl => ?_⟩
      have s6 := same_new hl (.lst cs)
      have hlD : l ≠ D := fun e => by
        rw [e, hD'] at hl
        cases hl
      have hil : i < rss.length := (List.getElem?_eq_some_iff.mp e3).1
      refine ⟨_, s6 _ _ hD', ?_, rs' ++ [l], ?_, ?_, ?_, ?_, ?_, ?_, ?_⟩
      · rw [List.length_map]
        exact small1000 (by omega)
      · rw [List.length_append, hl']
        rfl
      · rw [upd_same, List.map_append]
        rfl
      · rw [List.nodup_append]
        refine ⟨nd', by simp, fun x hx y hy => ?_⟩
        have ey : y = l := by simpa using hy
        rw [ey]
        intro e
        obtain ⟨j, hj, ej⟩ := List.getElem_of_mem hx
        obtain ⟨c', q', _, z2, _⟩ := ra.2 j x (by rw [List.getElem?_eq_getElem hj, ej])
        rw [e, hl] at z2
        cases z2
      · intro hm
        rcases List.mem_append.mp hm with hm | hm
        · exact ne' hm
        · exact hlD (by simpa using hm : D = l).symm
      · intro x hx
        rcases List.mem_append.mp hx with hx | hx
        · exact fr' x hx
        · have ex : x = l := by simpa using hx
          rw [ex]
          exact s5.free hl
      · intro b u e
        rw [upd_ne (ne_of_none e hD)]
        exact s6 _ _ (s5 _ _ e)
      · have sD : SameB D (upd H' l (.lst cs)) (upd (upd H' l (.lst cs)) D (.lst (rs'.map V.ref ++ [V.ref l]))) := SameB.upd
        have t := ((ra.same s6).keep sD (s6 _ _ hD') ne').snoc (r := l) (cs := cs) (qs := qs) (by rw [upd_ne hlD, upd_same]) ((e5.same (s5.trans s6)).keep (sD.tup (s6 _ _ hD')))
        rw [List.take_add_one, e3]
        exact t
    · rintro H' ⟨rs', hl', hD', nd', ne', fr', s5, ra⟩
      rw [List.length_map, hw.2.1, List.take_length] at ra
      exact q D rs' H' ⟨⟨hD', ra⟩, nd', ne', hD, fr', s5⟩
theorem scNcInit : FnScope ["self", "part", "number"] ["self", "part", "number"] (defScope sNcInit) := ⟨rfl, rfl, rfl, by decide +kernel, rfl, by decide +kernel, by decide +kernel⟩
theorem ok_NcInit {CN fN : Addr} {fd : FuncData} {k : Nat} (F : Fun K "__init__" "NoCase.__init__" sNcInit fN fd) (T : NcT K mg CN fN) (B : Blt mg) : FnOk P w K mg base CX0 (k + 1) fN fd ["self", "part", "number"] (spE2 CN "part" "number") := by
  refine F.ok scNcInit (fun vs H Q E h => ?_) (fun cdv A outer s H vs Q E hr h => ?_)
  · obtain ⟨a, v, u, rfl, _⟩ := h
    rfl
  · obtain ⟨a, v, u, rfl, ha, q⟩ := h
    refine ⟨_, pss_cons (ps_expr (pe_veinit (by rfl) B.ValueError_ T.vV (pa_cons (pv 0) (pa_cons pe_str pa_nil)))) (pss_cons (ps_ost (pv 0) (pv 1)) (pss_one (ps_ost (pv 0) (pv 2)))), ?_⟩
    refine ⟨_, rfl, a, CN, _, rfl, (by show 1 ≤ 1000; decide), T.o, ha, ?_⟩
    refine ⟨_, rfl, _, rfl, a, CN, rfl, T.o, T.n1, .inl ⟨ha, fun dx hdx hne => ?_⟩⟩
    refine ⟨_, rfl, _, rfl, a, CN, rfl, T.o, T.n2, .inr ⟨dx, _, upd_same, by rw [upd_ne hne, upd_same], (by show 1 ≤ 900; decide), ?_⟩⟩
    rw [Rs.upd_swap hne]
    exact q dx hdx hne
theorem scChkS : FnScope ["shares", "number", "share"] ["shares"] (defScope sChkS) := ⟨rfl, rfl, rfl, by decide +kernel, rfl, by decide +kernel, by decide +kernel⟩
theorem ok_ChkS {f fL fS fT CN fN C fI : Addr} {fd fdL fdS fdT fdN : FuncData} {k : Nat} (F : Fun K "check_shares" "check_shares" sChkS f fd) (T : CaT K mg C fI) (N : NcT K mg CN fN) (GN : FnOk P w K mg base CX0 k fN fdN ["self", "part", "number"] (spE2 CN "part" "number")) (bN : Binds K fdN ["self", "part", "number"] [])
    (GL : FnOk P w K mg base CX0 k fL fdL ["thing", "least", "most"] (spListOfZ K)) (kL : PySem.W.keepIn K (.ref fL) = true) (bL : Binds K fdL ["thing", "least", "most"] []) (gL : mg "is_list_of" = some (.ref fL)) (GS : FnOk P w K mg base CX0 k fS fdS ["thing"] (spShareZ K)) (kS : PySem.W.keepIn K (.ref fS) = true) (bS : Binds K fdS ["thing"] []) (gS : mg "is_share" = some (.ref fS))
    (GT : FnOk P w K mg base CX0 k fT fdT ["some", "start"] (spTotal K)) (kT : PySem.W.keepIn K (.ref fT) = true) (bT : ∃ ds, Vals [V.non] ds ∧ Binds K fdT ["some", "start"] ds) (gT : mg "total" = some (.ref fT)) (B : Blt mg) : FnOk P w K mg base (L2.CX P w) (k + 2) f fd ["shares"] (spChkS K CN) := by
  obtain ⟨t5, g5⟩ := T.g5
  obtain ⟨dft, vd, bTd⟩ := bT
  refine F.okX scChkS (fun vs H Q E h => ?_) (fun cdv A outer s H vs Q E hr h => ?_)
  · obtain ⟨ex, v, d, rfl, _⟩ := h
    rfl
  · obtain ⟨ex, v, d, rfl, hv, few, qE, q⟩ := h
    have hk : Room k _ := hr.mono (by omega)
    refine ⟨_, (pss_cons (ps_if (pt_not (pt_val (pe_call GL hk (by rfl) gL kL bL .nil pass0 (pa_cons (pv 0) (pa_cons pe_int (pa_cons (pe_glob (v := .int 5) (by rfl) g5 ⟨_, rfl⟩) pa_nil)))))) (pss_one (ps_raise (W := fun cls d _ H' => E cls d H') rfl (takes_of rfl rfl rfl rfl) (pmk_oex N.o N.i N.t GN hr bN .nil pass0 (by rfl) N.g (pa_cons pe_str (pa_cons pe_non pa_nil))))) pss_nil)
      (pss_cons (ps_for (passes_of rfl) rfl (pi_enum (by rfl) B.enumerate_ (pa_cons (pv 0) pa_nil)) (pg_tup rfl (pgs_cons (pg_name (i := 1) scChkS.nd rfl (.inl rfl)) (pgs_cons (pg_name (i := 2) scChkS.nd rfl (.inl rfl)) pgs_nil))) (pss_one (ps_if (pt_not (pt_val (pe_call GS hk (by rfl) gS kS bS .nil pass0 (pa_cons (pv 2) pa_nil)))) (pss_one (ps_raise (W := fun cls d _ H' => E cls d H') rfl (takes_of rfl rfl rfl rfl) (pmk_oex N.o N.i N.t GN hr bN .nil pass0 (by rfl) N.g (pa_cons pe_str (pa_cons (pv 1) pa_nil))))) pss_nil)))
      (pss_one (ps_if (pt_cmpR (op_neD hk.units) (pe_call GT hk (by rfl) gT kT bTd vd pass0 (pa_cons (pv 0) pa_nil)) (pe_tup (pa_cons pe_int (pa_cons pe_int pa_nil))) (nomark _)) (pss_one (ps_raise (W := fun cls d _ H' => E cls d H') rfl (takes_of rfl rfl rfl rfl) (pmk_oex N.o N.i N.t GN hr bN .nil pass0 (by rfl) N.g (pa_cons pe_str (pa_cons pe_non pa_nil))))) pss_nil)))), ?_⟩
    refine ⟨_, rfl, ex, v, d, 1, 5, rfl, hv, _, rfl, ?_⟩
    unfold badS at qE q
    cases c0 : lenOk (lenD d) 1 5 with
    | false =>
      rw [c0] at qE
      exact iteT (mk2 fun dd hdd => qE .non rfl _ dd (same_new hdd _) upd_same)
    | true =>
      rw [c0, if_pos rfl] at qE q
      refine iteF ?_
      obtain ⟨ds, rfl, l1, l2⟩ := lenOk_list c0
      cases hv with
      | @lst a xs _ ha hn ts =>
        have hxl := ts.len
        refine ⟨_, rfl, a, _, rfl, SqL.of ha, for_it (walk_enum (K := K) (a := a) (xs := xs)) (fun i σ H' => ∃ y1 y2 : Option V, σ = [some (.ref a), y1, y2] ∧ Same H H' ∧ firstNot shD ds 0 = firstNot shD (ds.drop i) i)
          ⟨none, none, rfl, Same.refl _, by rw [List.drop_zero]⟩ (fun i σ H' _ ⟨_, _, _, s5, _⟩ => SqL.of (s5 _ _ ha)) ?_ ?_⟩
        · rintro i x σ H1 H2 hi ⟨y1, y2, rfl, s5, fb⟩ ⟨TT, u, vv, rfl, nT, rfl, e1, e2⟩
          cases (Option.some.inj e1)
          obtain ⟨d, f1, f2⟩ := ts.at_ e2
          have sT := same_new nT (.tup [V.int (i : Nat), vv])
          refine ⟨TT, _, rfl, SqT.of upd_same, rfl, _, _, rfl, _, _, rfl, rfl, ?_⟩
          refine ⟨_, rfl, ex, vv, d, rfl, f2.same (s5.trans sT), _, rfl, ?_⟩
          rw [firstNot_drop f1] at fb
          cases c : shD d with
          | true =>
            rw [if_pos c] at fb
            exact iteF ⟨_, _, rfl, s5.trans sT, fb⟩
          | false =>
            rw [if_neg (by rw [c]; decide)] at fb
            refine iteT ⟨_, rfl, mk2 fun dx hdx => qE (V.int (i : Nat)) ?_ _ dx (s5.trans (sT.trans (same_new hdx _))) upd_same⟩
            show numS (firstNot shD ds 0) (sumD ds) = _
            rw [fb]
            rfl
        · rintro σ H1 ⟨y1, y2, rfl, s5, fb⟩
          rw [ts.len, List.drop_length] at fb
          have hall := firstNot_all (show firstNot shD ds 0 = none from fb)
          have hrat : ds.all (fun e => (ratD e).isSome) = true := by
            rw [List.all_eq_true] at hall ⊢
            intro e he
            have := hall e he
            unfold shD at this
            cases z : ratD e with
            | none => rw [z] at this; cases this
            | some q => rfl
          obtain ⟨qs, g1, g2⟩ := ts.rats (n := 1000) few hrat
          have hql : qs.length ≤ 5 := by
            have : ds.length = qs.length := by rw [g1, List.length_map]
            omega
          have eqE : numS (firstNot shD (itemsD (.list ds)) 0) (sumD (itemsD (.list ds))) = if qs.sum = 1 then none else some .non := by
            show numS (firstNot shD ds 0) (sumD ds) = _
            rw [show firstNot shD ds 0 = none from fb, g1, sumD_dR]
            rfl
          rw [eqE] at qE q
          refine ⟨_, rfl, a, xs, qs, 1000, rfl, SqL.of (s5 _ _ ha), g2.same s5, ?_, fun rt H2 s6 e6 => ?_⟩
          · have : (1000 + 1) * qs.length ≤ 1001 * 5 := Nat.mul_le_mul_left _ hql
            omega
          refine ⟨(by show 2 ≤ sizeLine; decide), fun p hp => ?_⟩
          have s7 := same_new hp (.tup (rp 1))
          refine ⟨dR qs.sum, dR 1, dp_r (seqT s7 e6), dp_r (q := 1) (SqT.of upd_same), dR_shaped _, dR_shaped _, _, rfl, ?_⟩
          rw [eqv_dR]
          by_cases c5 : qs.sum = 1
          · rw [decide_eq_true c5]
            rw [if_pos c5] at q
            exact iteF (q rfl _ ((s5.trans s6).trans s7))
          · rw [decide_eq_false c5]
            rw [if_neg c5] at qE
            exact iteT (mk2 fun dx hdx => qE .non rfl _ dx ((s5.trans s6).trans (s7.trans (same_new hdx _))) upd_same)
theorem scChkG : FnScope ["part", "rows", "worlds", "least", "most", "wrong"] ["part", "rows", "worlds", "least", "most"] (defScope sChkG) := ⟨rfl, rfl, rfl, by decide +kernel, rfl, by decide +kernel, by decide +kernel⟩
theorem ok_ChkG {f fL fW fR CN fN : Addr} {fd fdL fdW fdN : FuncData} {k : Nat} (F : Fun K "check_gains" "check_gains" sChkG f fd) (N : NcT K mg CN fN) (GN : FnOk P w K mg base CX0 k fN fdN ["self", "part", "number"] (spE2 CN "part" "number")) (bN : Binds K fdN ["self", "part", "number"] [])
    (GL : FnOk P w K mg base CX0 k fL fdL ["thing", "least", "most"] (spListOfZ K)) (kL : PySem.W.keepIn K (.ref fL) = true) (bL : Binds K fdL ["thing", "least", "most"] []) (gL : mg "is_list_of" = some (.ref fL)) (GW : FnOk P w K mg base CX0 k fW fdW ["rows", "is_row", "least", "most"] (spWrongZ K fR)) (kW : PySem.W.keepIn K (.ref fW) = true) (bW : Binds K fdW ["rows", "is_row", "least", "most"] []) (gW : mg "wrong_row" = some (.ref fW)) (gR : mg "is_ratio_row" = some (.ref fR)) : FnOk P w K mg base (L2.CX P w) (k + 2) f fd ["part", "rows", "worlds", "least", "most"] (spChkG K CN) := by
  refine F.okX scChkG (fun vs H Q E h => ?_) (fun cdv A outer s H vs Q E hr h => ?_)
  · obtain ⟨ex, pt, v, d, ww, lo, hi, rfl, _⟩ := h
    rfl
  · obtain ⟨ex, pt, v, d, ww, lo, hi, rfl, hv, h6, qE, q⟩ := h
    have hk : Room k _ := hr.mono (by omega)
    refine ⟨_, (pss_cons (ps_if (pt_not (pt_val (pe_call GL hk (by rfl) gL kL bL .nil pass0 (pa_cons (pv 1) (pa_cons (pv 2) (pa_cons (pv 2) pa_nil)))))) (pss_one (ps_raise (W := fun cls d _ H' => E cls d H') rfl (takes_of rfl rfl rfl rfl) (pmk_oex N.o N.i N.t GN hr bN .nil pass0 (by rfl) N.g (pa_cons (pv 0) (pa_cons pe_non pa_nil))))) pss_nil)
      (pss_cons (ps_set (i := 5) scChkG.nd rfl (.inl rfl) (pe_call GW hk (by rfl) gW kW bW .nil pass0 (pa_cons (pv 1) (pa_cons (pe_glob (v := .ref fR) (by rfl) gR rfl) (pa_cons (pv 3) (pa_cons (pv 4) pa_nil))))))
      (pss_one (ps_if (pt_cmpR op_notN (pv 5) pe_non (nomark _)) (pss_one (ps_raise (W := fun cls d _ H' => E cls d H') rfl (takes_of rfl rfl rfl rfl) (pmk_oex N.o N.i N.t GN hr bN .nil pass0 (by rfl) N.g (pa_cons (pv 0) (pa_cons (pv 5) pa_nil))))) pss_nil)))), ?_⟩
    refine ⟨_, rfl, _, rfl, _, rfl, ex, v, d, ww, ww, rfl, hv, _, rfl, ?_⟩
    unfold badG at qE q
    cases c0 : lenOk (lenD d) ww ww with
    | false =>
      rw [c0] at qE
      exact iteT ⟨_, rfl, mk2 fun dd hdd => qE .non rfl _ dd (same_new hdd _) upd_same⟩
    | true =>
      rw [c0, if_pos rfl] at qE q
      refine iteF ?_
      obtain ⟨ds, rfl, l1, l2⟩ := lenOk_list c0
      cases hv with
      | @lst a xs _ ha hn ts =>
        refine ⟨_, rfl, _, rfl, _, rfl, ex, a, xs, ds, lo, hi, rfl, ha, ts, h6, fun H1 s1 => ?_⟩
        have qE' : ∀ r, (firstWrongZ ds 0 lo hi).map (fun j => V.int (j : Nat)) = some r → _ := qE
        have q' : (firstWrongZ ds 0 lo hi).map (fun j => V.int (j : Nat)) = none → _ := q
        cases fw : firstWrongZ ds 0 lo hi with
        | none =>
          rw [fw] at q'
          exact ⟨_, rfl, rfl, _, rfl, iteF (q' rfl _ s1)⟩
        | some j =>
          rw [fw] at qE'
          refine ⟨_, rfl, rfl, _, rfl, iteT ?_⟩
          exact ⟨_, rfl, _, rfl, mk2 fun dd hdd => qE' _ rfl _ dd (s1.trans (same_new hdd _)) upd_same⟩
theorem scCInit : FnScope ["self", "shares", "hearer", "teller", "deeds"] ["self", "shares", "hearer", "teller"] (defScope sCInit) := ⟨rfl, rfl, rfl, by decide +kernel, rfl, by decide +kernel, by decide +kernel⟩
theorem ok_CInit {fS fG fC CN C fI : Addr} {fd fdS fdG fdC : FuncData} {k : Nat} (F : Fun K "__init__" "Case.__init__" sCInit fI fd) (T : CaT K mg C fI)
    (GS : FnOk P w K mg base (L2.CX P w) k fS fdS ["shares"] (spChkS K CN)) (kS : PySem.W.keepIn K (.ref fS) = true) (bS : Binds K fdS ["shares"] []) (gS : mg "check_shares" = some (.ref fS)) (GG : FnOk P w K mg base (L2.CX P w) k fG fdG ["part", "rows", "worlds", "least", "most"] (spChkG K CN)) (kG : PySem.W.keepIn K (.ref fG) = true) (bG : Binds K fdG ["part", "rows", "worlds", "least", "most"] []) (gG : mg "check_gains" = some (.ref fG)) (GC : FnOk P w K mg base CX0 k fC fdC ["rows"] (spCopied K)) (kC : PySem.W.keepIn K (.ref fC) = true) (bC : Binds K fdC ["rows"] []) (gC : mg "copied_rows" = some (.ref fC)) (B : Blt mg) : FnOk P w K mg base (L2.CX P w) (k + 1) fI fd ["self", "shares", "hearer", "teller"] (spCInit K C CN) := by
  obtain ⟨t6, g6⟩ := T.g6
  refine F.okX scCInit (fun vs H Q E h => ?_) (fun cdv A outer s H vs Q E hr h => ?_)
  · obtain ⟨ex, n, x, dx, vs0, vh, vt, ds, dh, dt, rfl, _⟩ := h
    rfl
  · obtain ⟨ex, n, x, dx, vs0, vh, vt, ds, dh, dt, rfl, hx, hs, hh, ht, hn, fs, fh, ft, qE, q⟩ := h
    have hk := hr
    refine ⟨_, (pss_cons (ps_expr (pe_call GS hk (by rfl) gS kS bS .nil (passes_call (W := fun cls d _ H' => E cls d H') (takes_of rfl rfl rfl rfl) (fun _ _ _ _ h => h)) (pa_cons (pv 1) pa_nil)))
      (pss_cons (ps_expr (pe_call GG hk (by rfl) gG kG bG .nil (passes_call (W := fun cls d _ H' => E cls d H') (takes_of rfl rfl rfl rfl) (fun _ _ _ _ h => h)) (pa_cons pe_str (pa_cons (pv 2) (pa_cons (pe_callB call_len_seq (by rfl) B.len_ PySem.boot_len (pa_cons (pv 1) pa_nil)) (pa_cons pe_int (pa_cons (pe_glob (v := .int 6) (by rfl) g6 ⟨_, rfl⟩) pa_nil)))))))
      (pss_cons (ps_set (i := 4) scCInit.nd rfl (.inl rfl) (pe_callB call_len_seq (by rfl) B.len_ PySem.boot_len (pa_cons (pe_ix ix_list (pv 2) pe_int (fun _ _ => rfl)) pa_nil)))
      (pss_cons (ps_expr (pe_call GG hk (by rfl) gG kG bG .nil (passes_call (W := fun cls d _ H' => E cls d H') (takes_of rfl rfl rfl rfl) (fun _ _ _ _ h => h)) (pa_cons pe_str (pa_cons (pv 3) (pa_cons (pe_callB call_len_seq (by rfl) B.len_ PySem.boot_len (pa_cons (pv 1) pa_nil)) (pa_cons (pv 4) (pa_cons (pv 4) pa_nil)))))))
      (pss_cons (ps_fld (pv 0) (pe_callTy (T := "list") call_list_of (by rfl) B.list_ (by decide +kernel) (pa_cons (pv 1) pa_nil)) rfl)
      (pss_cons (ps_fld (pv 0) (pe_call GC hk (by rfl) gC kC bC .nil pass0 (pa_cons (pv 2) pa_nil)) rfl)
      (pss_one (ps_fld (pv 0) (pe_call GC hk (by rfl) gC kC bC .nil pass0 (pa_cons (pv 3) pa_nil)) rfl)))))))), ?_⟩
    refine ⟨_, rfl, ex, vs0, ds, rfl, hs, fun d hd r e => (fs d hd r e).mono hn, fun r er => ?_, fun eS H1 s1 => ?_⟩
    · have e : badC ds dh dt = some (("shares" : Str), r) := by unfold badC; rw [er]; rfl
      exact qE _ _ e
    have c0 : lenOk (lenD ds) 1 5 = true := by
      unfold badS at eS
      split at eS
      · assumption
      · cases eS
    obtain ⟨es, rfl, l1, l5⟩ := lenOk_list c0
    have hs1 := hs.same s1
    cases hs with
    | @lst a0 xs0 _ ha0 _ ts0 =>
      have hl0 : xs0.length = es.length := ts0.len
      refine ⟨_, rfl, _, rfl, a0, xs0, rfl, .inl (SqL.of (s1 _ _ ha0)), ex, "hearer", vh, dh, _, 1, 6, rfl, hh.same s1, by decide, fun r er H' dd s' hdd => ?_, fun eH H2 s2 => ?_⟩
      · refine qE "hearer" r ?_ H' dd (s1.trans s') hdd
        unfold badC
        rw [eS]
        show orP "hearer" (badG dh (es.length : Int) 1 6) _ = _
        rw [← hl0, er]
        rfl
      have eH' : badG dh (es.length : Int) 1 6 = none := by rw [← hl0]; exact eH
      have ch : lenOk (lenD dh) (es.length : Int) (es.length : Int) = true := by
        unfold badG at eH'
        split at eH'
        · assumption
        · cases eH'
      obtain ⟨hs', rfl, m1, m2⟩ := lenOk_list ch
      have fwH : firstWrongZ hs' 0 1 6 = none := by
        unfold badG at eH'
        rw [if_pos ch] at eH'
        cases z : firstWrongZ hs' 0 1 6 with
        | none => rfl
        | some j =>
          have : (firstWrongZ hs' 0 1 6).map (fun j => V.int (j : Nat)) = none := eH'
          rw [z] at this
          cases this
      cases hh with
      | @lst a1 xs1 _ ha1 _ ts1 =>
        obtain ⟨rh, hss, w1, w2, w3⟩ := rows_of ts1 fh fwH
        have hl1 : rh.length = es.length := by
          have := ts1.len
          rw [w1, List.length_map] at this
          omega
        have h0 : 0 < rh.length := by omega
        have er0 : rh[0]? = some rh[0] := List.getElem?_eq_getElem h0
        obtain ⟨cs0, q0, z1, z2, z3⟩ := w3.2 0 _ er0
        have s12 := s1.trans s2
        have hd : (cs0.length : Int) = (deedsD (.list hs') : Int) := by
          have : deedsD (.list hs') = cs0.length := by
            unfold deedsD
            show (itemsD (hs'.headD .none)).length = _
            rw [w2]
            cases hss with
            | nil => simp at z1
            | cons r hss =>
              have er : r = q0 := Option.some.inj z1
              show (r.map dR).length = _
              rw [List.length_map, z3.len, er]
          rw [this]
        have hd6 : (cs0.length : Int) ≤ 6 := by
          cases hs' with
          | nil =>
            have : es.length ≤ 0 := by simpa using m1
            omega
          | cons r hs' =>
            rw [firstWrongZ] at fwH
            split at fwH
            · rename_i c
              unfold rowOkZ at c
              rw [Bool.and_eq_true] at c
              obtain ⟨es', e, _, l6⟩ := lenOk_list c.1
              rw [hd]
              subst e
              exact l6
            · cases fwH
        refine ⟨_, rfl, a1, _, 0, .ref rh[0], rfl, rfl, SqL.of (s12 _ _ ha1), atI_nat (j := 0) (by rw [w1, List.getElem?_map, er0]; rfl), rh[0], cs0, rfl, .inl (SqL.of (s12 _ _ z2)), ?_⟩
        refine ⟨_, rfl, _, rfl, a0, xs0, rfl, .inl (SqL.of (s12 _ _ ha0)), _, rfl, _, rfl, ex, "teller", vt, dt, _, _, _, rfl, ht.same s12, hd6, fun r er H' dd s' hdd => ?_, fun eT H3 s3 => ?_⟩
        · refine qE "teller" r ?_ H' dd (s12.trans s') hdd
          unfold badC
          rw [eS]
          show orP "hearer" (badG (.list hs') (es.length : Int) 1 6) (orP "teller" (badG dt (es.length : Int) (deedsD (.list hs') : Int) (deedsD (.list hs') : Int)) none) = _
          rw [eH', ← hd, ← hl0, er]
          rfl
        have eT' : badG dt (es.length : Int) (deedsD (.list hs') : Int) (deedsD (.list hs') : Int) = none := by rw [← hd, ← hl0]; exact eT
        have ct : lenOk (lenD dt) (es.length : Int) (es.length : Int) = true := by
          unfold badG at eT'
          split at eT'
          · assumption
          · cases eT'
        obtain ⟨ts', rfl, n1, n2⟩ := lenOk_list ct
        have fwT : firstWrongZ ts' 0 (deedsD (.list hs') : Int) (deedsD (.list hs') : Int) = none := by
          unfold badG at eT'
          rw [if_pos ct] at eT'
          cases z : firstWrongZ ts' 0 (deedsD (.list hs') : Int) (deedsD (.list hs') : Int) with
          | none => rfl
          | some j =>
            have : (firstWrongZ ts' 0 (deedsD (.list hs') : Int) (deedsD (.list hs') : Int)).map (fun j => V.int (j : Nat)) = none := eT'
            rw [z] at this
            cases this
        have good : badC (.list es) (.list hs') (.list ts') = none := by
          unfold badC
          rw [eS]
          show orP "hearer" (badG (.list hs') (es.length : Int) 1 6) (orP "teller" (badG (.list ts') (es.length : Int) (deedsD (.list hs') : Int) (deedsD (.list hs') : Int)) none) = _
          rw [eH', eT']
          rfl
        cases ht with
        | @lst a2 xs2 _ ha2 _ ts2 =>
          obtain ⟨rt, tss, v1, v2, v3⟩ := rows_of ts2 ft fwT
          have hrat : es.all (fun e => (ratD e).isSome) = true := by
            have z : firstNot shD es 0 = none := by
              unfold badS at eS
              rw [if_pos c0] at eS
              have eS' : numS (firstNot shD es 0) (sumD es) = none := eS
              cases z : firstNot shD es 0 with
              | none => rfl
              | some j => rw [z] at eS'; cases eS'
            have hall := firstNot_all z
            rw [List.all_eq_true] at hall ⊢
            intro e he
            have := hall e he
            unfold shD at this
            cases z : ratD e with
            | none => rw [z] at this; cases this
            | some q => rfl
          obtain ⟨qs, g1, g2⟩ := ts0.rats (n := n) fs hrat
          have s123 := s12.trans s3
          have hhl : hss.length ≤ 100 := by have := w3.1; omega
          have htl : tss.length ≤ 100 := by
            have := v3.1
            have z := ts2.len
            rw [v1, List.length_map] at z
            omega
          -- the fields
          refine ⟨_, rfl, a0, xs0, rfl, .inl (SqL.of (s123 _ _ ha0)), fun sa nsa => ?_⟩
          have t1 := same_new nsa (.lst xs0)
          have esa : (upd H3 sa (.lst xs0)) sa = some (.lst xs0) := upd_same
          generalize upd H3 sa (.lst xs0) = H4 at t1 esa ⊢
          have s4 := s123.trans t1
          refine ⟨_, rfl, x, C, dx, [], rfl, s4 _ _ hx, T.cl, T.n1, by decide, ?_⟩
          have kx : ∀ {H1 : Hp} {fs gs : List (Str × V)}, H1 x = some (.ins C dx fs) → ∀ b xs, SqT K H1 b xs → SqT K (upd H1 x (.ins C dx gs)) b xs := fun {H1 fs gs} hx b xs z => by
            rcases z with (z | ⟨o, z⟩) | z
            · exact .inl (.inl (by rw [upd_ne (ne_of z hx (by intro w; cases w))]; exact z))
            · exact .inl (.inr ⟨o, by rw [upd_ne (ne_of z hx (by intro w; cases w))]; exact z⟩)
            · exact .inr z
          have wh : RwL K H4 a1 rh hss n := RwL.same ⟨by rw [← w1]; exact ha1, w3⟩ s4
          have wt : RwL K H4 a2 rt tss n := RwL.same ⟨by rw [← v1]; exact ha2, v3⟩ s4
          have hx4 := s4 _ _ hx
          have hx5 : (upd H4 x (.ins C dx (putF "own_shares" (.ref sa) []))) x = some (.ins C dx [("own_shares", .ref sa)]) := upd_same
          have wh5 := Rs.RwL.ins (gs := putF "own_shares" (.ref sa) []) wh hx4
          have wt5 := Rs.RwL.ins (gs := putF "own_shares" (.ref sa) []) wt hx4
          have sa5 : (upd H4 x (.ins C dx (putF "own_shares" (.ref sa) []))) sa = some (.lst xs0) := by rw [upd_ne (ne_of esa hx4 (by intro w; cases w))]; exact esa
          have fr5 : FrN K (upd H4 x (.ins C dx (putF "own_shares" (.ref sa) []))) n xs0 qs := (g2.same s4).keep (kx hx4)
          have k5 : ∀ b ob, b ≠ x → H b = some ob → (upd H4 x (.ins C dx (putF "own_shares" (.ref sa) []))) b = some ob := fun b ob hb e => by rw [upd_ne hb]; exact s4 _ _ e
          generalize upd H4 x (.ins C dx (putF "own_shares" (.ref sa) [])) = H5 at hx5 wh5 wt5 sa5 fr5 k5 ⊢
          refine ⟨_, rfl, a1, rh, hss, n, rfl, wh5, hhl, fun hA rh' H6 fr6 => ?_⟩
          have s6 := fr6.2.2.2.2.2
          have hx6 := s6 _ _ hx5
          refine ⟨_, rfl, x, C, dx, _, rfl, hx6, T.cl, T.n2, (by show 1 < 1000; decide), ?_⟩
          have hx7 : (upd H6 x (.ins C dx (putF "own_hearer" (.ref hA) [("own_shares", .ref sa)]))) x = some (.ins C dx [("own_shares", .ref sa), ("own_hearer", .ref hA)]) := upd_same
          have wA7 := Rs.RwL.ins (gs := putF "own_hearer" (.ref hA) [("own_shares", .ref sa)]) fr6.1 hx6
          have wt7 := Rs.RwL.ins (gs := putF "own_hearer" (.ref hA) [("own_shares", .ref sa)]) (wt5.same s6) hx6
          have sa7 : (upd H6 x (.ins C dx (putF "own_hearer" (.ref hA) [("own_shares", .ref sa)]))) sa = some (.lst xs0) := by rw [upd_ne (ne_of (s6 _ _ sa5) hx6 (by intro w; cases w))]; exact s6 _ _ sa5
          have fr7 : FrN K (upd H6 x (.ins C dx (putF "own_hearer" (.ref hA) [("own_shares", .ref sa)]))) n xs0 qs := (fr5.same s6).keep (kx hx6)
          have k7 : ∀ b ob, b ≠ x → H b = some ob → (upd H6 x (.ins C dx (putF "own_hearer" (.ref hA) [("own_shares", .ref sa)]))) b = some ob := fun b ob hb e => by rw [upd_ne hb]; exact s6 _ _ (k5 b ob hb e)
          generalize upd H6 x (.ins C dx (putF "own_hearer" (.ref hA) [("own_shares", .ref sa)])) = H7 at hx7 wA7 wt7 sa7 fr7 k7 ⊢
          refine ⟨_, rfl, a2, rt, tss, n, rfl, wt7, htl, fun tA rt' H8 fr8 => ?_⟩
          have s8 := fr8.2.2.2.2.2
          have hx8 := s8 _ _ hx7
          refine ⟨_, rfl, x, C, dx, _, rfl, hx8, T.cl, T.n3, (by show 2 < 1000; decide), ?_⟩
          refine q good sa hA tA xs0 rh' rt' qs hss tss _ (fun b ob hb e => ?_) upd_same ?_ ((fr7.same s8).keep (kx hx8)) (Rs.RwL.ins (wA7.same s8) hx8) (Rs.RwL.ins fr8.1 hx8) (by rw [g1]) (by rw [w2]; rfl) (by rw [v2]; rfl)
          · rw [upd_ne hb]
            exact s8 _ _ (k7 b ob hb e)
          · rw [upd_ne (ne_of (s8 _ _ sa7) hx8 (by intro w; cases w))]
            exact s8 _ _ sa7
end
end K35

set_option Elab.async false
set_option linter.all false
set_option maxRecDepth 100000
set_option maxHeartbeats 16000000
namespace K35
open PySem PySem.Spec PyProof.Rows L2 BX EXB Co Ru
open Dz Cs Hr
open Rs (Rsp Rv Ret tYes_of dV datR Flat Okr spShares spRowsL spTotal spCopied eqv_dR)
open Fr (Bd)
structure NsT (K : PySem.W.Frag) (mg : Str → Option Value) (C fI : Addr) : Prop where
  g : mg "NoShares" = some (.ref C)
  i : PySem.W.findIn K (.ref C) "__init__" = some (some (.ref fI))
  t : PySem.W.typeIn K (.ref fI) = some (.type "function")
  ex : ExcC K C
  o : OexC K C
  x : ExC K C "ValueError.__new__" [.type "ValueError", .type "Exception", .type "BaseException", .type "object"]
  vV : PySem.W.findCls K (.type "ValueError") (.type "type") "__init__" = some (.val (.builtin "ValueError.__init__"))
  nn : PySem.W.exmOne K (.ref C) (.ref C) = some true
  kV : PySem.W.kitOne K (.ref C) (.type "ValueError") = some true
/-- shares for the worlds, of any things -/
def shRowZ (d : PyData) (lo hi : Int) : Bool := lenOk (lenD d) lo hi && ((itemsD d).all shD && decide (sumD (itemsD d) = 1))
def spShRowZ (K : PySem.W.Frag) : Sp := fun vs H Q _ => ∃ (ex : Addr → Prop) (v : V) (d : PyData) (lo hi : Int), vs = [v, .int lo, .int hi] ∧ Dz.Dz K H ex v d ∧ hi ≤ 6 ∧ Few 1000 (itemsD d) ∧ ∀ H', Same H H' → Q (.bl (shRowZ d lo hi)) H'
def dotq (ss ps : List Rat) : Rat := (List.zipWith (· * ·) ss ps).sum
/-- prices that were made -/
structure PrT (K : PySem.W.Frag) (H : Hp) (Pr : Addr) (ps : List Rat) (ww : Nat) : Prop where
  at_ : ∃ (W I : Addr) (cs : List V), SqT K H Pr [.ref W, .ref I] ∧ SqL K H W cs ∧ FrN K H 100 cs ps
  l : ps.length = ww
theorem PrT.same {K : PySem.W.Frag} {H H' : Hp} {Pr : Addr} {ps : List Rat} {ww : Nat} (h : PrT K H Pr ps ww) (s : Same H H') : PrT K H' Pr ps ww :=
  let ⟨⟨W, I, cs, a, b, c⟩, l⟩ := h; ⟨⟨W, I, cs, seqT s a, s.seq b, c.same s⟩, l⟩
def spBound (K : PySem.W.Frag) (C CS : Addr) : Sp := fun vs H Q E => ∃ (ex : Addr → Prop) (x Pr : Addr) (v : V) (d : PyData) (qs : List Rat) (hss tss : List (List Rat)) (ps : List Rat) (ww dd : Nat), vs = [.ref x, .ref Pr, v] ∧ IsCase K H C x qs hss tss 8 ∧ GoodC qs hss tss ww dd ∧ PrT K H Pr ps ww ∧
  ((v = .non ∧ d = dS qs) ∨ (v ≠ .non ∧ Dz.Dz K H ex v d ∧ Few 20 (itemsD d))) ∧ (shRowZ d (ww : Int) (ww : Int) = false → ∀ H', Same H H' → E (.ref CS) none H') ∧
  (∀ ss, d = dS ss → ss.length = ww → shRowZ d (ww : Int) (ww : Int) = true → ∀ p H', Same H H' → SqT K H' p (rp (dotq ss ps)) → Q (.ref p) H')
theorem few_dR {qs : List Rat} {n : Nat} (h : ∀ q ∈ qs, Bd n q) : Few n (qs.map dR) := fun d hd q e => by
  obtain ⟨r, hr, rfl⟩ := List.mem_map.mp hd
  rw [ratD_dR] at e
  cases e
  exact h _ hr
theorem lst_inv {K : PySem.W.Frag} {H : Hp} {ex : Addr → Prop} {v : V} {ds : List PyData} (h : Dz.Dz K H ex v (.list ds)) : ∃ (a : Addr) (xs : List V), v = V.ref a ∧ H a = some (.lst xs) ∧ DzA K H ex xs ds := by
  cases h with
  | @lst a xs _ ha hn ts => exact ⟨a, xs, rfl, ha, ts⟩
theorem shR_all {ds : List PyData} (h : ds.all shD = true) : ds.all (fun e => (ratD e).isSome) = true := by
  rw [List.all_eq_true] at h ⊢
  intro e he
  have := h e he
  unfold shD at this
  cases z : ratD e with
  | none => rw [z] at this; cases this
  | some q => rfl
section
variable {P : Program} {w : World} {K : PySem.W.Frag} {mg : Str → Option Value} {base : Heap}
theorem scCWorlds : FnScope ["self"] ["self"] (defScope sCWorlds) := ⟨rfl, rfl, rfl, by decide +kernel, rfl, by decide +kernel, by decide +kernel⟩
theorem ok_CWorlds {f  : Addr} {fd  : FuncData} {k : Nat} {C fI : Addr} (F : Fun K "worlds" "Case.worlds" sCWorlds f fd) (T : CaT K mg C fI)  (B : Blt mg) : FnOk P w K mg base CX0 (k + 1) f fd ["self"] (spCWorlds K C) := by
  refine F.ok scCWorlds (fun vs H Q E h => ?_) (fun cdv A outer s H vs Q E hr h => ?_)
  · obtain ⟨x, qs, hss, tss, n, rfl, _⟩ := h
    rfl
  · obtain ⟨x, qs, hss, tss, n, rfl, hc, q⟩ := h
    refine ⟨_, (pss_one (ps_ret (pe_callB call_len_seq (by rfl) B.len_ PySem.boot_len (pa_cons (pe_fld (pv 0) rfl) pa_nil)))), ?_⟩
    obtain ⟨dx, sa, ha, ta, cs0, rh, rt, e1, e2, e3, e4, e5⟩ := id hc
    refine ⟨_, rfl, x, C, dx, _, .ref sa, rfl, e1, T.cl, T.n1, rfl, sa, cs0, rfl, .inl (SqL.of e2), ?_⟩
    rw [e3.len]
    exact q
theorem scCShares : FnScope ["self"] ["self"] (defScope sCShares) := ⟨rfl, rfl, rfl, by decide +kernel, rfl, by decide +kernel, by decide +kernel⟩
theorem ok_CShares {f  : Addr} {fd  : FuncData} {k : Nat} {C fI : Addr} (F : Fun K "shares" "Case.shares" sCShares f fd) (T : CaT K mg C fI)  (B : Blt mg) : FnOk P w K mg base CX0 (k + 1) f fd ["self"] (spCShares K C) := by
  refine F.ok scCShares (fun vs H Q E h => ?_) (fun cdv A outer s H vs Q E hr h => ?_)
  · obtain ⟨x, qs, hss, tss, n, rfl, _⟩ := h
    rfl
  · obtain ⟨x, qs, hss, tss, n, rfl, hc, q⟩ := h
    refine ⟨_, (pss_one (ps_ret (pe_callTy (T := "list") call_list_of (by rfl) B.list_ (by decide +kernel) (pa_cons (pe_fld (pv 0) rfl) pa_nil)))), ?_⟩
    obtain ⟨dx, sa, ha, ta, cs0, rh, rt, e1, e2, e3, e4, e5⟩ := id hc
    exact ⟨_, rfl, x, C, dx, _, .ref sa, rfl, e1, T.cl, T.n1, rfl, sa, cs0, rfl, .inl (SqL.of e2), fun p hp => q p cs0 hp e3⟩
theorem scShRow : FnScope ["thing", "least", "most", "one"] ["thing", "least", "most"] (defScope sShRow) := ⟨rfl, rfl, rfl, by decide +kernel, rfl, by decide +kernel, by decide +kernel⟩
theorem ok_ShRowZ {f fL fS : Addr} {fd fdL fdS : FuncData} {k : Nat} {fT : Addr} {fdT : FuncData} (F : Fun K "is_share_row" "is_share_row" sShRow f fd) (GT : FnOk P w K mg base CX0 k fT fdT ["some", "start"] (spTotal K)) (kT : PySem.W.keepIn K (.ref fT) = true) (bT : ∃ ds, Vals [V.non] ds ∧ Binds K fdT ["some", "start"] ds) (gT : mg "total" = some (.ref fT)) (GL : FnOk P w K mg base CX0 k fL fdL ["thing", "least", "most"] (spListOfZ K)) (kL : PySem.W.keepIn K (.ref fL) = true) (bL : Binds K fdL ["thing", "least", "most"] []) (gL : mg "is_list_of" = some (.ref fL)) (GS : FnOk P w K mg base CX0 k fS fdS ["thing"] (spShareZ K)) (kS : PySem.W.keepIn K (.ref fS) = true) (bS : Binds K fdS ["thing"] []) (gS : mg "is_share" = some (.ref fS)) (B : Blt mg) : FnOk P w K mg base CX0 (k + 1) f fd ["thing", "least", "most"] (spShRowZ K) := by
  refine F.ok scShRow (fun vs H Q E h => ?_) (fun cdv A outer s H vs Q E hr h => ?_)
  · obtain ⟨ex, v, d, lo, hi, rfl, _⟩ := h
    rfl
  · obtain ⟨ex, v, d, lo, hi, rfl, hv, h6, few, q⟩ := h
    obtain ⟨dsT, vdT, bTd⟩ := bT
    refine ⟨_, (pss_cons (ps_if (PW.pt (pw_or (pt_not (pt_val (pe_call GL hr (by rfl) gL kL bL .nil pass0 (pa_cons (pv 0) (pa_cons (pv 1) (pa_cons (pv 2) pa_nil)))))) (pw_or1 (pt_not (pt_val (pe_callB (cr_all rfl) (by rfl) B.all_ (by decide +kernel) (pa_cons (pe_lc (own := [("one", 3)]) (g := gName 3) (tt := tYes) (te := (tCall (spShareZ K) [] E0 (tCons (tVar 3) tNil))) rfl scShRow.nd (pi_list (pv 0)) (blkOk_by (N := ["thing", "least", "most", "one"]) (sc := defScope sShRow) (by decide +kernel)) (fun _ _ _ _ _ => (pg_name (i := 3) scShRow.nd rfl (Or.inl rfl))) (fun _ _ _ _ _ => pts_nil) (fun _ _ _ _ _ => (pe_call GS hr (by rfl) gS kS bS .nil pass0 (pa_cons (pv 3) pa_nil)))) pa_nil))))))) (pss_one (ps_ret pe_bl)) pss_nil)
      (pss_one (ps_ret (pe_cmpR (op_eqD hr.units) (pe_call GT hr (by rfl) gT kT bTd vdT pass0 (pa_cons (pv 0) pa_nil)) (pe_tup (pa_cons pe_int (pa_cons pe_int pa_nil))) (nomark _))))), ?_⟩
    refine ⟨_, rfl, _, rfl, _, rfl, ex, v, d, lo, hi, rfl, hv, _, rfl, ?_⟩
    unfold shRowZ at q
    cases c0 : lenOk (lenD d) lo hi with
    | false =>
      rw [c0] at q
      exact iteT (iteT (q _ (Same.refl _)))
    | true =>
      rw [c0, Bool.true_and] at q
      refine iteF ?_
      obtain ⟨ds, rfl, l1, l2⟩ := lenOk_list c0
      cases hv with
      | @lst r cs _ hr0 hn hc =>
        refine ⟨_, rfl, r, rfl, ⟨_, SqL.of hr0⟩, fun D hD => lc_list (K := K) (a := r) (xs := cs) (fun i H' => H' = upd H D (.lst (((ds.take i).map shD).map V.bl))) rfl (fun i H' _ e => by rw [e]; exact SqL.of (same_new hD _ _ _ hr0)) ?_ ?_⟩
        · rintro i v H' hi' rfl
          obtain ⟨d, e1, e2⟩ := hc.at_ hi'
          refine ⟨rfl, tYes_of ?_⟩
          refine ⟨_, rfl, ex, v, d, rfl, e2.same (same_new hD _), _, upd_same, ?_, ?_⟩
          · rw [List.length_map, List.length_map, List.length_take]
            exact small1000 (by omega)
          · rw [upd_upd, List.take_add_one, e1, List.map_append, List.map_append]
            rfl
        · rintro H' rfl
          rw [hc.len, List.take_length]
          have s1 := same_new hD (.lst ((ds.map shD).map V.bl))
          refine ⟨D, ds.map shD, rfl, SqL.of upd_same, _, rfl, ?_⟩
          rw [all_mapZ]
          have q' : ∀ H', Same H H' → Q (.bl (ds.all shD && decide (sumD ds = 1))) H' := q
          cases c1 : ds.all shD with
          | false =>
            rw [c1] at q'
            exact iteT (q' _ s1)
          | true =>
            rw [c1, Bool.true_and] at q'
            refine iteF ?_
            obtain ⟨qs, g1, g2⟩ := hc.rats (n := 1000) few (shR_all c1)
            have hql : qs.length ≤ 6 := by
              have : ds.length = qs.length := by rw [g1, List.length_map]
              omega
            refine ⟨_, rfl, r, cs, qs, 1000, rfl, SqL.of (s1 _ _ hr0), g2.same s1, ?_, fun rt H2 s6 e6 => ?_⟩
            · have : (1000 + 1) * qs.length ≤ 1001 * 6 := Nat.mul_le_mul_left _ hql
              omega
            refine ⟨(by show 2 ≤ sizeLine; decide), fun p hp => ?_⟩
            have s7 := same_new hp (.tup (rp 1))
            refine ⟨dR qs.sum, dR 1, dp_r (seqT s7 e6), dp_r (q := 1) (SqT.of upd_same), dR_shaped _, dR_shaped _, ?_⟩
            rw [eqv_dR]
            rw [g1, sumD_dR] at q'
            exact q' _ ((s1.trans s6).trans s7)
theorem scNsInit : FnScope ["self"] ["self"] (defScope sNsInit) := ⟨rfl, rfl, rfl, by decide +kernel, rfl, by decide +kernel, by decide +kernel⟩
theorem ok_NsInit {CS fS : Addr} {fd : FuncData} {k : Nat} (F : Fun K "__init__" "NoShares.__init__" sNsInit fS fd) (N : NsT K mg CS fS) (B : Blt mg) : FnOk P w K mg base CX0 (k + 1) fS fd ["self"] (spEi CS) := by
  refine F.ok scNsInit (fun vs H Q E h => ?_) (fun cdv A outer s H vs Q E hr h => ?_)
  · obtain ⟨a, rfl, _⟩ := h
    rfl
  · obtain ⟨a, rfl, ha, q⟩ := h
    refine ⟨_, pss_one (ps_expr (pe_veinit (by rfl) B.ValueError_ N.vV (pa_cons (pv 0) (pa_cons pe_str pa_nil)))), ?_⟩
    exact ⟨_, rfl, a, CS, _, rfl, (by show 1 ≤ 1000; decide), N.o, ha, q⟩
theorem scBound : FnScope ["case", "prices", "shares", "share", "price"] ["case", "prices", "shares"] (defScope sBound) := ⟨rfl, rfl, rfl, by decide +kernel, rfl, by decide +kernel, by decide +kernel⟩
theorem ok_Bound {f C fI CS fS fCW fCS fR fX fT : Addr} {fd fdS fdCW fdCS fdR fdX fdT : FuncData} {k : Nat} (F : FunD K "bound" "bound" (defArgs sBound) (defBody sBound) (defScope sBound) [V.non] [] f fd) (T : CaT K mg C fI) (mCW : Meth K C "worlds" fCW) (mCS : Meth K C "shares" fCS) (N : NsT K mg CS fS) (GN : FnOk P w K mg base CX0 k fS fdS ["self"] (spEi CS)) (bN : Binds K fdS ["self"] []) (GT : FnOk P w K mg base CX0 k fT fdT ["some", "start"] (spTotal K)) (kT : PySem.W.keepIn K (.ref fT) = true) (bT : ∃ ds, Vals [V.non] ds ∧ Binds K fdT ["some", "start"] ds) (gT : mg "total" = some (.ref fT)) (GCW : FnOk P w K mg base CX0 k fCW fdCW ["self"] (spCWorlds K C)) (bCW : Binds K fdCW ["self"] []) (GCS : FnOk P w K mg base CX0 k fCS fdCS ["self"] (spCShares K C)) (bCS : Binds K fdCS ["self"] []) (GR : FnOk P w K mg base CX0 k fR fdR ["thing", "least", "most"] (spShRowZ K)) (kR : PySem.W.keepIn K (.ref fR) = true) (bR : Binds K fdR ["thing", "least", "most"] []) (gR : mg "is_share_row" = some (.ref fR)) (GX : FnOk P w K mg base CX0 k fX fdX ["one", "other"] (spBin K (· * ·))) (kX : PySem.W.keepIn K (.ref fX) = true) (bX : Binds K fdX ["one", "other"] []) (gX : mg "times" = some (.ref fX)) (B : Blt mg) : FnOk P w K mg base (L2.CX P w) (k + 2) f fd ["case", "prices", "shares"] (spBound K C CS) := by
  obtain ⟨dsT, vdT, bTd⟩ := bT
  refine F.ok scBound (fun vs H Q E h => ?_) (fun cdv A outer s H vs Q E hr h => ?_)
  · obtain ⟨ex, x, Pr, v, d, qs, hss, tss, ps, ww, dd, rfl, _⟩ := h
    rfl
  · obtain ⟨ex, x, Pr, v, d, qs, hss, tss, ps, ww, dd, rfl, hc, g, hpr, hv, qE, q⟩ := h
    have hk : Room k _ := hr.mono (by omega)
    have w5 := g.w5
    obtain ⟨dx, sa, ha, ta, cs0, rh, rt, e1, e2, e3, e4, e5⟩ := id hc
    refine ⟨_, (pss_cons (ps_if (pt_cmpR op_isN (pv 2) pe_non (nomark _)) (pss_one (ps_set (i := 2) scBound.nd rfl (.inl rfl) (pe_meth0 (pv 0) T.cl mCS GCS hk bCS .nil pass0))) pss_nil)
      (pss_cons (ps_if (pt_not (pt_val (pe_call GR hk (by rfl) gR kR bR .nil pass0 (pa_cons (pv 2) (pa_cons (pe_meth0 (pv 0) T.cl mCW GCW hk bCW .nil pass0) (pa_cons (pe_meth0 (pv 0) T.cl mCW GCW hk bCW .nil pass0) pa_nil)))))) (pss_one (ps_raise (W := fun cls d _ H' => E cls d H') rfl (takes_of rfl rfl rfl rfl) (pmk_exN PySem.F.excBase_ValueError N.x N.i N.t GN hr bN (by rfl) N.g))) pss_nil)
      (pss_one (ps_ret (pe_call GT hk (by rfl) gT kT bTd vdT pass0 (pa_cons (pe_lc (own := [("share", 3), ("price", 4)]) (g := gTup K 2 (gCons (gName 3) (gCons (gName 4) gNil))) (tt := tYes) (te := (tCall (spBin K (· * ·)) [] E0 (tCons (tVar 3) (tCons (tVar 4) tNil)))) rfl scBound.nd (pi_zip (by rfl) B.zip_ (pa_cons (pv 2) (pa_cons (pe_ix ix_tup (pv 1) pe_int (fun _ _ => rfl)) pa_nil))) (blkOk_by (N := ["case", "prices", "shares", "share", "price"]) (sc := defScope sBound) (by decide +kernel)) (fun _ _ _ _ _ => (pg_tup rfl (pgs_cons (pg_name (i := 3) scBound.nd rfl (Or.inl rfl)) (pgs_cons (pg_name (i := 4) scBound.nd rfl (Or.inl rfl)) pgs_nil)))) (fun _ _ _ _ _ => pts_nil) (fun _ _ _ _ _ => (pe_call GX hk (by rfl) gX kX bX .nil pass0 (pa_cons (pv 3) (pa_cons (pv 4) pa_nil))))) pa_nil)))))), ?_⟩
    rcases hv with ⟨rfl, rfl⟩ | ⟨hne, hv, few⟩
    · refine ⟨_, rfl, rfl, _, rfl, iteT ?_⟩
      refine ⟨_, rfl, x, dx, _, rfl, e1, rfl, x, qs, hss, tss, 8, rfl, hc, fun pS cS nS fS0 => ?_⟩
      have s1 := same_new nS (.lst cS)
      have hv1 : Dz.Dz K (upd H pS (.lst cS)) (fun _ => False) (.ref pS) (dS qs) := .lst upd_same id (frn_dz (fS0.same s1))
      have few : Few 20 (itemsD (dS qs)) := few_dR fun q hq => (frn_bd fS0 q hq).mono (by decide)
      generalize hd : dS qs = d at *
      generalize upd H pS (.lst cS) = H1 at s1 hv1 ⊢
      refine ⟨_, rfl, _, rfl, x, dx, _, rfl, s1 _ _ e1, rfl, x, qs, hss, tss, 8, rfl, hc.same s1, _, rfl, x, dx, _, rfl, s1 _ _ e1, rfl, x, qs, hss, tss, 8, rfl, hc.same s1, _, (V.ref pS), d, _, _, rfl, hv1, by rw [g.sh.1]; omega, (fun e he q eq => (few e he q eq).mono (by decide)), fun H2 s2 => ⟨_, rfl, ?_⟩⟩
      have s02 := (s1).trans s2
      rw [g.sh.1]
      cases cb : shRowZ d (ww : Int) (ww : Int) with
      | false => exact iteT (qE cb H2 s02)
      | true =>
        refine iteF ?_
        have cb0 := cb
        unfold shRowZ at cb
        rw [Bool.and_eq_true, Bool.and_eq_true] at cb
        obtain ⟨ds, rfl, l1, l2⟩ := lenOk_list cb.1
        obtain ⟨a, xs, ev, ha, ts⟩ := lst_inv hv1
        cases ev
        obtain ⟨ss, g1, g2⟩ := ts.rats (n := 20) few (shR_all cb.2.1)
        have hsl : ss.length = ww := by
          have : ds.length = ss.length := by rw [g1, List.length_map]
          omega
        have q2 := q ss (by rw [g1]) hsl cb0
        obtain ⟨⟨W, I, cs, p1, p2, p3⟩, pl⟩ := hpr
        have hz : ww = min xs.length cs.length := by rw [g2.len, p3.len, hsl, pl]; omega
        have pz : (List.zipWith (· * ·) ss ps).length = ww := by rw [List.length_zipWith]; omega
        refine ⟨_, rfl, _, rfl, Pr, _, 0, .ref W, rfl, rfl, seqT s02 p1, atI_nat (j := 0) rfl, pS, W, _, _, rfl, SqL.of (s2 _ _ ha), s02.seq p2, fun D hD => lc_it (walk_zip (K := K) (a := pS) (b := W) (xs := xs) (ys := cs) hz) (fun i H' => ∃ acc, H' D = some (.lst acc) ∧ Same H2 H' ∧ FrN K H' 120 acc ((List.zipWith (· * ·) ss ps).take i)) ⟨[], upd_same, same_new hD _, FrN.nil⟩
          (fun i H' _ ⟨_, _, s3, _⟩ => ⟨SqL.of (s3 _ _ (s2 _ _ ha)), s3.seq (s02.seq p2)⟩) ?_ ?_⟩
        · rintro i v H3 H4 hi ⟨acc, hacc, s3, hf3⟩ ⟨T, u, v', rfl, nT, rfl, o1, o2⟩
          obtain ⟨pa, qa, x1, rfl, x3, x4⟩ := g2.at_ i u o1
          obtain ⟨pb, qb, y1, rfl, y3, y4⟩ := p3.at_ i v' o2
          have sT := same_new nT (.tup [V.ref pa, V.ref pb])
          have s4 := (s2.trans s3).trans sT
          refine ⟨T, _, rfl, SqT.of upd_same, rfl, _, _, rfl, _, _, rfl, rfl, rfl, tYes_of ?_⟩
          refine ⟨_, rfl, _, rfl, pa, pb, qa, qb, 20, 100, rfl, seqT s4 x3, seqT ((s1).trans s4) y3, x4, y4, by omega, fun p hp => ?_⟩
          have sp := same_new hp (.tup (rp (qa * qb)))
          have hacc5 := (sT.trans sp) _ _ hacc
          refine ⟨acc, hacc5, ?_, acc ++ [.ref p], upd_same, fun b u e => ?_, ?_⟩
          · rw [hf3.len, List.length_take]
            exact small1000 (by omega)
          · rw [upd_ne (ne_of_none e hD)]
            exact (sT.trans sp) _ _ (s3 _ _ e)
          · have ez : (List.zipWith (· * ·) ss ps)[i]? = some (qa * qb) := by rw [List.getElem?_zipWith, x1, y1]
            rw [take_succ_at ez]
            exact ((hf3.same (sT.trans sp)).snoc (SqT.of upd_same) ((Fr.bd_mul x4 y4).mono (by omega))).keep (keep_lst hacc5)
        · rintro H3 ⟨acc, hacc, s3, hf3⟩
          rw [List.take_of_length_le (by rw [pz]; exact Nat.le_refl _)] at hf3
          have hmul : (120 + 1) * (List.zipWith (· * ·) ss ps).length ≤ 121 * 5 := Nat.mul_le_mul_left _ (by omega)
          refine ⟨D, acc, List.zipWith (· * ·) ss ps, 120, rfl, SqL.of hacc, hf3, by omega, fun r H4 s4 hr4 => ?_⟩
          exact q2 r H4 (s02.trans (s3.trans s4)) hr4
    · have c : decide (v = .non) = false := decide_eq_false hne
      refine ⟨_, rfl, rfl, _, rfl, ?_⟩
      rw [c]
      refine iteF ?_
      refine ⟨_, rfl, _, rfl, x, dx, _, rfl, (Same.refl H) _ _ e1, rfl, x, qs, hss, tss, 8, rfl, hc.same (Same.refl H), _, rfl, x, dx, _, rfl, (Same.refl H) _ _ e1, rfl, x, qs, hss, tss, 8, rfl, hc.same (Same.refl H), _, v, d, _, _, rfl, hv, by rw [g.sh.1]; omega, (fun e he q eq => (few e he q eq).mono (by decide)), fun H2 s2 => ⟨_, rfl, ?_⟩⟩
      have s02 := ((Same.refl H)).trans s2
      rw [g.sh.1]
      cases cb : shRowZ d (ww : Int) (ww : Int) with
      | false => exact iteT (qE cb H2 s02)
      | true =>
        refine iteF ?_
        have cb0 := cb
        unfold shRowZ at cb
        rw [Bool.and_eq_true, Bool.and_eq_true] at cb
        obtain ⟨ds, rfl, l1, l2⟩ := lenOk_list cb.1
        obtain ⟨a, xs, ev, ha, ts⟩ := lst_inv hv
        cases ev
        obtain ⟨ss, g1, g2⟩ := ts.rats (n := 20) few (shR_all cb.2.1)
        have hsl : ss.length = ww := by
          have : ds.length = ss.length := by rw [g1, List.length_map]
          omega
        have q2 := q ss (by rw [g1]) hsl cb0
        obtain ⟨⟨W, I, cs, p1, p2, p3⟩, pl⟩ := hpr
        have hz : ww = min xs.length cs.length := by rw [g2.len, p3.len, hsl, pl]; omega
        have pz : (List.zipWith (· * ·) ss ps).length = ww := by rw [List.length_zipWith]; omega
        refine ⟨_, rfl, _, rfl, Pr, _, 0, .ref W, rfl, rfl, seqT s02 p1, atI_nat (j := 0) rfl, a, W, _, _, rfl, SqL.of (s2 _ _ ha), s02.seq p2, fun D hD => lc_it (walk_zip (K := K) (a := a) (b := W) (xs := xs) (ys := cs) hz) (fun i H' => ∃ acc, H' D = some (.lst acc) ∧ Same H2 H' ∧ FrN K H' 120 acc ((List.zipWith (· * ·) ss ps).take i)) ⟨[], upd_same, same_new hD _, FrN.nil⟩
          (fun i H' _ ⟨_, _, s3, _⟩ => ⟨SqL.of (s3 _ _ (s2 _ _ ha)), s3.seq (s02.seq p2)⟩) ?_ ?_⟩
        · rintro i v H3 H4 hi ⟨acc, hacc, s3, hf3⟩ ⟨T, u, v', rfl, nT, rfl, o1, o2⟩
          obtain ⟨pa, qa, x1, rfl, x3, x4⟩ := g2.at_ i u o1
          obtain ⟨pb, qb, y1, rfl, y3, y4⟩ := p3.at_ i v' o2
          have sT := same_new nT (.tup [V.ref pa, V.ref pb])
          have s4 := (s2.trans s3).trans sT
          refine ⟨T, _, rfl, SqT.of upd_same, rfl, _, _, rfl, _, _, rfl, rfl, rfl, tYes_of ?_⟩
          refine ⟨_, rfl, _, rfl, pa, pb, qa, qb, 20, 100, rfl, seqT s4 x3, seqT (((Same.refl H)).trans s4) y3, x4, y4, by omega, fun p hp => ?_⟩
          have sp := same_new hp (.tup (rp (qa * qb)))
          have hacc5 := (sT.trans sp) _ _ hacc
          refine ⟨acc, hacc5, ?_, acc ++ [.ref p], upd_same, fun b u e => ?_, ?_⟩
          · rw [hf3.len, List.length_take]
            exact small1000 (by omega)
          · rw [upd_ne (ne_of_none e hD)]
            exact (sT.trans sp) _ _ (s3 _ _ e)
          · have ez : (List.zipWith (· * ·) ss ps)[i]? = some (qa * qb) := by rw [List.getElem?_zipWith, x1, y1]
            rw [take_succ_at ez]
            exact ((hf3.same (sT.trans sp)).snoc (SqT.of upd_same) ((Fr.bd_mul x4 y4).mono (by omega))).keep (keep_lst hacc5)
        · rintro H3 ⟨acc, hacc, s3, hf3⟩
          rw [List.take_of_length_le (by rw [pz]; exact Nat.le_refl _)] at hf3
          have hmul : (120 + 1) * (List.zipWith (· * ·) ss ps).length ≤ 121 * 5 := Nat.mul_le_mul_left _ (by omega)
          refine ⟨D, acc, List.zipWith (· * ·) ss ps, 120, rfl, SqL.of hacc, hf3, by omega, fun r H4 s4 hr4 => ?_⟩
          exact q2 r H4 (s02.trans (s3.trans s4)) hr4
end
end K35

set_option Elab.async false
set_option linter.all false
set_option maxRecDepth 100000
set_option maxHeartbeats 8000000
namespace K35
open PySem PySem.Spec PyProof.Rows L2 BX EXB Co Ru
open Dz Cs
open Rs (Rsp Rv Ret tYes_of dV datR Flat Okr spShares spRowsL spTotal spCopied eqv_dR)
open Fr (Bd)
section
variable {P : Program} {w : World} {K : PySem.W.Frag} {mg : Str → Option Value} {base : Heap}
theorem scLeft : FnScope ["_law_cell", "_law_left_here", "_law_number", "_law_turn"] ["_law_cell"] (defScope sLeft) := ⟨rfl, rfl, rfl, by decide +kernel, rfl, by decide +kernel, by decide +kernel⟩
theorem ok_left {f : Addr} {fd : FuncData} {k : Nat} (F : Fun K "_law_left" "_law_left" sLeft f fd) (B : Blt mg) : FnOk P w K mg base CX0 (k + 1) f fd ["_law_cell"] spLeft := by
  refine F.ok scLeft (fun vs H Q E h => ?_) (fun cdv A outer s H vs Q E hr h => ?_)
  · obtain ⟨c, rfl, _⟩ := h
    rfl
  · obtain ⟨c, rfl, q⟩ := h
    refine ⟨_, pss_cons (ps_set (i := 1) scLeft.nd rfl (.inl rfl) (pe_callB call_abs (by rfl) B.abs_ (by decide +kernel) (pa_cons (pv 0) pa_nil)))
      (pss_cons (ps_if (pt_cmpR op_lt (pv 1) (pe_op op_pow pe_int pe_int) (nomark _))
        (pss_cons (ps_set (i := 2) scLeft.nd rfl (.inl rfl) (pv 0))
        (pss_one (ps_for PassesOwn.never rfl (pi_range1 (by rfl) B.range_ (pa_cons pe_int pa_nil)) (pg_name (i := 3) scLeft.nd rfl (.inl rfl))
          (pss_cons (ps_set (i := 2) scLeft.nd rfl (.inl rfl) (pe_op op_mod (pe_op op_mul (pe_op op_add (pe_op op_mod (pv 2) pe_int) pe_int) pe_int) pe_int))
          (pss_cons (ps_set (i := 2) scLeft.nd rfl (.inl rfl) (pe_op op_add (pe_op op_mod (pe_op op_mul (pv 2) pe_int) pe_int) (pv 3)))
          (pss_one (ps_set (i := 1) scLeft.nd rfl (.inl rfl) (pe_op op_add (pe_op op_mul (pv 1) pe_int) (pv 2)))))))))
        pss_nil)
      (pss_one (ps_ret (pe_lst (pa_cons (pv 1) pa_nil))))), ?_⟩
    refine ⟨_, rfl, c, rfl, ?_⟩
    refine ⟨_, rfl, 10, 18, rfl, rfl, ⟨by decide, by decide, by decide⟩, _, _, rfl, rfl, _, rfl, ite2 (fun z => ?_) (fun z => ?_)⟩
    · refine ⟨_, rfl, 40, rfl, by decide, by decide, for_range (lo := 0) (n := 40) (fun i σ H' => ∃ (n m : Int) (y : Option V), σ = [some (.int c), some (.int n), some (.int m), y] ∧ H' = H) ⟨_, _, none, rfl, rfl⟩ ?_ ?_⟩
      · rintro i σ H' hi ⟨n, m, y, rfl, rfl⟩
        refine ⟨_, rfl, _, _, rfl, rfl, (by show (0 : Int) < 2147483629; decide), _, _, rfl, rfl, _, _, rfl, rfl, .inr ⟨by decide, by decide⟩, _, _, rfl, rfl, (by show (0 : Int) < 2147483629; decide), ?_⟩
        refine ⟨_, rfl, _, _, rfl, rfl, .inr ⟨by decide, by decide⟩, _, _, rfl, rfl, (by show (0 : Int) < 2147483647; decide), _, rfl, _, _, rfl, rfl, ?_⟩
        refine ⟨_, rfl, _, _, rfl, rfl, .inr ⟨by decide, by decide⟩, _, rfl, _, _, rfl, rfl, ?_⟩
        exact ⟨_, _, _, rfl, rfl⟩
      · rintro σ H' ⟨n, m, y, rfl, rfl⟩
        exact ⟨_, rfl, (by show 1 ≤ sizeLine; decide), fun p hp => q p n hp⟩
    · exact ⟨_, rfl, (by show 1 ≤ sizeLine; decide), fun p hp => q p _ hp⟩
theorem scDigit : FnScope ["_law_left_here", "_law_many", "_law_found"] ["_law_left_here", "_law_many"] (defScope sDigit) := ⟨rfl, rfl, rfl, by decide +kernel, rfl, by decide +kernel, by decide +kernel⟩
theorem ok_digit {f : Addr} {fd : FuncData} {k : Nat} (F : Fun K "_law_digit" "_law_digit" sDigit f fd) : FnOk P w K mg base CX0 (k + 1) f fd ["_law_left_here", "_law_many"] spDigit := by
  refine F.ok scDigit (fun vs H Q E h => ?_) (fun cdv A outer s H vs Q E hr h => ?_)
  · obtain ⟨l, n, m, rfl, _⟩ := h
    rfl
  · obtain ⟨l, n, m, rfl, hl, hm, hmb, q⟩ := h
    refine ⟨_, pss_cons (ps_set (i := 2) scDigit.nd rfl (.inl rfl) (pe_op op_mod (pe_ix ix_list (pv 0) pe_int (fun _ _ => rfl)) (pv 1)))
      (pss_cons (ps_asg (pe_op op_fdivW (pe_ix ix_list (pv 0) pe_int (fun _ _ => rfl)) (pv 1)) (pg_sub (pv 0) pe_int set_list))
      (pss_one (ps_ret (pv 2)))), ?_⟩
    refine ⟨_, rfl, l, _, 0, .int n, rfl, rfl, SqL.of hl, atI_nat (j := 0) rfl, _, rfl, _, _, rfl, rfl, hm, ?_⟩
    refine ⟨_, rfl, l, _, 0, .int n, rfl, rfl, SqL.of hl, atI_nat (j := 0) rfl, _, rfl, _, _, rfl, rfl, wide_div hm hmb (by decide) (by decide), ?_⟩
    refine ⟨_, rfl, l, _, 0, 0, rfl, rfl, hl, rfl, ?_⟩
    exact ⟨_, rfl, q _ _ (Int.emod_nonneg _ (by omega)) (Int.emod_lt_of_pos _ hm)⟩
theorem scLow : FnScope ["_law_top", "_law_bottom", "_law_one", "_law_other"] ["_law_top", "_law_bottom"] (defScope sLow) := ⟨rfl, rfl, rfl, by decide +kernel, rfl, by decide +kernel, by decide +kernel⟩
theorem ok_low {f : Addr} {fd : FuncData} {k : Nat} (F : Fun K "_law_low" "_law_low" sLow f fd) (B : Blt mg) : FnOk P w K mg base CX0 (k + 1) f fd ["_law_top", "_law_bottom"] spLow := by
  refine F.ok scLow (fun vs H Q E h => ?_) (fun cdv A outer s H vs Q E hr h => ?_)
  · obtain ⟨a, b, n, rfl, _⟩ := h
    rfl
  · obtain ⟨t, b, n, rfl, ht, hb, h0, hn, q⟩ := h
    refine ⟨_, pss_cons (ps_set (i := 2) scLow.nd rfl (.inl rfl) (pe_callB call_abs (by rfl) B.abs_ (by decide +kernel) (pa_cons (pv 0) pa_nil)))
      (pss_cons (ps_set (i := 3) scLow.nd rfl (.inl rfl) (pe_callB call_abs (by rfl) B.abs_ (by decide +kernel) (pa_cons (pv 1) pa_nil)))
      (pss_cons (ps_while PassesOwn.never (pt_cmpR op_gt (pv 3) pe_int (nomark _))
        (pss_one (ps_par (i := 2) (j := 3) (by rfl) scLow.nd rfl rfl (by decide) rfl rfl (pa_cons (pv 3) (pa_cons (pe_op op_modN (pv 2) (pv 3)) pa_nil)) (by rfl))))
      (pss_cons (ps_if (pt_cmpR op_lt (pv 1) pe_int (nomark _)) (pss_one (ps_set (i := 2) scLow.nd rfl (.inl rfl) (pe_op op_sub pe_int (pv 2)))) pss_nil)
      (pss_one (ps_ret (pe_tup (pa_cons (pe_op op_fdivZ (pv 0) (pv 2)) (pa_cons (pe_op op_fdivZ (pv 1) (pv 2)) pa_nil)))))))), ?_⟩
    have hg := Fr.gcd_pos (t := t) h0
    have hgb := gcd_bd (t := t) h0 hb
    have hn0 : 0 < n := by
      cases n with
      | zero => simp at hb; omega
      | succ n => omega
    refine ⟨_, rfl, t, rfl, ?_⟩
    refine ⟨_, rfl, b, rfl, ?_⟩
    rw [abs_eq, abs_eq]
    refine ⟨fun m σ H' => ∃ x y : Int, σ = [some (.int t), some (.int b), some (.int x), some (.int y)] ∧ 0 ≤ x ∧ 0 ≤ y ∧ m = y.natAbs ∧ Int.gcd x y = Int.gcd t b ∧ H' = H,
      ⟨_, (t.natAbs : Int), (b.natAbs : Int), rfl, by omega, by omega, rfl, ?_, rfl⟩, ?_⟩
    · rw [Int.gcd, Int.gcd, Int.natAbs_natCast, Int.natAbs_natCast]
    rintro m σ H' ⟨x, y, rfl, hx, hy, rfl, hgg, rfl⟩
    refine ⟨_, rfl, y, 0, rfl, rfl, _, rfl, ite2 (fun c => ?_) (fun c => ?_)⟩
    · have hy0 : 0 < y := of_decide_eq_true c
      refine ⟨fun σ' H'' => ∃ x' y' : Int, σ' = [some (.int t), some (.int b), some (.int x'), some (.int y')] ∧ 0 ≤ x' ∧ 0 ≤ y' ∧ y'.natAbs < y.natAbs ∧ Int.gcd x' y' = Int.gcd t b ∧ H'' = H', ?_, ?_⟩
      · rintro σ' H'' ⟨x', y', e1, e2, e3, e4, e5, e6⟩
        exact ⟨y'.natAbs, e4, x', y', e1, e2, e3, rfl, e5, e6⟩
      · refine ⟨.int y, rfl, .int x, rfl, .int y, rfl, x, y, rfl, rfl, (by omega : y ≠ 0), _, _, rfl, y, _, rfl, hy, Int.fmod_nonneg_of_pos x hy0, Fr.fmod_abs x (by omega), ?_, rfl⟩
        rw [Fr.gcd_step]
        exact hgg
    · have hy0 : y = 0 := by
        have : ¬ 0 < y := of_decide_eq_false (Bool.eq_false_iff.mpr c)
        omega
      subst hy0
      rw [Int.gcd_zero_right] at hgg
      have ex : x = (Int.gcd t b : Int) := by omega
      subst ex
      refine ⟨_, rfl, b, 0, rfl, rfl, _, rfl, ite2 (fun c2 => ?_) (fun c2 => ?_)⟩
      · have hb0 : b < 0 := of_decide_eq_true c2
        refine ⟨_, rfl, 0, _, rfl, rfl, ?_⟩
        have d : ∀ i : Int, CDivZ i (0 - (Int.gcd t b : Int)) := fun i => divZ (n := n) (by omega) (by rw [Int.zero_sub, Int.natAbs_neg]; exact hgb) hn0 (by omega)
        refine ⟨_, rfl, _, rfl, t, _, rfl, rfl, d _, _, rfl, _, rfl, b, _, rfl, rfl, d _, (by show 2 ≤ sizeLine; decide), fun p hp => ?_⟩
        have z := q p hp
        rw [rp, ← Fr.lowN_num hb0, ← Fr.lowN_den hb0] at z
        rw [Int.zero_sub]
        exact z
      · have hb0 : 0 < b := by
          have : ¬ b < 0 := of_decide_eq_false (Bool.eq_false_iff.mpr c2)
          omega
        have d : ∀ i : Int, CDivZ i (Int.gcd t b : Int) := fun i => divZ (n := n) (by omega) hgb hn0 (by omega)
        refine ⟨_, rfl, _, rfl, t, _, rfl, rfl, d _, _, rfl, _, rfl, b, _, rfl, rfl, d _, (by show 2 ≤ sizeLine; decide), fun p hp => ?_⟩
        have z := q p hp
        rw [rp, ← Fr.low_num hb0, ← Fr.low_den hb0] at z
        exact z

theorem scLPlus : FnScope ["_law_one", "_law_other"] ["_law_one", "_law_other"] (defScope sLPlus) := ⟨rfl, rfl, rfl, by decide +kernel, rfl, by decide +kernel, by decide +kernel⟩
theorem ok_LPlus {f fC : Addr} {fd fdC : FuncData} {k : Nat} (F : Fun K "_law_plus" "_law_plus" sLPlus f fd) (GC : FnOk P w K mg base CX0 k fC fdC ["_law_top", "_law_bottom"] spLow) (kC : PySem.W.keepIn K (.ref fC) = true) (bC : Binds K fdC ["_law_top", "_law_bottom"] []) (gC : mg "_law_low" = some (.ref fC)) :
    FnOk P w K mg base CX0 (k + 1) f fd ["_law_one", "_law_other"] (spBin K (· + ·)) := by
  refine F.ok scLPlus (fun vs H Q E h => ?_) (fun cdv A outer s H vs Q E hr h => ?_)
  · obtain ⟨a, b, x, y, n, m, rfl, _⟩ := h
    rfl
  · obtain ⟨a, b, x, y, n, m, rfl, hx, hy, bx, by_, hn, q⟩ := h
    refine ⟨_, pss_one (ps_ret (pe_call GC hr (by rfl) gC kC bC .nil pass0 (pa_cons (pe_op op_add (pe_op op_mulW (pe_ix ix_tup (pv 0) pe_int (fun _ _ => rfl)) (pe_ix ix_tup (pv 1) pe_int (fun _ _ => rfl))) (pe_op op_mulW (pe_ix ix_tup (pv 1) pe_int (fun _ _ => rfl)) (pe_ix ix_tup (pv 0) pe_int (fun _ _ => rfl)))) (pa_cons (pe_op op_mulW (pe_ix ix_tup (pv 0) pe_int (fun _ _ => rfl)) (pe_ix ix_tup (pv 1) pe_int (fun _ _ => rfl))) pa_nil)))), ?_⟩
    refine ⟨.ref a, rfl, a, rp x, 0, .int x.num, rfl, rfl, hx, at0 x, .ref b, rfl, b, rp y, 1, .int (y.den : Int), rfl, rfl, hy, at1 y, _, _, rfl, rfl, wmul bx.1 by_.dn (by omega), .ref b, rfl, b, rp y, 0, .int y.num, rfl, rfl, hy, at0 y, .ref a, rfl, a, rp x, 1, .int (x.den : Int), rfl, rfl, hx, at1 x, _, _, rfl, rfl, wmul by_.1 bx.dn (by omega), _, _, rfl, rfl, .ref a, rfl, a, rp x, 1, .int (x.den : Int), rfl, rfl, hx, at1 x, .ref b, rfl, b, rp y, 1, .int (y.den : Int), rfl, rfl, hy, at1 y, _, _, rfl, rfl, wmul bx.dn by_.dn (by omega), _, _, n + m + 1, rfl, Fr.add_bd (Fr.mul_bd bx.1 by_.dn) (by rw [Nat.add_comm n m]; exact Fr.mul_bd by_.1 bx.dn), Fr.up (Fr.mul_bd bx.dn by_.dn) (Nat.le_succ _), Fr.dd_ne x y, by omega, fun p hp => ?_⟩
    have z := q p hp
    rw [Fr.add_eq]
    exact z

theorem scLLess : FnScope ["_law_one", "_law_other"] ["_law_one", "_law_other"] (defScope sLLess) := ⟨rfl, rfl, rfl, by decide +kernel, rfl, by decide +kernel, by decide +kernel⟩
theorem ok_LLess {f fC : Addr} {fd fdC : FuncData} {k : Nat} (F : Fun K "_law_less" "_law_less" sLLess f fd) (GC : FnOk P w K mg base CX0 k fC fdC ["_law_top", "_law_bottom"] spLow) (kC : PySem.W.keepIn K (.ref fC) = true) (bC : Binds K fdC ["_law_top", "_law_bottom"] []) (gC : mg "_law_low" = some (.ref fC)) :
    FnOk P w K mg base CX0 (k + 1) f fd ["_law_one", "_law_other"] (spBin K (· - ·)) := by
  refine F.ok scLLess (fun vs H Q E h => ?_) (fun cdv A outer s H vs Q E hr h => ?_)
  · obtain ⟨a, b, x, y, n, m, rfl, _⟩ := h
    rfl
  · obtain ⟨a, b, x, y, n, m, rfl, hx, hy, bx, by_, hn, q⟩ := h
    refine ⟨_, pss_one (ps_ret (pe_call GC hr (by rfl) gC kC bC .nil pass0 (pa_cons (pe_op op_sub (pe_op op_mulW (pe_ix ix_tup (pv 0) pe_int (fun _ _ => rfl)) (pe_ix ix_tup (pv 1) pe_int (fun _ _ => rfl))) (pe_op op_mulW (pe_ix ix_tup (pv 1) pe_int (fun _ _ => rfl)) (pe_ix ix_tup (pv 0) pe_int (fun _ _ => rfl)))) (pa_cons (pe_op op_mulW (pe_ix ix_tup (pv 0) pe_int (fun _ _ => rfl)) (pe_ix ix_tup (pv 1) pe_int (fun _ _ => rfl))) pa_nil)))), ?_⟩
    refine ⟨.ref a, rfl, a, rp x, 0, .int x.num, rfl, rfl, hx, at0 x, .ref b, rfl, b, rp y, 1, .int (y.den : Int), rfl, rfl, hy, at1 y, _, _, rfl, rfl, wmul bx.1 by_.dn (by omega), .ref b, rfl, b, rp y, 0, .int y.num, rfl, rfl, hy, at0 y, .ref a, rfl, a, rp x, 1, .int (x.den : Int), rfl, rfl, hx, at1 x, _, _, rfl, rfl, wmul by_.1 bx.dn (by omega), _, _, rfl, rfl, .ref a, rfl, a, rp x, 1, .int (x.den : Int), rfl, rfl, hx, at1 x, .ref b, rfl, b, rp y, 1, .int (y.den : Int), rfl, rfl, hy, at1 y, _, _, rfl, rfl, wmul bx.dn by_.dn (by omega), _, _, n + m + 1, rfl, Fr.sub_bd (Fr.mul_bd bx.1 by_.dn) (by rw [Nat.add_comm n m]; exact Fr.mul_bd by_.1 bx.dn), Fr.up (Fr.mul_bd bx.dn by_.dn) (Nat.le_succ _), Fr.dd_ne x y, by omega, fun p hp => ?_⟩
    have z := q p hp
    rw [Fr.sub_eq]
    exact z

theorem scLTimes : FnScope ["_law_one", "_law_other"] ["_law_one", "_law_other"] (defScope sLTimes) := ⟨rfl, rfl, rfl, by decide +kernel, rfl, by decide +kernel, by decide +kernel⟩
theorem ok_LTimes {f fC : Addr} {fd fdC : FuncData} {k : Nat} (F : Fun K "_law_times" "_law_times" sLTimes f fd) (GC : FnOk P w K mg base CX0 k fC fdC ["_law_top", "_law_bottom"] spLow) (kC : PySem.W.keepIn K (.ref fC) = true) (bC : Binds K fdC ["_law_top", "_law_bottom"] []) (gC : mg "_law_low" = some (.ref fC)) :
    FnOk P w K mg base CX0 (k + 1) f fd ["_law_one", "_law_other"] (spBin K (· * ·)) := by
  refine F.ok scLTimes (fun vs H Q E h => ?_) (fun cdv A outer s H vs Q E hr h => ?_)
  · obtain ⟨a, b, x, y, n, m, rfl, _⟩ := h
    rfl
  · obtain ⟨a, b, x, y, n, m, rfl, hx, hy, bx, by_, hn, q⟩ := h
    refine ⟨_, pss_one (ps_ret (pe_call GC hr (by rfl) gC kC bC .nil pass0 (pa_cons (pe_op op_mulW (pe_ix ix_tup (pv 0) pe_int (fun _ _ => rfl)) (pe_ix ix_tup (pv 1) pe_int (fun _ _ => rfl))) (pa_cons (pe_op op_mulW (pe_ix ix_tup (pv 0) pe_int (fun _ _ => rfl)) (pe_ix ix_tup (pv 1) pe_int (fun _ _ => rfl))) pa_nil)))), ?_⟩
    refine ⟨.ref a, rfl, a, rp x, 0, .int x.num, rfl, rfl, hx, at0 x, .ref b, rfl, b, rp y, 0, .int y.num, rfl, rfl, hy, at0 y, _, _, rfl, rfl, wmul bx.1 by_.1 (by omega), .ref a, rfl, a, rp x, 1, .int (x.den : Int), rfl, rfl, hx, at1 x, .ref b, rfl, b, rp y, 1, .int (y.den : Int), rfl, rfl, hy, at1 y, _, _, rfl, rfl, wmul bx.dn by_.dn (by omega), _, _, n + m, rfl, Fr.mul_bd bx.1 by_.1, Fr.mul_bd bx.dn by_.dn, Fr.dd_ne x y, by omega, fun p hp => ?_⟩
    have z := q p hp
    rw [Fr.mul_eq]
    exact z

theorem scLUnder : FnScope ["_law_one", "_law_other"] ["_law_one", "_law_other"] (defScope sLUnder) := ⟨rfl, rfl, rfl, by decide +kernel, rfl, by decide +kernel, by decide +kernel⟩
theorem ok_LUnder {f : Addr} {fd : FuncData} {k : Nat} (F : Fun K "_law_under" "_law_under" sLUnder f fd) : FnOk P w K mg base CX0 (k + 1) f fd ["_law_one", "_law_other"] (spUnder K) := by
  refine F.ok scLUnder (fun vs H Q E h => ?_) (fun cdv A outer s H vs Q E hr h => ?_)
  · obtain ⟨a, b, x, y, n, m, rfl, _⟩ := h
    rfl
  · obtain ⟨a, b, x, y, n, m, rfl, hx, hy, bx, by_, hn, q⟩ := h
    refine ⟨_, pss_one (ps_ret (pe_cmpR op_lt (pe_op op_mulW (pe_ix ix_tup (pv 0) pe_int (fun _ _ => rfl)) (pe_ix ix_tup (pv 1) pe_int (fun _ _ => rfl))) (pe_op op_mulW (pe_ix ix_tup (pv 1) pe_int (fun _ _ => rfl)) (pe_ix ix_tup (pv 0) pe_int (fun _ _ => rfl))) (nomark _))), ?_⟩
    exact ⟨.ref a, rfl, a, rp x, 0, .int x.num, rfl, rfl, hx, at0 x, .ref b, rfl, b, rp y, 1, .int (y.den : Int), rfl, rfl, hy, at1 y, _, _, rfl, rfl, wmul bx.1 by_.dn (by omega), .ref b, rfl, b, rp y, 0, .int y.num, rfl, rfl, hy, at0 y, .ref a, rfl, a, rp x, 1, .int (x.den : Int), rfl, rfl, hx, at1 x, _, _, rfl, rfl, wmul by_.1 bx.dn (by omega), _, _, rfl, rfl, q⟩
theorem scShares : FnScope ["_law_left_here", "_law_many", "_law_some", "_law_k", "_law_one"] ["_law_left_here", "_law_many"] (defScope sShares) := ⟨rfl, rfl, rfl, by decide +kernel, rfl, by decide +kernel, by decide +kernel⟩
theorem ok_Shares {f fD fL : Addr} {fd fdD fdL : FuncData} {k : Nat} (F : Fun K "_law_shares" "_law_shares" sShares f fd) (GD : FnOk P w K mg base CX0 k fD fdD ["_law_left_here", "_law_many"] spDigit) (kD : PySem.W.keepIn K (.ref fD) = true) (bD : Binds K fdD ["_law_left_here", "_law_many"] []) (gD : mg "_law_digit" = some (.ref fD))
    (GL : FnOk P w K mg base CX0 k fL fdL ["_law_top", "_law_bottom"] spLow) (kL : PySem.W.keepIn K (.ref fL) = true) (bL : Binds K fdL ["_law_top", "_law_bottom"] []) (gL : mg "_law_low" = some (.ref fL)) (B : Blt mg) : FnOk P w K mg base CX0 (k + 1) f fd ["_law_left_here", "_law_many"] (spShares K) := by
  refine F.ok scShares (fun vs H Q E h => ?_) (fun cdv A outer s H vs Q E hr h => ?_)
  · obtain ⟨l, z, m, rfl, _⟩ := h
    rfl
  · obtain ⟨l, z, m, rfl, hl, h1, h30, q⟩ := h
    refine ⟨_, pss_cons (ps_set (i := 2) scShares.nd rfl (.inr rfl) (pe_lc (own := [("_law_k", 3)]) (g := gName 3) (tt := tYes) (te := tOp (rIxL K) (tLst (tCons (tC (.int 0)) (tCons (tC (.int 1)) (tCons (tC (.int 1)) (tCons (tC (.int 2)) (tCons (tC (.int 3)) (tCons (tC (.int 5)) tNil))))))) (tCall spDigit [] E0 (tCons (tVar 0) (tCons (tC (.int 6)) tNil)))) rfl scShares.nd (pi_range1 (by rfl) B.range_ (pa_cons (pv 1) pa_nil))
        (blkOk_by (N := ["_law_left_here", "_law_many", "_law_some", "_law_k", "_law_one"]) (sc := defScope sShares) (by decide +kernel)) (fun _ _ _ _ _ => pg_name (i := 3) scShares.nd rfl (Or.inl rfl)) (fun _ _ _ _ _ => pts_nil)
        (fun _ _ _ _ _ => pe_ix ix_list (pe_lst (pa_cons pe_int (pa_cons pe_int (pa_cons pe_int (pa_cons pe_int (pa_cons pe_int (pa_cons pe_int pa_nil))))))) (pe_call GD hr (by rfl) gD kD bD .nil pass0 (pa_cons (pv 0) (pa_cons pe_int pa_nil))) (fun _ _ => rfl))))
      (pss_cons (ps_augS (pv 2) (pe_call GD hr (by rfl) gD kD bD .nil pass0 (pa_cons (pv 0) (pa_cons (pv 1) pa_nil))) Rs.pget_list pe_int ip_add set_list)
      (pss_one (ps_ret (pe_lc (own := [("_law_one", 4)]) (g := gName 4) (tt := tYes) (te := tCall spLow [] E0 (tCons (tVar 4) (tCons (tCB (rSum K) (tCons (tVar 2) tNil)) tNil))) rfl scShares.nd (pi_list (pv 2))
        (blkOk_by (N := ["_law_left_here", "_law_many", "_law_some", "_law_k", "_law_one"]) (sc := defScope sShares) (by decide +kernel)) (fun _ _ _ _ _ => pg_name (i := 4) scShares.nd rfl (Or.inl rfl)) (fun _ _ _ _ _ => pts_nil)
        (fun _ _ _ _ _ => pe_call GL hr (by rfl) gL kL bL .nil pass0 (pa_cons (pv 4) (pa_cons (pe_callB (id := "sum") (cr_sum rfl) (by rfl) B.sum_ (by decide +kernel) (pa_cons (pv 2) pa_nil)) pa_nil))))))), ?_⟩
    -- the numbers
    refine ⟨_, rfl, (m : Int), rfl, by omega, by omega, fun S hS => lc_range (lo := 0) (n := (m : Int).toNat) (fun j H' => ∃ (ns : List Int) (z' : Int), H' S = some (.lst (ns.map V.int)) ∧ ns.length = j ∧ (∀ x ∈ ns, 0 ≤ x ∧ x ≤ 5) ∧ SameB l H H' ∧ H' l = some (.lst [.int z']))
      ⟨[], z, upd_same, rfl, fun x hx => by simp at hx, SameB.of (same_new hS _), same_new hS _ _ _ hl⟩ ?_ ?_⟩
    · rintro j H1 hj ⟨ns, z1, hS1, hlen, hns, sb, hl1⟩
      refine ⟨rfl, ?_⟩
      unfold tYes
      dsimp only
      refine iteT ?_
      refine ⟨(by show 6 ≤ sizeLine; decide), fun p hp => ?_⟩
      have s1 := same_new hp (.lst [V.int 0, V.int 1, V.int 1, V.int 2, V.int 3, V.int 5])
      have hpl : p ≠ l := fun e => by
        rw [e, hl1] at hp
        cases hp
      have hSl : S ≠ l := fun e => by
        rw [e, hl] at hS
        cases hS
      refine ⟨_, rfl, l, z1, 6, rfl, s1 _ _ hl1, by decide, by decide, fun d z2 d0 d6 => ?_⟩
      obtain ⟨v, ev, v0, v5⟩ := Rs.tab_at d0 d6
      refine ⟨p, _, d, .int v, rfl, rfl, SqL.of (by rw [upd_ne hpl, upd_same]), ev, ?_⟩
      refine ⟨_, by rw [upd_ne hSl]; exact s1 _ _ hS1, ?_, ns ++ [v], z2, ?_, ?_, ?_, ?_, ?_⟩
      · rw [List.length_map, hlen]
        exact small1000 (by omega)
      · rw [upd_same, List.map_append]
        rfl
      · rw [List.length_append, hlen]
        rfl
      · intro x hx
        rcases List.mem_append.mp hx with hx | hx
        · exact hns x hx
        · rw [List.mem_singleton.mp hx]
          exact ⟨v0, v5⟩
      · intro b u hb e
        have hbS : b ≠ S := ne_of_none e hS
        rw [upd_ne hbS, upd_ne hb]
        exact s1 _ _ (sb b u hb e)
      · rw [upd_ne (Ne.symm hSl), upd_same]
    · rintro H1 ⟨ns, z1, hS1, hlen, hns, sb, hl1⟩
      rw [Int.toNat_natCast] at hlen
      have hSl : S ≠ l := fun e => by
        rw [e, hl] at hS
        cases hS
      -- += 1
      refine ⟨_, rfl, _, rfl, _, rfl, l, z1, (m : Int), rfl, hl1, by omega, Nat.lt_of_le_of_lt (by omega : ((m : Int)).natAbs ≤ 30) (by decide), fun d z2 d0 dm => ?_⟩
      have hd : d.toNat < ns.length := by omega
      obtain ⟨x, ex⟩ : ∃ x, ns[d.toNat]? = some x := ⟨_, List.getElem?_eq_getElem hd⟩
      have ed : d = ((d.toNat : Nat) : Int) := by omega
      have hS2 : (upd H1 l (.lst [.int z2])) S = some (.lst (ns.map V.int)) := by rw [upd_ne hSl]; exact hS1
      refine ⟨S, _, d.toNat, .int x, rfl, by rw [← ed], SqL.of hS2, by rw [List.getElem?_map, ex]; rfl, x, 1, rfl, rfl, S, _, d, d.toNat, rfl, rfl, hS2, ?_, ?_⟩
      · unfold ixN
        rw [if_pos d0, if_pos (by rw [List.length_map]; omega)]
      have es : (ns.map V.int).set d.toNat (.int (x + 1)) = (ns.set d.toNat (x + 1)).map V.int := (List.map_set ..).symm
      rw [es]
      have hx0 := hns x (List.mem_of_getElem? ex)
      have hn2 : ∀ y ∈ ns.set d.toNat (x + 1), 0 ≤ y ∧ y ≤ 6 := fun y hy => by
        rcases List.mem_or_eq_of_mem_set hy with hy | rfl
        · have := hns y hy
          omega
        · omega
      have hlen2 : (ns.set d.toNat (x + 1)).length = m := by rw [List.length_set, hlen]
      have hsum : (ns.set d.toNat (x + 1)).sum = ns.sum + 1 := Rs.set_sumI ns _ x ex
      have hpos : 0 < (ns.set d.toNat (x + 1)).sum := by
        have := Rs.sum_nn ns fun y hy => (hns y hy).1
        omega
      have hle : (ns.set d.toNat (x + 1)).sum ≤ 6 * 30 := by
        have := Rs.sum_le (ns.set d.toNat (x + 1)) 6 fun y hy => (hn2 y hy).2
        rw [hlen2] at this
        omega
      generalize ns.set d.toNat (x + 1) = ms at hn2 hlen2 hsum hpos hle
      have bS : ms.sum.natAbs < 2 ^ 8 := Nat.lt_of_le_of_lt (by omega : ms.sum.natAbs ≤ 180) (by decide)
      -- the fractions
      refine ⟨_, rfl, S, rfl, ⟨_, SqL.of upd_same⟩, fun L hL => lc_list (K := K) (a := S) (xs := ms.map V.int) (fun i H' => ∃ cs, H' L = some (.lst cs) ∧ Same (upd (upd H1 l (.lst [.int z2])) S (.lst (ms.map V.int))) H' ∧ FrN K H' 8 cs ((ms.take i).map fun x => Rat.divInt x ms.sum))
        ⟨[], upd_same, same_new hL _, FrN.nil⟩ (fun i H' _ ⟨_, _, s5, _⟩ => SqL.of (s5 _ _ upd_same)) ?_ ?_⟩
      · rintro i v H' hi ⟨cs, hcs, s5, hf⟩
        rw [List.getElem?_map] at hi
        obtain ⟨y, ey, rfl⟩ : ∃ y, ms[i]? = some y ∧ v = .int y := by
          cases e : ms[i]? with
          | none => rw [e] at hi; cases hi
          | some r => rw [e] at hi; exact ⟨r, rfl, (Option.some.inj hi).symm⟩
        have hy := hn2 y (List.mem_of_getElem? ey)
        have by8 : y.natAbs < 2 ^ 8 := Nat.lt_of_le_of_lt (by omega : y.natAbs ≤ 6) (by decide)
        refine ⟨rfl, ?_⟩
        unfold tYes; dsimp only
        refine iteT ?_
        refine ⟨_, rfl, _, rfl, S, ms, rfl, SqL.of (s5 _ _ upd_same), y, ms.sum, 8, rfl, by8, bS, by omega, by decide, fun t ht => ?_⟩
        have s6 := same_new ht (.tup (rp (Rat.divInt y ms.sum)))
        refine ⟨cs, s6 _ _ hcs, ?_, _, upd_same, fun b u e => ?_, ?_⟩
        · rw [hf.len, List.length_map, List.length_take]
          exact small1000 (by omega)
        · rw [upd_ne (ne_of_none e hL)]
          exact s6 _ _ (s5 _ _ e)
        · rw [List.take_add_one, ey, List.map_append]
          exact ((hf.same s6).snoc (q := Rat.divInt y ms.sum) (SqT.of upd_same) (Fr.bd_low by8 bS (by omega))).keep (keep_lst (s6 _ _ hcs))
      · rintro H' ⟨cs, hcs, s5, hf⟩
        rw [List.length_map, List.take_length] at hf
        have sb2 : SameB l H (upd (upd H1 l (.lst [.int z2])) S (.lst (ms.map V.int))) := fun b u hb e => by
          rw [upd_ne (ne_of_none e hS), upd_ne hb]
          exact sb b u hb e
        have hLl : L ≠ l := fun e => by
          rw [e, upd_ne (Ne.symm hSl), upd_same] at hL
          cases hL
        have hL0 : H L = none := by
          cases e : H L with
          | none => rfl
          | some u =>
            rw [sb2 L u hLl e] at hL
            cases hL
        exact q L cs (Rs.shq ms) z2 H' (sb2.trans (SameB.of s5)) (s5 _ _ (by rw [upd_ne (Ne.symm hSl), upd_same])) hL0 hLl hcs hf (Rs.shq_ok hlen2 (fun y hy => (hn2 y hy).1) hpos)
theorem scGain : FnScope ["_law_left_here"] ["_law_left_here"] (defScope sGain) := ⟨rfl, rfl, rfl, by decide +kernel, rfl, by decide +kernel, by decide +kernel⟩
theorem ok_Gain {f fD fL : Addr} {fd fdD fdL : FuncData} {k : Nat} (F : Fun K "_law_gain" "_law_gain" sGain f fd) (GD : FnOk P w K mg base CX0 k fD fdD ["_law_left_here", "_law_many"] spDigit) (kD : PySem.W.keepIn K (.ref fD) = true) (bD : Binds K fdD ["_law_left_here", "_law_many"] []) (gD : mg "_law_digit" = some (.ref fD)) (GL : FnOk P w K mg base CX0 k fL fdL ["_law_top", "_law_bottom"] spLow) (kL : PySem.W.keepIn K (.ref fL) = true) (bL : Binds K fdL ["_law_top", "_law_bottom"] []) (gL : mg "_law_low" = some (.ref fL)) : FnOk P w K mg base CX0 (k + 1) f fd ["_law_left_here"] (Lw.spGain K) := by
  refine F.ok scGain (fun vs H Q E h => ?_) (fun cdv A outer s H vs Q E hr h => ?_)
  · obtain ⟨l, z, rfl, _⟩ := h
    rfl
  · obtain ⟨l, z, rfl, hl, q⟩ := h
    refine ⟨_, (pss_one (ps_ret (pe_call GL hr (by rfl) gL kL bL .nil pass0 (pa_cons (pe_op op_sub (pe_call GD hr (by rfl) gD kD bD .nil pass0 (pa_cons (pv 0) (pa_cons pe_int pa_nil))) pe_int) (pa_cons (pe_ix ix_list (pe_lst (pa_cons pe_int (pa_cons pe_int (pa_cons pe_int (pa_cons pe_int (pa_cons pe_int pa_nil)))))) (pe_call GD hr (by rfl) gD kD bD .nil pass0 (pa_cons (pv 0) (pa_cons pe_int pa_nil))) (fun _ _ => rfl)) pa_nil))))), ?_⟩
    refine ⟨_, rfl, l, z, 9, rfl, hl, by decide, by decide, fun d z1 d0 d9 => ?_⟩
    refine ⟨d, 4, rfl, rfl, ?_⟩
    refine ⟨(by show 5 ≤ sizeLine; decide), fun p np => ?_⟩
    have hpl : p ≠ l := fun e => by
      rw [e, upd_same] at np
      cases np
    have s1 := same_new np (.lst [V.int 1, V.int 1, V.int 1, V.int 2, V.int 3])
    refine ⟨_, rfl, l, z1, 5, rfl, s1 _ _ upd_same, by decide, by decide, fun e z2 e0 e5 => ?_⟩
    obtain ⟨v, ev, v1, v3⟩ := Lw.tab5 e0 e5
    refine ⟨p, _, e, .int v, rfl, rfl, SqL.of (by rw [upd_ne hpl, upd_same]), ev, ?_⟩
    have sb : SameB l H (upd (upd (upd H l (.lst [.int z1])) p (.lst [V.int 1, V.int 1, V.int 1, V.int 2, V.int 3])) l (.lst [.int z2])) := (SameB.upd.trans (SameB.of s1)).trans SameB.upd
    have hl2 : (upd (upd (upd H l (.lst [.int z1])) p (.lst [V.int 1, V.int 1, V.int 1, V.int 2, V.int 3])) l (.lst [.int z2])) l = some (.lst [.int z2]) := upd_same
    generalize upd (upd (upd H l (.lst [.int z1])) p (.lst [V.int 1, V.int 1, V.int 1, V.int 2, V.int 3])) l (.lst [.int z2]) = H2 at sb hl2 ⊢
    have hd : (d - 4).natAbs < 2 ^ 8 := Nat.lt_of_le_of_lt (show (d - 4).natAbs ≤ 5 by omega) (by decide)
    have hv : v.natAbs < 2 ^ 8 := Nat.lt_of_le_of_lt (show v.natAbs ≤ 3 by omega) (by decide)
    refine ⟨d - 4, v, 8, rfl, hd, hv, by omega, by decide, fun p2 np2 => ?_⟩
    exact q p2 _ z2 _ (sb.trans (SameB.of (same_new np2 _))) (same_new np2 _ _ _ hl2) (SqT.of upd_same) (Fr.bd_low hd hv (by omega))
theorem scGains : FnScope ["_law_left_here", "_law_worlds", "_law_deeds", "_law_deed", "_law_world"] ["_law_left_here", "_law_worlds", "_law_deeds"] (defScope sGains) := ⟨rfl, rfl, rfl, by decide +kernel, rfl, by decide +kernel, by decide +kernel⟩
theorem ok_Gains {f fG : Addr} {fd fdG : FuncData} {k : Nat} (F : Fun K "_law_gains" "_law_gains" sGains f fd) (GG : FnOk P w K mg base CX0 k fG fdG ["_law_left_here"] (Lw.spGain K)) (kG : PySem.W.keepIn K (.ref fG) = true) (bG : Binds K fdG ["_law_left_here"] []) (gG : mg "_law_gain" = some (.ref fG)) (B : Blt mg) : FnOk P w K mg base CX0 (k + 1) f fd ["_law_left_here", "_law_worlds", "_law_deeds"] (Lw.spGains K) := by
  refine F.ok scGains (fun vs H Q E h => ?_) (fun cdv A outer s H vs Q E hr h => ?_)
  · obtain ⟨l, z, ww, dd, rfl, _⟩ := h
    rfl
  · obtain ⟨l, z, ww, dd, rfl, hl, h5, h6, q⟩ := h
    refine ⟨_, (pss_one (ps_ret (pe_lc (own := [("_law_world", 4)]) (g := gName 4) (tt := tYes) (te := (tLc (iRng1 (tCons (tVar 2) tNil)) (gName 3) tYes (tCall (Lw.spGain K) [] E0 (tCons (tVar 0) tNil)) [3])) rfl scGains.nd (pi_range1 (by rfl) B.range_ (pa_cons (pv 1) pa_nil)) (blkOk_by (N := ["_law_left_here", "_law_worlds", "_law_deeds", "_law_deed", "_law_world"]) (sc := defScope sGains) (by decide +kernel)) (fun _ _ _ _ _ => (pg_name (i := 4) scGains.nd rfl (Or.inl rfl))) (fun _ _ _ _ _ => pts_nil) (fun _ _ _ _ _ => (pe_lc (own := [("_law_deed", 3)]) (g := gName 3) (tt := tYes) (te := (tCall (Lw.spGain K) [] E0 (tCons (tVar 0) tNil))) rfl scGains.nd (pi_range1 (by rfl) B.range_ (pa_cons (pv 2) pa_nil)) (blkOk_by (N := ["_law_left_here", "_law_worlds", "_law_deeds", "_law_deed", "_law_world"]) (sc := ({ kind := .function, names := [(".0", .local), ("_law_world", .local), ("range", .globalImplicit), ("_law_deeds", .cell), ("_law_left_here", .cell)], isGenerator := false, isCoroutine := false } : Scope)) (by decide +kernel)) (fun _ _ _ _ _ => (pg_name (i := 3) scGains.nd rfl (Or.inl rfl))) (fun _ _ _ _ _ => pts_nil) (fun _ _ _ _ _ => (pe_call GG hr (by rfl) gG kG bG .nil pass0 (pa_cons (pv 0) pa_nil)))))))), ?_⟩
    refine ⟨_, rfl, (ww : Int), rfl, by omega, by omega, fun D hD => ?_⟩
    have hDl : D ≠ l := fun e => by
      rw [e, hl] at hD
      cases hD
    refine lc_range (lo := 0) (n := (ww : Int).toNat) (fun j H' => ∃ rs rss z', New K H H' l D rs rss 8 ∧ H' l = some (.lst [.int z']) ∧ rss.length = j ∧ (∀ r ∈ rss, r.length = dd))
      ⟨[], [], z, New.start hD, by rw [upd_ne (Ne.symm hDl)]; exact hl, rfl, fun qs hq => by simp at hq⟩ ?_ ?_
    · rintro j H' hj ⟨rs, rss, z', N, hl', hlen, hrow⟩
      refine ⟨rfl, tYes_of ?_⟩
      refine ⟨_, rfl, (dd : Int), rfl, by omega, by omega, fun R hR => ?_⟩
      have hRl : R ≠ l := fun e => by
        rw [e, hl'] at hR
        cases hR
      refine lc_range (lo := 0) (n := (dd : Int).toNat) (fun jj H'' => ∃ cs qs z'', H'' R = some (.lst cs) ∧ SameB l H' H'' ∧ H'' l = some (.lst [.int z'']) ∧ FrN K H'' 8 cs qs ∧ qs.length = jj)
        ⟨[], [], z', upd_same, SameB.of (same_new hR _), by rw [upd_ne (Ne.symm hRl)]; exact hl', FrN.nil, rfl⟩ ?_ ?_
      · rintro jj H'' hjj ⟨cs, qs, z'', hcs, sb, hl'', hf, hq⟩
        refine ⟨rfl, tYes_of ?_⟩
        refine ⟨_, rfl, l, z'', rfl, hl'', fun p q z3 H3 sb3 hl3 hp hb => ?_⟩
        have hcs3 := sb3 _ _ hRl hcs
        refine ⟨cs, hcs3, ?_, cs ++ [.ref p], qs ++ [q], z3, upd_same, fun b u hb' e => ?_, by rw [upd_ne (Ne.symm hRl)]; exact hl3, ?_, by rw [List.length_append, hq]; rfl⟩
        · rw [hf.len, hq]
          exact small1000 (by omega)
        · rw [upd_ne (ne_of_none e hR)]
          exact sb3 _ _ hb' (sb _ _ hb' e)
        · exact ((hf.keep (sb3.tup hl'')).snoc hp hb).keep (keep_lst hcs3)
      · rintro H'' ⟨cs, qs, z'', hcs, sb, hl'', hf, hq⟩
        rw [Int.toNat_natCast] at hq
        have N2 := N.step sb hl' hDl
        refine ⟨_, N2.at_, ?_, rs ++ [R], rss ++ [qs], z'', New.push N N2 hR hcs hf hRl, by rw [upd_ne (Ne.symm hDl)]; exact hl'', ?_, ?_⟩
        · rw [List.length_map, N.rows.1, hlen]
          exact small1000 (by omega)
        · rw [List.length_append, hlen]
          rfl
        · intro x hx
          rcases List.mem_append.mp hx with hx | hx
          · exact hrow x hx
          · rw [List.mem_singleton.mp hx]
            exact hq
    · rintro H' ⟨rs, rss, z', N, hl', hlen, hrow⟩
      rw [Int.toNat_natCast] at hlen
      exact q D rs rss z' H' N hDl hl' hlen hrow
theorem scParts : FnScope ["_law_left_here", "_law_most_worlds", "_law_most_deeds", "_law_worlds", "_law_deeds", "_law_own", "_law_deed", "_law_world"] ["_law_left_here", "_law_most_worlds", "_law_most_deeds"] (defScope sParts) := ⟨rfl, rfl, rfl, by decide +kernel, rfl, by decide +kernel, by decide +kernel⟩
theorem ok_Parts {f fD fG fS : Addr} {fd fdD fdG fdS : FuncData} {k : Nat} (F : Fun K "_law_parts" "_law_parts" sParts f fd) (GD : FnOk P w K mg base CX0 k fD fdD ["_law_left_here", "_law_many"] spDigit) (kD : PySem.W.keepIn K (.ref fD) = true) (bD : Binds K fdD ["_law_left_here", "_law_many"] []) (gD : mg "_law_digit" = some (.ref fD)) (GG : FnOk P w K mg base CX0 k fG fdG ["_law_left_here", "_law_worlds", "_law_deeds"] (Lw.spGains K)) (kG : PySem.W.keepIn K (.ref fG) = true) (bG : Binds K fdG ["_law_left_here", "_law_worlds", "_law_deeds"] []) (gG : mg "_law_gains" = some (.ref fG)) (GS : FnOk P w K mg base CX0 k fS fdS ["_law_left_here", "_law_many"] (spShares K)) (kS : PySem.W.keepIn K (.ref fS) = true) (bS : Binds K fdS ["_law_left_here", "_law_many"] []) (gS : mg "_law_shares" = some (.ref fS)) (B : Blt mg) : FnOk P w K mg base CX0 (k + 1) f fd ["_law_left_here", "_law_most_worlds", "_law_most_deeds"] (Lw.spParts K) := by
  refine F.ok scParts (fun vs H Q E h => ?_) (fun cdv A outer s H vs Q E hr h => ?_)
  · obtain ⟨l, z, mw, md, rfl, _⟩ := h
    rfl
  · obtain ⟨l, z, mw, md, rfl, hl, m1, m5, n1, n6, q⟩ := h
    refine ⟨_, (pss_cons (ps_set (i := 3) scParts.nd rfl (.inl rfl) (pe_op op_add pe_int (pe_call GD hr (by rfl) gD kD bD .nil pass0 (pa_cons (pv 0) (pa_cons (pv 1) pa_nil)))))
      (pss_cons (ps_set (i := 4) scParts.nd rfl (.inr rfl) (pe_op op_add pe_int (pe_call GD hr (by rfl) gD kD bD .nil pass0 (pa_cons (pv 0) (pa_cons (pv 2) pa_nil)))))
      (pss_cons (ps_set (i := 5) scParts.nd rfl (.inl rfl) (pe_call GG hr (by rfl) gG kG bG .nil pass0 (pa_cons (pv 0) (pa_cons (pv 3) (pa_cons (pv 4) pa_nil)))))
      (pss_cons (ps_if (pt_cmpR op_eq (pe_call GD hr (by rfl) gD kD bD .nil pass0 (pa_cons (pv 0) (pa_cons pe_int pa_nil))) pe_int (nomark _)) (pss_one (ps_setLc (i := 5) (own := [("_law_world", 7)]) (g := gName 7) (tt := tYes) (te := (tLc (iRng1 (tCons (tVar 4) tNil)) (gName 6) tYes (tTup (tCons (tCB Rs.rInt1 (tCons (tOp rEq (tVar 6) (tOp (rI (fun _ j => 0 < j) fun i j => .int (i % j)) (tVar 7) (tVar 4))) tNil)) (tCons (tC (.int 1)) tNil))) [6])) rfl scParts.nd rfl rfl (sw_true rfl rfl rfl (by decide +kernel)) (pi_range1 (by rfl) B.range_ (pa_cons (pv 3) pa_nil)) (blkOk_by (N := ["_law_left_here", "_law_most_worlds", "_law_most_deeds", "_law_worlds", "_law_deeds", "_law_own", "_law_deed", "_law_world"]) (sc := defScope sParts) (by decide +kernel)) (fun _ _ _ _ _ => (pg_name (i := 7) scParts.nd rfl (Or.inr rfl))) (fun _ _ _ _ _ => pts_nil) (fun _ _ _ _ _ => (pe_lc (own := [("_law_deed", 6)]) (g := gName 6) (tt := tYes) (te := (tTup (tCons (tCB Rs.rInt1 (tCons (tOp rEq (tVar 6) (tOp (rI (fun _ j => 0 < j) fun i j => .int (i % j)) (tVar 7) (tVar 4))) tNil)) (tCons (tC (.int 1)) tNil)))) rfl scParts.nd (pi_range1 (by rfl) B.range_ (pa_cons (pv 4) pa_nil)) (blkOk_by (N := ["_law_left_here", "_law_most_worlds", "_law_most_deeds", "_law_worlds", "_law_deeds", "_law_own", "_law_deed", "_law_world"]) (sc := ({ kind := .function, names := [(".0", .local), ("_law_world", .cell), ("range", .globalImplicit), ("_law_deeds", .cell)], isGenerator := false, isCoroutine := false } : Scope)) (by decide +kernel)) (fun _ _ _ _ _ => (pg_name (i := 6) scParts.nd rfl (Or.inl rfl))) (fun _ _ _ _ _ => pts_nil) (fun _ _ _ _ _ => (pe_tup (pa_cons (pe_callTy (T := "int") call_int1 (by rfl) B.int_ (by decide +kernel) (pa_cons (pe_cmpR op_eq (pv 6) (pe_op op_mod (pv 7) (pv 4)) (nomark _)) pa_nil)) (pa_cons pe_int pa_nil)))))))) pss_nil)
      (pss_one (ps_ret (pe_lst (pa_cons (pe_call GS hr (by rfl) gS kS bS .nil pass0 (pa_cons (pv 0) (pa_cons (pv 3) pa_nil))) (pa_cons (pv 5) (pa_cons (pe_call GG hr (by rfl) gG kG bG .nil pass0 (pa_cons (pv 0) (pa_cons (pv 3) (pa_cons (pv 4) pa_nil)))) pa_nil)))))))))), ?_⟩
    refine ⟨_, rfl, _, rfl, l, z, (mw : Int), rfl, hl, by omega, Nat.lt_of_le_of_lt (by omega : ((mw : Int)).natAbs ≤ 30) (by decide), fun d1 z1 a0 a1 => ?_⟩
    refine ⟨1, d1, rfl, rfl, ?_⟩
    obtain ⟨ww, ew⟩ : ∃ ww : Nat, (1 + d1 : Int) = (ww : Int) := ⟨(1 + d1).toNat, by omega⟩
    rw [show ((fun i j => V.int (i + j)) 1 d1 : V) = V.int (ww : Int) from congrArg V.int ew]
    refine ⟨_, rfl, _, rfl, l, z1, (md : Int), rfl, upd_same, by omega, Nat.lt_of_le_of_lt (by omega : ((md : Int)).natAbs ≤ 30) (by decide), fun d2 z2 b0 b1 => ?_⟩
    refine ⟨1, d2, rfl, rfl, ?_⟩
    obtain ⟨dd, ed⟩ : ∃ dd : Nat, (1 + d2 : Int) = (dd : Int) := ⟨(1 + d2).toNat, by omega⟩
    rw [show ((fun i j => V.int (i + j)) 1 d2 : V) = V.int (dd : Int) from congrArg V.int ed]
    have sb2 : SameB l H (upd (upd H l (.lst [.int z1])) l (.lst [.int z2])) := SameB.upd.trans SameB.upd
    have hl2 : (upd (upd H l (.lst [.int z1])) l (.lst [.int z2])) l = some (.lst [.int z2]) := upd_same
    generalize upd (upd H l (.lst [.int z1])) l (.lst [.int z2]) = H2 at sb2 hl2 ⊢
    have fin : ∀ (O : Addr) (rh : List Addr) (hss : List (List Rat)) (H4 : Hp) (z4 : Int), SameB l H H4 → H4 l = some (.lst [.int z4]) → RwL K H4 O rh hss 8 → hss.length = ww → (∀ r ∈ hss, r.length = dd) → (tLst (tCons (tCall (spShares K) [] E0 (tCons (tVar 0) (tCons (tVar 3) tNil))) (tCons (tVar 5) (tCons (tCall (Lw.spGains K) [] E0 (tCons (tVar 0) (tCons (tVar 3) (tCons (tVar 4) tNil)))) tNil)))) [some (.ref l), some (.int (mw : Int)), some (.int (md : Int)), some (.int (ww : Int)), some (.int (dd : Int)), some (.ref O), none, none] H4 Q := fun O rh hss H4 z4 sb4 hl4 W4 hh4 hr4 => by
      refine ⟨_, rfl, _, rfl, l, z4, ww, rfl, hl4, by omega, by omega, fun A cs qs z5 H5 sb5 hl5 hA4 hAl hcs hf hro => ?_⟩
      have W5 := Rs.RwL.keepB W4 hl4 sb5
      refine ⟨_, rfl, ?_⟩
      refine ⟨_, rfl, _, rfl, _, rfl, l, z5, ww, dd, rfl, hl5, by omega, by omega, fun T rt tss z6 H6 N hTl hl6 ht6 hr6 => ?_⟩
      have W6 := Rs.RwL.keepB W5 hl5 N.keep
      refine ⟨(by show 3 ≤ sizeLine; decide), fun P nP => ?_⟩
      have s7 := same_new nP (.lst [V.ref A, V.ref O, V.ref T])
      have sb6 := (sb4.trans sb5).trans N.keep
      have hPl : P ≠ l := fun e => by
        rw [e, hl6] at nP
        cases nP
      have hP0 : H P = none := by
        cases e : H P with
        | none => rfl
        | some o =>
          rw [sb6 P o hPl e] at nP
          cases nP
      refine q P qs hss tss ww dd z6 _ (sb6.trans (SameB.of s7)) (s7 _ _ hl6) ⟨A, O, T, cs, rh, rt, upd_same, s7 _ _ (N.keep _ _ hAl hcs), (hf.keep (N.keep.tup hl5)).same s7, W6.same s7, N.rwl.same s7⟩ ⟨by omega, by omega, by omega, by omega, hro, hh4, ht6, hr4, hr6⟩ (by omega) (by omega) hP0 hPl
    refine ⟨_, rfl, _, rfl, _, rfl, l, z2, ww, dd, rfl, hl2, by omega, by omega, fun O rh hss z3 H3 N hOl hl3 hh3 hr3 => ?_⟩
    have sb3 := sb2.trans N.keep
    have W3 := N.rwl
    clear N
    refine ⟨_, rfl, l, z3, 4, rfl, hl3, by decide, by decide, fun d4 z4 c0 c4 => ?_⟩
    have sb4 := sb3.trans (SameB.upd (o := .lst [.int z4]))
    have W4 := Rs.RwL.keepB W3 hl3 (SameB.upd (o := .lst [.int z4]))
    have hl4 : (upd H3 l (.lst [.int z4])) l = some (.lst [.int z4]) := upd_same
    generalize upd H3 l (.lst [.int z4]) = H4 at sb4 W4 hl4 ⊢
    refine ⟨rfl, _, rfl, ite2 (fun _ => ?_) (fun _ => fin O rh hss H4 z4 sb4 hl4 W4 hh3 hr3)⟩
    refine ⟨_, rfl, (ww : Int), rfl, by omega, by omega, fun L hL => lc_range (lo := 0) (n := (ww : Int).toNat) (fun j H' => ∃ rs rss, New K H4 H' L L rs rss 8 ∧ rss.length = j ∧ ∀ r ∈ rss, r.length = dd) ⟨[], [], New.start hL, rfl, fun r hr => by simp at hr⟩ ?_ ?_⟩
    · rintro j H' hj ⟨rs, rss, N, hlen, hrow⟩
      refine ⟨rfl, tYes_of ?_⟩
      refine ⟨_, rfl, (dd : Int), rfl, by omega, by omega, fun R hR => lc_range (lo := 0) (n := (dd : Int).toNat) (fun jj H'' => ∃ cs qs, H'' R = some (.lst cs) ∧ Same H' H'' ∧ FrN K H'' 8 cs qs ∧ qs.length = jj) ⟨[], [], upd_same, same_new hR _, FrN.nil, rfl⟩ ?_ ?_⟩
      · rintro jj H'' hjj ⟨cs, qs, hcs, s5, hf, hq⟩
        refine ⟨rfl, tYes_of ?_⟩
        refine ⟨_, rfl, _, rfl, _, rfl, _, _, rfl, rfl, (show (0 : Int) < (dd : Int) by omega), rfl, .inr ⟨_, rfl, (by show 2 ≤ sizeLine; decide), fun t ht => ?_⟩⟩
        obtain ⟨bb, ebb⟩ : ∃ bb : Bool, decide (V.int (0 + (jj : Int)) = V.int ((0 + (j : Int)) % (dd : Int))) = bb := ⟨_, rfl⟩
        rw [ebb]
        obtain ⟨q, hb, er⟩ : ∃ q : Rat, Bd 8 q ∧ rp q = [.int (if bb = true then 1 else 0), .int 1] := by
          cases bb with
          | true => exact ⟨1, Lw.bd_one, rfl⟩
          | false => exact ⟨0, Lw.bd_nul, rfl⟩
        rw [← er]
        have s6 := same_new ht (.tup (rp q))
        refine ⟨cs, s6 _ _ hcs, ?_, _, qs ++ [q], upd_same, fun b u e => ?_, ?_, by rw [List.length_append, hq]; rfl⟩
        · rw [hf.len, hq]
          exact small1000 (by omega)
        · rw [upd_ne (ne_of_none e hR)]
          exact s6 _ _ (s5 _ _ e)
        · exact ((hf.same s6).snoc (SqT.of upd_same) hb).keep (keep_lst (s6 _ _ hcs))
      · rintro H'' ⟨cs, qs, hcs, s5, hf, hq⟩
        rw [Int.toNat_natCast] at hq
        have N2 := N.stepS s5
        have hRL : R ≠ L := fun e => by
          rw [e, N.at_] at hR
          cases hR
        refine ⟨_, N2.at_, ?_, rs ++ [R], rss ++ [qs], New.push N N2 hR hcs hf hRL, by rw [List.length_append, hlen]; rfl, fun r hr => ?_⟩
        · rw [List.length_map, N.rows.1, hlen]
          exact small1000 (by omega)
        · rcases List.mem_append.mp hr with hr | hr
          · exact hrow r hr
          · rw [List.mem_singleton.mp hr]
            exact hq
    · rintro H5 ⟨rs, rss, N, hlen, hrow⟩
      rw [Int.toNat_natCast] at hlen
      have fr := N.toFresh
      have u5 := fr.2.2.2.2.2
      exact fin L rs rss H5 z4 (sb4.trans (SameB.of u5)) (u5 _ _ hl4) fr.1 hlen hrow
end
end K35

set_option Elab.async false
set_option linter.all false
set_option maxRecDepth 100000
set_option maxHeartbeats 16000000
namespace K35
open PySem PySem.Spec PyProof.Rows L2 BX EXB Co Ru
open Dz Cs Hr
open Rs (Rsp Rv Ret tYes_of dV datR Flat Okr spShares spRowsL spTotal spCopied eqv_dR)
open Fr (Bd)
theorem frn_repq {K : PySem.W.Frag} {H : Hp} {t : Addr} {q : Rat} {n k : Nat} (hb : Bd n q) (ht : SqT K H t (rp q)) : FrN K H n (List.replicate k (V.ref t)) (List.replicate k q) := by
  refine ⟨by rw [List.length_replicate, List.length_replicate], fun i v e => ?_⟩
  have hi : i < k := by
    have := (List.getElem?_eq_some_iff.mp e).1
    rw [List.length_replicate] at this
    exact this
  rw [List.getElem?_replicate, if_pos hi] at e
  exact ⟨t, q, by rw [List.getElem?_replicate, if_pos hi], (Option.some.inj e).symm, ht, hb⟩
theorem rep_flat' (k : Nat) (v : V) : (List.replicate k [v]).flatten = List.replicate k v := by
  induction k with
  | zero => rfl
  | succ k ih => rw [List.replicate_succ, List.flatten_cons, ih, List.replicate_succ]; rfl
def half : Rat := ⟨1, 2, by decide, by decide⟩
/-- rows of what is asked for instead -/
structure InsT (K : PySem.W.Frag) (H : Hp) (I : Addr) (ri : List Addr) (iss : List (List Rat)) (dd : Nat) : Prop where
  w : RwL K H I ri iss 2
  l : iss.length = dd
  r : ∀ x ∈ iss, x.length = dd
theorem InsT.same {K : PySem.W.Frag} {H H' : Hp} {I : Addr} {ri : List Addr} {iss : List (List Rat)} {dd : Nat} (h : InsT K H I ri iss dd) (s : Same H H') : InsT K H' I ri iss dd := ⟨h.w.same s, h.l, h.r⟩
def spDueP (K : PySem.W.Frag) : Sp := fun vs H Q _ => ∃ (P I : Addr) (i d : Nat) (qs : List Rat) (hss tss iss : List (List Rat)) (ri : List Addr) (ww dd : Nat), vs = [.ref P, .int (i : Int), .int (d : Int), .ref I] ∧ Lw.PartsAt K H P qs hss tss ∧ GoodC qs hss tss ww dd ∧ InsT K H I ri iss dd ∧ dd ≤ 4 ∧ i < ww ∧ d < dd ∧
  ∀ p q H', Same H H' → SqT K H' p (rp q) → Bd 100 q → Q (.ref p) H'
def spLBound (K : PySem.W.Frag) : Sp := fun vs H Q _ => ∃ (a Pr : Addr) (cs : List V) (ss ps : List Rat) (ww : Nat), vs = [.ref a, .ref Pr] ∧ SqL K H a cs ∧ FrN K H 8 cs ss ∧ ss.length = ww ∧ ww ≤ 5 ∧ PrT K H Pr ps ww ∧ ∀ p H', Same H H' → SqT K H' p (rp (dotq ss ps)) → Bd 546 (dotq ss ps) → Q (.ref p) H'
def spMade (K : PySem.W.Frag) : Sp := fun vs H Q _ => ∃ (P : Addr) (qs : List Rat) (hss tss : List (List Rat)) (ww dd : Nat), vs = [.ref P] ∧ Lw.PartsAt K H P qs hss tss ∧ GoodC qs hss tss ww dd ∧ dd ≤ 4 ∧
  ∀ Pr W I cs ps ri iss H', Same H H' → H W = none → H I = none → W ≠ I → (∀ r ∈ ri, H r = none) → W ∉ ri → I ∉ ri → SqT K H' Pr [.ref W, .ref I] → H' W = some (.lst cs) → FrN K H' 100 cs ps → ps.length = ww → InsT K H' I ri iss dd → Q (.ref Pr) H'
section
variable {P : Program} {w : World} {K : PySem.W.Frag} {mg : Str → Option Value} {base : Heap}
theorem scDueP : FnScope ["_law_parts_here", "_law_world", "_law_deed", "_law_instead", "_law_found", "_law_other", "_law_apart"] ["_law_parts_here", "_law_world", "_law_deed", "_law_instead"] (defScope sDueP) := ⟨rfl, rfl, rfl, by decide +kernel, rfl, by decide +kernel, by decide +kernel⟩
theorem ok_DueP {f fM fA fX : Addr} {fd fdM fdA fdX : FuncData} {k : Nat} (F : Fun K "_law_due_price" "_law_due_price" sDueP f fd) (GM : FnOk P w K mg base CX0 k fM fdM ["_law_one", "_law_other"] (spBin K (· - ·))) (kM : PySem.W.keepIn K (.ref fM) = true) (bM : Binds K fdM ["_law_one", "_law_other"] []) (gM : mg "_law_less" = some (.ref fM)) (GA : FnOk P w K mg base CX0 k fA fdA ["_law_one", "_law_other"] (spBin K (· + ·))) (kA : PySem.W.keepIn K (.ref fA) = true) (bA : Binds K fdA ["_law_one", "_law_other"] []) (gA : mg "_law_plus" = some (.ref fA)) (GX : FnOk P w K mg base CX0 k fX fdX ["_law_one", "_law_other"] (spBin K (· * ·))) (kX : PySem.W.keepIn K (.ref fX) = true) (bX : Binds K fdX ["_law_one", "_law_other"] []) (gX : mg "_law_times" = some (.ref fX)) (B : Blt mg) : FnOk P w K mg base CX0 (k + 1) f fd ["_law_parts_here", "_law_world", "_law_deed", "_law_instead"] (spDueP K) := by
  refine F.ok scDueP (fun vs H Q E h => ?_) (fun cdv A outer s H vs Q E hr h => ?_)
  · obtain ⟨P0, I, i, d, qs, hss, tss, iss, ri, ww, dd, rfl, _⟩ := h
    rfl
  · obtain ⟨P0, I, i, d, qs, hss, tss, iss, ri, ww, dd, rfl, hP, g, hI, d4, hi, hd, q⟩ := h
    refine ⟨_, (pss_cons (ps_set (i := 4) scDueP.nd rfl (.inl rfl) (pe_ix ix_list (pe_ix ix_list (pe_ix ix_list (pv 0) pe_int (fun _ _ => rfl)) (pv 1) (fun _ _ => rfl)) (pv 2) (fun _ _ => rfl)))
      (pss_cons (ps_for PassesOwn.never rfl (pi_range1 (by rfl) B.range_ (pa_cons (pe_callB call_len_seq (by rfl) B.len_ PySem.boot_len (pa_cons (pe_ix ix_list (pe_ix ix_list (pv 0) pe_int (fun _ _ => rfl)) (pv 1) (fun _ _ => rfl)) pa_nil)) pa_nil)) (pg_name (i := 5) scDueP.nd rfl (.inl rfl)) (pss_cons (ps_set (i := 6) scDueP.nd rfl (.inl rfl) (pe_call GM hr (by rfl) gM kM bM .nil pass0 (pa_cons (pe_ix ix_list (pe_ix ix_list (pe_ix ix_list (pv 0) pe_int (fun _ _ => rfl)) (pv 1) (fun _ _ => rfl)) (pv 2) (fun _ _ => rfl)) (pa_cons (pe_ix ix_list (pe_ix ix_list (pe_ix ix_list (pv 0) pe_int (fun _ _ => rfl)) (pv 1) (fun _ _ => rfl)) (pv 5) (fun _ _ => rfl)) pa_nil))))
      (pss_one (ps_set (i := 4) scDueP.nd rfl (.inl rfl) (pe_call GA hr (by rfl) gA kA bA .nil pass0 (pa_cons (pv 4) (pa_cons (pe_call GX hr (by rfl) gX kX bX .nil pass0 (pa_cons (pe_ix ix_list (pe_ix ix_list (pv 3) (pv 2) (fun _ _ => rfl)) (pv 5) (fun _ _ => rfl)) (pa_cons (pv 6) pa_nil))) pa_nil)))))))
      (pss_one (ps_ret (pv 4))))), ?_⟩
    obtain ⟨A0, B0, C0, cs0, rh, rt, e1, e2, e3, e4, e5⟩ := id hP
    have hh : i < rh.length := by rw [e4.2.1, g.hl]; omega
    have ht : i < rt.length := by rw [e5.2.1, g.tl]; omega
    obtain ⟨ch, qh, t1, t2, t3⟩ := e4.2.2 i rh[i] (List.getElem?_eq_getElem hh)
    obtain ⟨ct, qt, u1, u2, u3⟩ := e5.2.2 i rt[i] (List.getElem?_eq_getElem ht)
    have lh : qh.length = dd := g.hr qh (List.mem_of_getElem? t1)
    have lt : qt.length = dd := g.tr qt (List.mem_of_getElem? u1)
    have hr' : d < ri.length := by rw [hI.w.2.1, hI.l]; omega
    obtain ⟨ci, qi, v1, v2, v3⟩ := hI.w.2.2 d ri[d] (List.getElem?_eq_getElem hr')
    have li : qi.length = dd := hI.r qi (List.mem_of_getElem? v1)
    have hdt : d < qt.length := by omega
    have hdh : d < qh.length := by omega
    obtain ⟨pt, z1, z2, z3⟩ := frn_get u3 (List.getElem?_eq_getElem hdt)
    obtain ⟨ph, w1, w2, w3⟩ := frn_get t3 (List.getElem?_eq_getElem hdh)
    have gB : (rh.map V.ref)[i]? = some (.ref rh[i]) := by rw [List.getElem?_map, List.getElem?_eq_getElem hh]; rfl
    have gC : (rt.map V.ref)[i]? = some (.ref rt[i]) := by rw [List.getElem?_map, List.getElem?_eq_getElem ht]; rfl
    have gI : (ri.map V.ref)[d]? = some (.ref ri[d]) := by rw [List.getElem?_map, List.getElem?_eq_getElem hr']; rfl
    refine ⟨_, rfl, P0, _, 2, .ref C0, rfl, rfl, SqL.of ((Same.refl H) _ _ e1), atI_nat (j := 2) rfl, _, rfl, C0, _, _, .ref rt[i], rfl, rfl, SqL.of e5.1, atI_nat (j := i) gC, _, rfl, rt[i], ct, _, .ref pt, rfl, rfl, SqL.of u2, atI_nat (j := d) z1, ?_⟩
    refine ⟨_, rfl, P0, _, 1, .ref B0, rfl, rfl, SqL.of ((Same.refl H) _ _ e1), atI_nat (j := 1) rfl, _, rfl, B0, _, _, .ref rh[i], rfl, rfl, SqL.of e4.1, atI_nat (j := i) gB, rh[i], ch, rfl, .inl (SqL.of t2), (ch.length : Int), rfl, ?_⟩
    have hcl : ch.length = dd := by rw [t3.len, lh]
    rw [hcl]
    refine ⟨by omega, by omega, for_range (lo := 0) (n := (dd : Int).toNat) (fun j σ H' => ∃ (f : Addr) (r : Rat) (y5 y6 : Option V), σ = [some (.ref P0), some (.int (i : Int)), some (.int (d : Int)), some (.ref I), some (.ref f), y5, y6] ∧ Same H H' ∧ SqT K H' f (rp r) ∧ Bd (8 + 20 * j) r) ⟨pt, _, none, none, rfl, Same.refl _, z2, z3⟩ ?_ ?_⟩
    · rintro j σ H1 hj ⟨f, r, y5, y6, rfl, s1, hf, bf⟩
      have hj4 : j < dd := by omega
      rw [show (0 + (j : Int)) = (j : Int) from Int.zero_add _]
      have hjh : j < qh.length := by omega
      have hji : j < qi.length := by omega
      obtain ⟨po, o1, o2, o3⟩ := frn_get t3 (List.getElem?_eq_getElem hjh)
      obtain ⟨pi, i1, i2, i3⟩ := frn_get v3 (List.getElem?_eq_getElem hji)
      refine ⟨_, rfl, P0, _, 1, .ref B0, rfl, rfl, SqL.of (s1 _ _ e1), atI_nat (j := 1) rfl, _, rfl, B0, _, _, .ref rh[i], rfl, rfl, SqL.of (s1 _ _ e4.1), atI_nat (j := i) gB, _, rfl, rh[i], ch, _, .ref ph, rfl, rfl, SqL.of (s1 _ _ t2), atI_nat (j := d) w1, ?_⟩
      refine ⟨_, rfl, P0, _, 1, .ref B0, rfl, rfl, SqL.of (s1 _ _ e1), atI_nat (j := 1) rfl, _, rfl, B0, _, _, .ref rh[i], rfl, rfl, SqL.of (s1 _ _ e4.1), atI_nat (j := i) gB, _, rfl, rh[i], ch, _, .ref po, rfl, rfl, SqL.of (s1 _ _ t2), atI_nat (j := j) o1, ?_⟩
      refine ⟨ph, po, qh[d], qh[j], 8, 8, rfl, seqT s1 w2, seqT s1 o2, w3, o3, by decide, fun pa npa => ?_⟩
      have sa := same_new npa (.tup (rp (qh[d] - qh[j])))
      have hpa : SqT K (upd H1 pa (.tup (rp (qh[d] - qh[j])))) pa (rp (qh[d] - qh[j])) := SqT.of upd_same
      have ba : Bd 17 (qh[d] - qh[j]) := (Fr.bd_sub w3 o3).mono (by decide)
      have s2 := s1.trans sa
      generalize upd H1 pa (.tup (rp (qh[d] - qh[j]))) = H2 at sa hpa s2 ⊢
      refine ⟨_, rfl, _, rfl, _, rfl, I, _, _, .ref ri[d], rfl, rfl, SqL.of (s2 _ _ hI.w.1), atI_nat (j := d) gI, _, rfl, ri[d], ci, _, .ref pi, rfl, rfl, SqL.of (s2 _ _ v2), atI_nat (j := j) i1, _, rfl, pi, pa, qi[j], _, 2, 17, rfl, seqT s2 i2, hpa, i3, ba, by decide, fun pm npm => ?_⟩
      have sm := same_new npm (.tup (rp (qi[j] * (qh[d] - qh[j]))))
      have hpm : SqT K (upd H2 pm (.tup (rp (qi[j] * (qh[d] - qh[j]))))) pm (rp (qi[j] * (qh[d] - qh[j]))) := SqT.of upd_same
      have bm : Bd 19 (qi[j] * (qh[d] - qh[j])) := (Fr.bd_mul i3 ba).mono (by decide)
      have s3 := s2.trans sm
      have hf3 := seqT (sa.trans sm) hf
      generalize upd H2 pm (.tup (rp (qi[j] * (qh[d] - qh[j])))) = H3 at sm hpm s3 hf3 ⊢
      refine ⟨f, pm, r, _, 8 + 20 * j, 19, rfl, hf3, hpm, bf, bm, by omega, fun pn npn => ?_⟩
      have sn := same_new npn (.tup (rp (r + qi[j] * (qh[d] - qh[j]))))
      exact ⟨pn, _, _, _, rfl, s3.trans sn, SqT.of upd_same, (Fr.bd_add bf bm).mono (by omega)⟩
    · rintro σ H1 ⟨f, r, y5, y6, rfl, s1, hf, bf⟩
      exact ⟨_, rfl, q f r H1 s1 hf (bf.mono (by omega))⟩
theorem scLBound : FnScope ["_law_some", "_law_prices", "_law_found", "_law_share", "_law_price"] ["_law_some", "_law_prices"] (defScope sLBound) := ⟨rfl, rfl, rfl, by decide +kernel, rfl, by decide +kernel, by decide +kernel⟩
theorem ok_LBound {f fA fX : Addr} {fd fdA fdX : FuncData} {k : Nat} (F : Fun K "_law_bound" "_law_bound" sLBound f fd) (GA : FnOk P w K mg base CX0 k fA fdA ["_law_one", "_law_other"] (spBin K (· + ·))) (kA : PySem.W.keepIn K (.ref fA) = true) (bA : Binds K fdA ["_law_one", "_law_other"] []) (gA : mg "_law_plus" = some (.ref fA)) (GX : FnOk P w K mg base CX0 k fX fdX ["_law_one", "_law_other"] (spBin K (· * ·))) (kX : PySem.W.keepIn K (.ref fX) = true) (bX : Binds K fdX ["_law_one", "_law_other"] []) (gX : mg "_law_times" = some (.ref fX)) (B : Blt mg) : FnOk P w K mg base CX0 (k + 1) f fd ["_law_some", "_law_prices"] (spLBound K) := by
  refine F.ok scLBound (fun vs H Q E h => ?_) (fun cdv A outer s H vs Q E hr h => ?_)
  · obtain ⟨a, Pr, cs, ss, ps, ww, rfl, _⟩ := h
    rfl
  · obtain ⟨a, Pr, cs, ss, ps, ww, rfl, ha, hf, hl, h5, hpr, q⟩ := h
    refine ⟨_, (pss_cons (ps_set (i := 2) scLBound.nd rfl (.inl rfl) (pe_tup (pa_cons pe_int (pa_cons pe_int pa_nil))))
      (pss_cons (ps_for PassesOwn.never rfl (pi_zip (by rfl) B.zip_ (pa_cons (pv 0) (pa_cons (pe_ix ix_tup (pv 1) pe_int (fun _ _ => rfl)) pa_nil))) (pg_tup rfl (pgs_cons (pg_name (i := 3) scLBound.nd rfl (.inl rfl)) (pgs_cons (pg_name (i := 4) scLBound.nd rfl (.inl rfl)) pgs_nil))) (pss_one (ps_set (i := 2) scLBound.nd rfl (.inl rfl) (pe_call GA hr (by rfl) gA kA bA .nil pass0 (pa_cons (pv 2) (pa_cons (pe_call GX hr (by rfl) gX kX bX .nil pass0 (pa_cons (pv 3) (pa_cons (pv 4) pa_nil))) pa_nil))))))
      (pss_one (ps_ret (pv 2))))), ?_⟩
    obtain ⟨⟨W, I, cw, p1, p2, p3⟩, pl⟩ := hpr
    have lz : cs.length = cw.length := by rw [hf.len, p3.len]; omega
    have pz : (List.zipWith (· * ·) ss ps).length = ww := by rw [List.length_zipWith]; omega
    refine ⟨(by show 2 ≤ sizeLine; decide), fun z nz => ?_⟩
    have s0 := same_new nz (.tup [V.int 0, V.int 1])
    have dz : SqT K (upd H z (.tup [V.int 0, V.int 1])) z (rp 0) := SqT.of upd_same
    generalize upd H z (.tup [V.int 0, V.int 1]) = H0 at s0 dz ⊢
    refine ⟨_, rfl, _, rfl, Pr, _, 0, .ref W, rfl, rfl, seqT s0 p1, atI_nat (j := 0) rfl, a, W, _, _, rfl, s0.seq ha, s0.seq p2, RZ.for_zipL (K := K) (a := a) (b := W) (xs := cs) (ys := cw) lz (fun j σ H' => ∃ (f : Addr) (y3 y4 : Option V), σ = [some (.ref a), some (.ref Pr), some (.ref f), y3, y4] ∧ Same H H' ∧ SqT K H' f (rp ((List.zipWith (· * ·) ss ps).take j).sum) ∧ Bd (1 + 109 * j) ((List.zipWith (· * ·) ss ps).take j).sum ∧ j ≤ 5) ⟨z, none, none, rfl, s0, dz, (show Bd (1 + 109 * 0) (([] : List Rat).sum) from ⟨by decide, by decide⟩), by decide⟩ (fun j σ H' ⟨_, _, _, _, s, _⟩ => ⟨s.seq ha, s.seq p2⟩) ?_ ?_⟩
    · rintro j u v T0 σ H5 ex ey ⟨f, y3, y4, rfl, s5, tf, bf, j5⟩ nT
      obtain ⟨pa, qa, x1, rfl, x3, x4⟩ := hf.at_ j u ex
      obtain ⟨pb, qb, y1, rfl, y3', y4'⟩ := p3.at_ j v ey
      have hjw : j < ww := by
        have := (List.getElem?_eq_some_iff.mp x1).1
        omega
      have sT := same_new nT (.tup [V.ref pa, V.ref pb])
      have s6 := s5.trans sT
      have tf6 := seqT sT tf
      have hT0 : SqT K (upd H5 T0 (.tup [V.ref pa, V.ref pb])) T0 [V.ref pa, V.ref pb] := SqT.of upd_same
      refine ⟨T0, _, rfl, hT0, rfl, _, _, rfl, _, _, rfl, rfl, ?_⟩
      refine ⟨_, rfl, _, rfl, _, rfl, pa, pb, qa, qb, 8, 100, rfl, seqT s6 x3, seqT s6 y3', x4, y4', by decide, fun pm npm => ?_⟩
      have sm := same_new npm (.tup (rp (qa * qb)))
      have bm : Bd 108 (qa * qb) := (Fr.bd_mul x4 y4').mono (by decide)
      refine ⟨f, pm, _, _, 1 + 109 * j, 108, rfl, seqT sm tf6, SqT.of upd_same, bf, bm, by omega, fun pn npn => ?_⟩
      have sn := same_new npn (.tup (rp (((List.zipWith (· * ·) ss ps).take j).sum + qa * qb)))
      have ez : (List.zipWith (· * ·) ss ps)[j]? = some (qa * qb) := by rw [List.getElem?_zipWith, x1, y1]
      have es : ((List.zipWith (· * ·) ss ps).take (j + 1)).sum = ((List.zipWith (· * ·) ss ps).take j).sum + qa * qb := by rw [take_succ_at ez, List.sum_append, List.sum_singleton]
      refine ⟨pn, _, _, rfl, (s6.trans sm).trans sn, ?_, ?_, by omega⟩
      · rw [es]
        exact SqT.of upd_same
      · rw [es]
        exact (Fr.bd_add bf bm).mono (by omega)
    · rintro σ H5 ⟨f, y3, y4, rfl, s5, tf, bf, j5⟩
      have et : (List.zipWith (· * ·) ss ps).take cs.length = (List.zipWith (· * ·) ss ps) := List.take_of_length_le (by rw [pz, hf.len]; omega)
      rw [et] at tf bf
      exact ⟨_, rfl, q f H5 s5 tf (bf.mono (by omega))⟩
theorem scMade : FnScope ["_law_parts_here", "_law_deeds", "_law_instead", "_law_deed", "_law_worlds", "_law_world", "_law_due", "_law_one"] ["_law_parts_here"] (defScope sMade) := ⟨rfl, rfl, rfl, by decide +kernel, rfl, by decide +kernel, by decide +kernel⟩
theorem ok_Made {f fD fU : Addr} {fd fdD fdU : FuncData} {k : Nat} (F : Fun K "_law_made" "_law_made" sMade f fd) (GD : FnOk P w K mg base CX0 k fD fdD ["_law_parts_here", "_law_world", "_law_deed", "_law_instead"] (spDueP K)) (kD : PySem.W.keepIn K (.ref fD) = true) (bD : Binds K fdD ["_law_parts_here", "_law_world", "_law_deed", "_law_instead"] []) (gD : mg "_law_due_price" = some (.ref fD)) (GU : FnOk P w K mg base CX0 k fU fdU ["_law_one", "_law_other"] (spUnder K)) (kU : PySem.W.keepIn K (.ref fU) = true) (bU : Binds K fdU ["_law_one", "_law_other"] []) (gU : mg "_law_under" = some (.ref fU)) (B : Blt mg) : FnOk P w K mg base CX0 (k + 1) f fd ["_law_parts_here"] (spMade K) := by
  refine F.ok scMade (fun vs H Q E h => ?_) (fun cdv A outer s H vs Q E hr h => ?_)
  · obtain ⟨P0, qs, hss, tss, ww, dd, rfl, _⟩ := h
    rfl
  · obtain ⟨P0, qs, hss, tss, ww, dd, rfl, hP, g, d4, q⟩ := h
    refine ⟨_, (pss_cons (ps_set (i := 1) scMade.nd rfl (.inr rfl) (pe_callB call_len_seq (by rfl) B.len_ PySem.boot_len (pa_cons (pe_ix ix_list (pe_ix ix_list (pv 0) pe_int (fun _ _ => rfl)) pe_int (fun _ _ => rfl)) pa_nil)))
      (pss_cons (ps_set (i := 2) scMade.nd rfl (.inr rfl) (pe_lc (own := [("_law_deed", 3)]) (g := gName 3) (tt := tYes) (te := (tOp rRep (tLst (tCons (tTup (tCons (tC (.int 1)) (tCons (tC (.int 2)) tNil))) tNil)) (tVar 1))) rfl scMade.nd (pi_range1 (by rfl) B.range_ (pa_cons (pv 1) pa_nil)) (blkOk_by (N := ["_law_parts_here", "_law_deeds", "_law_instead", "_law_deed", "_law_worlds", "_law_world", "_law_due", "_law_one"]) (sc := defScope sMade) (by decide +kernel)) (fun _ _ _ _ _ => (pg_name (i := 3) scMade.nd rfl (Or.inl rfl))) (fun _ _ _ _ _ => pts_nil) (fun _ _ _ _ _ => (pe_op op_rep (pe_lst (pa_cons (pe_tup (pa_cons pe_int (pa_cons pe_int pa_nil))) pa_nil)) (pv 1)))))
      (pss_cons (ps_for PassesOwn.never rfl (pi_range1 (by rfl) B.range_ (pa_cons (pv 1) pa_nil)) (pg_name (i := 3) scMade.nd rfl (.inl rfl)) (pss_one (ps_asg (pe_tup (pa_cons pe_int (pa_cons pe_int pa_nil))) (pg_sub (pe_ix ix_list (pv 2) (pv 3) (fun _ _ => rfl)) (pv 3) set_list))))
      (pss_cons (ps_set (i := 4) scMade.nd rfl (.inl rfl) (pe_lst pa_nil))
      (pss_cons (ps_for PassesOwn.never rfl (pi_range1 (by rfl) B.range_ (pa_cons (pe_callB call_len_seq (by rfl) B.len_ PySem.boot_len (pa_cons (pe_ix ix_list (pv 0) pe_int (fun _ _ => rfl)) pa_nil)) pa_nil)) (pg_name (i := 5) scMade.nd rfl (.inr rfl)) (pss_cons (ps_setLc (i := 6) (own := [("_law_deed", 3)]) (g := gName 3) (tt := tYes) (te := (tCall (spDueP K) [] E0 (tCons (tVar 0) (tCons (tVar 5) (tCons (tVar 3) (tCons (tVar 2) tNil)))))) rfl scMade.nd rfl rfl (sw_true rfl rfl rfl (by decide +kernel)) (pi_range1 (by rfl) B.range_ (pa_cons (pv 1) pa_nil)) (blkOk_by (N := ["_law_parts_here", "_law_deeds", "_law_instead", "_law_deed", "_law_worlds", "_law_world", "_law_due", "_law_one"]) (sc := defScope sMade) (by decide +kernel)) (fun _ _ _ _ _ => (pg_name (i := 3) scMade.nd rfl (Or.inl rfl))) (fun _ _ _ _ _ => pts_nil) (fun _ _ _ _ _ => (pe_call GD hr (by rfl) gD kD bD .nil pass0 (pa_cons (pv 0) (pa_cons (pv 5) (pa_cons (pv 3) (pa_cons (pv 2) pa_nil)))))))
      (pss_cons (ps_expr (pe_bm PySem.F.plainAttrs_list PySem.F.slot_list_append PySem.F.type_list_append mt_append (pv 4) (pa_cons (pe_ix ix_list (pv 6) pe_int (fun _ _ => rfl)) pa_nil)))
      (pss_one (ps_for PassesOwn.never rfl (pi_list (pv 6)) (pg_name (i := 7) scMade.nd rfl (.inl rfl)) (pss_one (ps_if (pt_val (pe_call GU hr (by rfl) gU kU bU .nil pass0 (pa_cons (pe_ix ix_list (pv 4) (pe_un un_neg pe_int) (fun _ _ => rfl)) (pa_cons (pv 7) pa_nil)))) (pss_one (ps_asg (pv 7) (pg_sub (pv 4) (pe_un un_neg pe_int) set_list))) pss_nil)))))))
      (pss_one (ps_ret (pe_tup (pa_cons (pv 4) (pa_cons (pv 2) pa_nil)))))))))), ?_⟩
    obtain ⟨A0, B0, C0, cs0, rh, rt, e1, e2, e3, e4, e5⟩ := id hP
    have w1 := g.w1
    have w5 := g.w5
    have d1 := g.d1
    have hh1 : 0 < rh.length := by rw [e4.2.1, g.hl]; omega
    obtain ⟨ch, qh, t1, t2, t3⟩ := e4.2.2 0 rh[0] (List.getElem?_eq_getElem hh1)
    have hqh : ch.length = dd := by rw [t3.len, g.hr qh (List.mem_of_getElem? t1)]
    have gB : (rh.map V.ref)[0]? = some (.ref rh[0]) := by rw [List.getElem?_map, List.getElem?_eq_getElem hh1]; rfl
    refine ⟨_, rfl, P0, _, 1, .ref B0, rfl, rfl, SqL.of ((Same.refl H) _ _ e1), atI_nat (j := 1) rfl, B0, _, 0, .ref rh[0], rfl, rfl, SqL.of e4.1, atI_nat (j := 0) gB, rh[0], ch, rfl, .inl (SqL.of t2), ?_⟩
    rw [hqh]
    refine ⟨_, rfl, (dd : Int), rfl, by omega, by omega, fun I hI0 => lc_range (lo := 0) (n := (dd : Int).toNat) (fun j H' => ∃ ri, New K H H' I I ri (List.replicate j (List.replicate dd half)) 2) ⟨[], New.start hI0⟩ ?_ ?_⟩
    · rintro j H1 hj ⟨ri, N⟩
      refine ⟨rfl, tYes_of ?_⟩
      refine ⟨(by show 2 ≤ sizeLine; decide), fun t nt => ?_⟩
      have s2 := same_new nt (.tup [V.int 1, V.int 2])
      refine ⟨(by show 1 ≤ sizeLine; decide), fun l0 nl0 => ?_⟩
      have s3 := same_new nl0 (.lst [V.ref t])
      have tz : SqT K (upd (upd H1 t (.tup [V.int 1, V.int 2])) l0 (.lst [V.ref t])) t (rp half) := seqT s3 (SqT.of upd_same)
      have h0 : (upd (upd H1 t (.tup [V.int 1, V.int 2])) l0 (.lst [V.ref t])) l0 = some (.lst [V.ref t]) := upd_same
      have s13 := s2.trans s3
      generalize upd (upd H1 t (.tup [V.int 1, V.int 2])) l0 (.lst [V.ref t]) = H3 at tz h0 s13 ⊢
      refine ⟨_, rfl, l0, (dd : Int), [V.ref t], rfl, rfl, h0, by omega, by omega, ?_, fun R nR => ?_⟩
      · rw [List.length_singleton, Nat.one_mul]
        exact Nat.le_of_lt (small1000 (by omega))
      have er : (List.replicate ((dd : Int)).toNat [V.ref t]).flatten = List.replicate dd (V.ref t) := by rw [Int.toNat_natCast, rep_flat']
      rw [er]
      have s4 := same_new nR (.lst (List.replicate dd (V.ref t)))
      have s14 := s13.trans s4
      have hR : (upd H3 R (.lst (List.replicate dd (V.ref t)))) R = some (.lst (List.replicate dd (V.ref t))) := upd_same
      have tz4 := seqT s4 tz
      generalize upd H3 R (.lst (List.replicate dd (V.ref t))) = H4 at s4 s14 hR tz4 ⊢
      have nR1 : H1 R = none := s13.free nR
      have N2 := N.stepS s14
      have hRF : R ≠ I := fun e => by
        rw [e, N.at_] at nR1
        cases nR1
      refine ⟨_, N2.at_, ?_, ri ++ [R], ?_⟩
      · rw [List.length_map, N.rows.1, List.length_replicate]
        exact small1000 (by omega)
      · rw [List.replicate_succ']
        exact New.push N N2 nR1 hR (frn_repq ⟨by decide, by decide⟩ tz4) hRF
    rintro H1 ⟨ri, N1⟩
    rw [Int.toNat_natCast] at N1
    refine ⟨_, rfl, (dd : Int), rfl, by omega, by omega, for_range (lo := 0) (n := (dd : Int).toNat) (fun i σ H' => ∃ (y3 : Option V) (iss : List (List Rat)), σ = [some (.ref P0), some (.int (dd : Int)), some (.ref I), y3, none, none, none, none] ∧ New K H H' I I ri iss 2 ∧ iss.length = dd ∧ ∀ x ∈ iss, x.length = dd) ⟨none, _, rfl, N1, List.length_replicate, fun x hx => by rw [List.eq_of_mem_replicate hx, List.length_replicate]⟩ ?_ ?_⟩
    · rintro i σ H2 hi ⟨y3, iss, rfl, N, li, lr⟩
      rw [show (0 + (i : Int)) = (i : Int) from Int.zero_add _]
      have hid : i < dd := by omega
      have hir : i < ri.length := by rw [N.rows.1, li]; omega
      obtain ⟨ci, qi, v1, v2, v3⟩ := N.rows.2 i ri[i] (List.getElem?_eq_getElem hir)
      have lqi : qi.length = dd := lr qi (List.mem_of_getElem? v1)
      have gI : (ri.map V.ref)[i]? = some (.ref ri[i]) := by rw [List.getElem?_map, List.getElem?_eq_getElem hir]; rfl
      refine ⟨(by show 2 ≤ sizeLine; decide), fun z nz => ?_⟩
      have s3 := same_new nz (.tup [V.int 0, V.int 1])
      have dz : SqT K (upd H2 z (.tup [V.int 0, V.int 1])) z (rp 0) := SqT.of upd_same
      have N3 := N.stepS s3
      have v23 := s3 _ _ v2
      have v33 := v3.same s3
      generalize upd H2 z (.tup [V.int 0, V.int 1]) = H3 at dz N3 v23 v33 ⊢
      refine ⟨_, rfl, _, rfl, I, _, _, .ref ri[i], rfl, rfl, SqL.of N3.at_, atI_nat (j := i) gI, _, rfl, ri[i], ci, (i : Int), i, rfl, rfl, v23, ?_, ?_⟩
      · unfold ixN
        rw [if_pos (by omega), if_pos (by rw [v3.len]; omega)]
        rfl
      · refine ⟨_, iss.set i (qi.set i 0), rfl, New.setRow N3 (List.getElem?_eq_getElem hir) v23 (FrN.set v33 dz ⟨by decide, by decide⟩), by rw [List.length_set]; exact li, fun x hx => ?_⟩
        rcases List.mem_or_eq_of_mem_set hx with hx | rfl
        · exact lr x hx
        · rw [List.length_set]
          exact lqi
    rintro σ H2 ⟨y3, iss, rfl, N, li, lr⟩
    have fr := N.toFresh
    have s02 := fr.2.2.2.2.2
    have hI2 : InsT K H2 I ri iss dd := ⟨fr.1, li, lr⟩
    refine ⟨(by show 0 ≤ sizeLine; decide), fun W nW => ?_⟩
    have sW := same_new nW (.lst [])
    have hW0 : (upd H2 W (.lst [])) W = some (.lst []) := upd_same
    have nW0 : H W = none := s02.free nW
    have hWI : W ≠ I := fun e => by
      rw [e, fr.1.1] at nW
      cases nW
    have hWr : W ∉ ri := fun e => by
      obtain ⟨j, hj, ej⟩ := List.getElem_of_mem e
      obtain ⟨c, _, _, x2, _⟩ := fr.1.2.2 j W (by rw [List.getElem?_eq_getElem hj, ej])
      rw [x2] at nW
      cases nW
    have hP2 : Lw.PartsAt K H2 P0 qs hss tss := hP.same s02
    generalize upd H2 W (.lst []) = H3 at sW hW0 ⊢
    refine ⟨_, rfl, P0, _, 0, .ref A0, rfl, rfl, SqL.of ((s02.trans sW) _ _ e1), atI_nat (j := 0) rfl, A0, cs0, rfl, .inl (SqL.of ((s02.trans sW) _ _ e2)), (cs0.length : Int), rfl, ?_⟩
    have hcs : cs0.length = ww := by rw [e3.len, g.sh.1]
    rw [hcs]
    refine ⟨by omega, by omega, for_range (lo := 0) (n := (ww : Int).toNat) (fun i σ H' => ∃ (y3 y5 y6 y7 : Option V) (cs : List V) (ps : List Rat), σ = [some (.ref P0), some (.int (dd : Int)), some (.ref I), y3, some (.ref W), y5, y6, y7] ∧ Same H2 H' ∧ H' W = some (.lst cs) ∧ FrN K H' 100 cs ps ∧ ps.length = i) ⟨_, _, _, _, [], [], rfl, sW, hW0, FrN.nil, rfl⟩ ?_ ?_⟩
    · rintro i σ H4 hi ⟨y3, y5, y6, y7, cs, ps, rfl, s4, hW4, f4, lp⟩
      have hiw : i < ww := by omega
      rw [show (0 + (i : Int)) = (i : Int) from Int.zero_add _]
      refine ⟨_, rfl, (dd : Int), rfl, by omega, by omega, fun L nL => lc_range (lo := 0) (n := (dd : Int).toNat) (fun j H' => ∃ acc us, H' L = some (.lst acc) ∧ Same H4 H' ∧ FrN K H' 100 acc us ∧ us.length = j) ⟨[], [], upd_same, same_new nL _, FrN.nil, rfl⟩ ?_ ?_⟩
      · rintro j H5 hj ⟨acc, us, hacc, s5, f5, lu⟩
        have hjd : j < dd := by omega
        refine ⟨rfl, tYes_of ?_⟩
        refine ⟨_, rfl, _, rfl, _, rfl, _, rfl, P0, I, i, j, qs, hss, tss, iss, ri, ww, dd, (by rw [Int.zero_add]; rfl), hP2.same (s4.trans s5), g, hI2.same (s4.trans s5), d4, hiw, hjd, fun p r H6 s6 hp bp => ?_⟩
        have hacc6 := s6 _ _ hacc
        refine ⟨acc, hacc6, ?_, acc ++ [.ref p], us ++ [r], upd_same, fun b u e => ?_, ((f5.same s6).snoc hp bp).keep (keep_lst hacc6), by rw [List.length_append, lu]; rfl⟩
        · rw [f5.len, lu]
          exact small1000 (by omega)
        · rw [upd_ne (ne_of_none e nL)]
          exact s6 _ _ (s5 _ _ e)
      rintro H5 ⟨acc, us, hacc, s5, f5, lu⟩
      rw [Int.toNat_natCast] at lu
      have hLW : L ≠ W := fun e => by
        rw [e, hW4] at nL
        cases nL
      have hu0 : 0 < us.length := by omega
      obtain ⟨p0, c1, c2, c3⟩ := frn_get f5 (List.getElem?_eq_getElem hu0)
      have hW5 := s5 _ _ hW4
      refine ⟨_, rfl, .inl ⟨rfl, _, SqL.of hW5⟩, _, rfl, L, _, 0, .ref p0, rfl, rfl, SqL.of hacc, atI_nat (j := 0) c1, W, cs, _, rfl, rfl, hW5, ?_, ?_⟩
      · rw [f4.len, lp]
        exact small1000 (by omega)
      have kt : ∀ a xs, SqT K H5 a xs → SqT K (upd H5 W (.lst (cs ++ [V.ref p0]))) a xs := keep_lst hW5
      have s25 := s4.trans s5
      have k25 : ∀ (H' : Hp), (∀ b u, b ≠ W → H5 b = some u → H' b = some u) → Same H2 H' := fun H' k b u e => k b u (ne_of_none e nW) (s25 _ _ e)
      have ul : cs.length = ps.length := f4.len
      refine ⟨_, rfl, L, rfl, ⟨_, SqL.of (by rw [upd_ne hLW]; exact hacc)⟩, for_list (K := K) (a := L) (xs := acc) (fun j σ H' => ∃ (y7 : Option V) (p : Addr) (r : Rat), σ = [some (.ref P0), some (.int (dd : Int)), some (.ref I), y3, some (.ref W), some (.int (i : Int)), some (.ref L), y7] ∧ (∀ b u, b ≠ W → H5 b = some u → H' b = some u) ∧ H' W = some (.lst (cs ++ [.ref p])) ∧ SqT K H' p (rp r) ∧ Bd 100 r ∧ FrN K H' 100 cs ps ∧ FrN K H' 100 acc us)
        ⟨_, p0, _, rfl, fun b u hb e => by rw [upd_ne hb]; exact e, upd_same, kt _ _ c2, c3, (f4.same s5).keep kt, f5.keep kt⟩ (fun j σ H' _ ⟨_, _, _, _, k, _⟩ => SqL.of (k _ _ hLW hacc)) ?_ ?_⟩
      · rintro j v σ H6 hj ⟨y7, p, r, rfl, k6, hW6, tp, bp, f6, g6⟩
        obtain ⟨pu, qu, x1, rfl, x3, x4⟩ := g6.at_ j v hj
        have ea : atI (cs ++ [V.ref p]) (-1) = some (V.ref p) := by
          unfold atI ixN
          rw [if_neg (by decide), if_pos (by rw [List.length_append, List.length_singleton]; omega)]
          show (cs ++ [V.ref p])[(-1 + ((cs ++ [V.ref p]).length : Int)).toNat]? = _
          rw [show (-1 + ((cs ++ [V.ref p]).length : Int)).toNat = cs.length by rw [List.length_append, List.length_singleton]; omega, List.getElem?_append_right (Nat.le_refl _), Nat.sub_self]
          rfl
        refine ⟨_, rfl, 1, rfl, W, _, -1, .ref p, rfl, rfl, SqL.of hW6, ea, _, rfl, p, pu, r, qu, 100, 100, rfl, tp, x3, bp, x4, by decide, _, rfl, ?_⟩
        cases decide (r.num * qu.den < qu.num * r.den) with
        | false => exact iteF ⟨_, p, r, rfl, k6, hW6, tp, bp, f6, g6⟩
        | true =>
          refine iteT ?_
          have kt6 : ∀ a xs, SqT K H6 a xs → SqT K (upd H6 W (.lst (cs ++ [V.ref pu]))) a xs := keep_lst hW6
          refine ⟨_, rfl, _, rfl, 1, rfl, W, _, -1, cs.length, rfl, rfl, hW6, ?_, ?_⟩
          · unfold ixN
            rw [if_neg (by decide), if_pos (by rw [List.length_append, List.length_singleton]; omega)]
            congr 1
            rw [List.length_append, List.length_singleton]
            omega
          · have es : (cs ++ [V.ref p]).set cs.length (V.ref pu) = cs ++ [V.ref pu] := by rw [List.set_append_right _ _ (Nat.le_refl _), Nat.sub_self]; rfl
            rw [es]
            exact ⟨_, pu, qu, rfl, fun b u hb e => by rw [upd_ne hb]; exact k6 b u hb e, upd_same, kt6 _ _ x3, x4, f6.keep kt6, g6.keep kt6⟩
      · rintro σ H6 ⟨y7, p, r, rfl, k6, hW6, tp, bp, f6, g6⟩
        exact ⟨_, _, _, _, cs ++ [.ref p], ps ++ [r], rfl, k25 H6 k6, hW6, f6.snoc tp bp, by rw [List.length_append, lp]; rfl⟩
    · rintro σ H4 ⟨y3, y5, y6, y7, cs, ps, rfl, s4, hW4, f4, lp⟩
      rw [Int.toNat_natCast] at lp
      refine ⟨_, rfl, _, rfl, (by show 2 ≤ sizeLine; decide), fun Pr nPr => ?_⟩
      have s5 := same_new nPr (.tup [V.ref W, V.ref I])
      exact q Pr W I cs ps ri iss _ ((s02.trans s4).trans s5) nW0 fr.2.2.2.1 hWI fr.2.2.2.2.1 hWr fr.2.2.1 (SqT.of upd_same) (s5 _ _ hW4) (f4.same s5) lp ((hI2.same s4).same s5)
end
end K35

set_option Elab.async false
set_option linter.all false
set_option maxRecDepth 100000
set_option maxHeartbeats 16000000
namespace K35
open PySem PySem.Spec PyProof.Rows L2 BX EXB Co Ru
open Dz Cs Hr
open Rs (Rsp Rv Ret tYes_of dV datR Flat Okr spShares spRowsL spTotal spCopied eqv_dR)
open Fr (Bd)
theorem cut_last (cs : List V) : cutV cs none (some (-1)) = cs.dropLast := by
  unfold cutV
  have e0 : HT.sIx cs.length 0 none = 0 := rfl
  have e1 : HT.sIx cs.length cs.length (some (-1)) = cs.length - 1 := by
    unfold HT.sIx
    simp
    omega
  rw [e0, e1, List.drop_zero, Nat.sub_zero, List.dropLast_eq_take]
theorem cut_tail {x : V} {xs : List V} : cutV (x :: xs) (some 1) none = xs := by
  unfold cutV
  have e : HT.sIx (x :: xs).length 0 (some 1) = 1 := by
    rw [show (some (1 : Int)) = some ((1 : Nat) : Int) from rfl, HT.sIx_nat, List.length_cons]
    omega
  rw [e, HT.sIx_none]
  show xs.take ((x :: xs).length - 1) = xs
  rw [List.length_cons]
  exact List.take_of_length_le (by omega)
/-- a thing that is no shares for ww worlds -/
structure OddD (K : PySem.W.Frag) (H : Hp) (l : Addr) (ww : Nat) (v : V) (d : PyData) : Prop where
  dz : Dz.Dz K H (fun a => a = l) v d
  nn : v ≠ .non
  fw : Few 20 (itemsD d)
  bad : shRowZ d (ww : Int) (ww : Int) = false
theorem OddD.same {K : PySem.W.Frag} {H H' : Hp} {l : Addr} {ww : Nat} {v : V} {d : PyData} (h : OddD K H l ww v d) (s : Same H H') : OddD K H' l ww v d := ⟨h.dz.same s, h.nn, h.fw, h.bad⟩
theorem few_nil {n : Nat} : Few n [] := fun d hd => by cases hd
theorem few_app {n : Nat} {xs ys : List PyData} (h : Few n xs) (g : Few n ys) : Few n (xs ++ ys) := fun d hd => by
  rcases List.mem_append.mp hd with hd | hd
  · exact h d hd
  · exact g d hd
theorem few_none {n : Nat} {d : PyData} (h : ratD d = none) : Few n [d] := fun e he q eq => by
  rw [List.mem_singleton.mp he, h] at eq
  cases eq
theorem shRow_len {ds : List PyData} {ww : Nat} (h : ds.length ≠ ww) : shRowZ (.list ds) (ww : Int) (ww : Int) = false := by
  unfold shRowZ
  cases e : lenOk (lenD (.list ds)) (ww : Int) (ww : Int) with
  | false => rfl
  | true =>
    have := lenOk_iff.mp e
    omega
theorem shRow_mem {ds : List PyData} {ww : Nat} {e : PyData} (h : e ∈ ds) (he : shD e = false) : shRowZ (.list ds) (ww : Int) (ww : Int) = false := by
  have : ds.all shD = false := by
    cases c : ds.all shD with
    | false => rfl
    | true => rw [List.all_eq_true.mp c e h] at he; cases he
  show (_ && (ds.all shD && _)) = false
  rw [this, Bool.false_and, Bool.and_false]
theorem shRow_sum {qs : List Rat} {ww : Nat} (h : qs.sum ≠ 1) : shRowZ (.list (qs.map dR)) (ww : Int) (ww : Int) = false := by
  show (_ && (_ && decide (sumD (qs.map dR) = 1))) = false
  rw [sumD_dR, decide_eq_false h, Bool.and_false, Bool.and_false]
theorem drop_sum {qs : List Rat} {q : Rat} (h : qs.getLast? = some q) : (qs.dropLast).sum + q = qs.sum := by
  have e : qs = qs.dropLast ++ [q] := by
    obtain ⟨ys, hy⟩ := List.getLast?_eq_some_iff.mp h
    rw [hy, List.dropLast_concat]
  rw [e, List.dropLast_concat, List.sum_append, List.sum_singleton]
def ninth : Rat := ⟨1, 9, by decide, by decide⟩
def spOdd (K : PySem.W.Frag) : Sp := fun vs H Q _ => ∃ (l g0 : Addr) (z : Int) (cs : List V) (ss : List Rat) (ww : Nat), vs = [.ref l, .ref g0] ∧ H l = some (.lst [.int z]) ∧ H g0 = some (.lst cs) ∧ FrN K H 8 cs ss ∧ RowOk ww ss ∧ 1 ≤ ww ∧ ww ≤ 5 ∧
  ∀ v d z' H', SameB l H H' → H' l = some (.lst [.int z']) → OddD K H' l ww v d → Q v H'
def spRefused (K : PySem.W.Frag) (C : Addr) : Sp := fun vs H Q _ => ∃ (l x Pr : Addr) (v : V) (d : PyData) (qs : List Rat) (hss tss : List (List Rat)) (ps : List Rat) (ww dd : Nat), vs = [.ref x, .ref Pr, v] ∧ IsCase K H C x qs hss tss 8 ∧ GoodC qs hss tss ww dd ∧ PrT K H Pr ps ww ∧ OddD K H l ww v d ∧ ∀ H', Same H H' → Q (.bl true) H'
section
variable {P : Program} {w : World} {K : PySem.W.Frag} {mg : Str → Option Value} {base : Heap}
theorem scOdd : FnScope ["_law_left_here", "_law_good", "_law_some"] ["_law_left_here", "_law_good"] (defScope sOdd) := ⟨rfl, rfl, rfl, by decide +kernel, rfl, by decide +kernel, by decide +kernel⟩
theorem ok_Odd {f fM fD : Addr} {fd fdM fdD : FuncData} {k : Nat} (F : Fun K "_law_odd" "_law_odd" sOdd f fd) (GM : FnOk P w K mg base CX0 k fM fdM ["_law_one", "_law_other"] (spBin K (· - ·))) (kM : PySem.W.keepIn K (.ref fM) = true) (bM : Binds K fdM ["_law_one", "_law_other"] []) (gM : mg "_law_less" = some (.ref fM)) (GD : FnOk P w K mg base CX0 k fD fdD ["_law_left_here", "_law_many"] spDigit) (kD : PySem.W.keepIn K (.ref fD) = true) (bD : Binds K fdD ["_law_left_here", "_law_many"] []) (gD : mg "_law_digit" = some (.ref fD)) (B : Blt mg) : FnOk P w K mg base CX0 (k + 1) f fd ["_law_left_here", "_law_good"] (spOdd K) := by
  refine F.ok scOdd (fun vs H Q E h => ?_) (fun cdv A outer s H vs Q E hr h => ?_)
  · obtain ⟨l, g0, z, cs, ss, ww, rfl, _⟩ := h
    rfl
  · obtain ⟨l, g0, z, cs, ss, ww, rfl, hl, hg, hf, hro, w1, w5, q⟩ := h
    refine ⟨_, (pss_cons (ps_set (i := 2) scOdd.nd rfl (.inl rfl) (pe_lst (pa_cons (pe_tup pa_nil) (pa_cons pe_dnewK (pa_cons pe_int (pa_cons pe_str (pa_cons (pe_callTy (T := "tuple") call_tuple_of (by rfl) B.tuple_ (by decide +kernel) (pa_cons (pv 1) pa_nil)) (pa_cons (pe_slice sl_list (pv 1) (po_some pe_int) po_none) (pa_cons (pe_op op_cat (pv 1) (pe_lst (pa_cons (pe_tup (pa_cons pe_int (pa_cons pe_int pa_nil))) pa_nil))) (pa_cons (pe_op op_cat (pe_slice sl_list (pv 1) po_none (po_some (pe_un un_neg pe_int))) (pe_lst (pa_cons pe_non pa_nil))) (pa_cons (pe_op op_cat (pe_slice sl_list (pv 1) po_none (po_some (pe_un un_neg pe_int))) (pe_lst (pa_cons (pe_tup (pa_cons pe_int (pa_cons pe_int pa_nil))) pa_nil))) pa_nil)))))))))))
      (pss_cons (ps_set (i := 2) scOdd.nd rfl (.inl rfl) (pe_op op_cat (pv 2) (pe_lst (pa_cons (pe_op op_cat (pe_slice sl_list (pv 1) po_none (po_some (pe_un un_neg pe_int))) (pe_lst (pa_cons (pe_call GM hr (by rfl) gM kM bM .nil pass0 (pa_cons (pe_ix ix_list (pv 1) (pe_un un_neg pe_int) (fun _ _ => rfl)) (pa_cons (pe_tup (pa_cons pe_int (pa_cons pe_int pa_nil))) pa_nil))) pa_nil))) (pa_cons (pe_op op_cat (pe_slice sl_list (pv 1) po_none (po_some (pe_un un_neg pe_int))) (pe_lst (pa_cons (pe_tup (pa_cons pe_int (pa_cons pe_int pa_nil))) (pa_cons (pe_tup (pa_cons (pe_un un_neg pe_int) (pa_cons pe_int pa_nil))) pa_nil)))) pa_nil)))))
      (pss_one (ps_ret (pe_ix ix_list (pv 2) (pe_call GD hr (by rfl) gD kD bD .nil pass0 (pa_cons (pv 0) (pa_cons pe_int pa_nil))) (fun _ _ => rfl)))))), ?_⟩
    have lc : cs.length = ww := by rw [hf.len, hro.1]
    have hne : ss ≠ [] := fun e => by have := hro.1; rw [e] at this; simp at this; omega
    obtain ⟨lastq, hlast⟩ : ∃ q, ss.getLast? = some q := by cases e : ss.getLast? with | none => exact absurd (List.getLast?_eq_none_iff.mp e) hne | some q => exact ⟨q, rfl⟩
    have hD : DzA K H (fun a => a = l) cs.dropLast (ss.dropLast.map dR) := by
      have := (frn_dz (ex := (fun a => a = l)) hf).take (cs.length - 1)
      rw [← List.dropLast_eq_take] at this
      rw [hf.len, ← List.map_take, ← List.dropLast_eq_take] at this
      exact this
    have fD : Few 20 (ss.dropLast.map dR) := few_dR fun q hq => (frn_bd hf q (List.dropLast_subset _ hq)).mono (by decide)
    have lD : cs.dropLast.length = ww - 1 := by rw [List.length_dropLast, lc]
    have lS : ss.dropLast.length = ww - 1 := by rw [List.length_dropLast, hro.1]
    have sl : ∀ n : Nat, n ≤ 10 → n ≤ sizeLine := fun n h => Nat.le_of_lt (small1000 (by omega))
    refine ⟨sl 0 (by decide), fun a0 ka0 => ?_⟩
    have s1 := same_new ka0 (.tup [])
    have la0 : a0 ≠ l := fun e => by rw [e, hl] at ka0; cases ka0
    have O0 : OddD K (upd H a0 (.tup [])) l ww (.ref a0) (.tuple []) := ⟨.tup (SqT.of upd_same) .nil, (fun e => by cases e), few_nil, rfl⟩
    have hl := s1 _ _ hl
    have hg := s1 _ _ hg
    have hf := hf.same s1
    have hD := hD.same s1
    generalize upd H a0 (.tup []) = H1 at s1 hl hg hf hD O0 ⊢
    have t1 := s1
    refine fun a1 ka1 => ?_
    have s2 := same_new ka1 (.dK [])
    have la1 : a1 ≠ l := fun e => by rw [e, hl] at ka1; cases ka1
    have O1 : OddD K (upd H1 a1 (.dK [])) l ww (.ref a1) (.dict []) := ⟨.dct upd_same la1, (fun e => by cases e), few_nil, rfl⟩
    have hl := s2 _ _ hl
    have hg := s2 _ _ hg
    have hf := hf.same s2
    have hD := hD.same s2
    have O0 := O0.same s2
    generalize upd H1 a1 (.dK []) = H2 at s2 hl hg hf hD O0 O1 ⊢
    have t2 := t1.trans s2
    refine ⟨_, rfl, g0, cs, rfl, .inl ⟨SqL.of hg, fun a4 ka4 => ?_⟩⟩
    have s3 := same_new ka4 (.tup cs)
    have la4 : a4 ≠ l := fun e => by rw [e, hl] at ka4; cases ka4
    have O4 : OddD K (upd H2 a4 (.tup cs)) l ww (.ref a4) (.tuple (ss.map dR)) := ⟨.tup (SqT.of upd_same) (frn_dz (hf.same s3)), (fun e => by cases e), few_nil, rfl⟩
    have hl := s3 _ _ hl
    have hg := s3 _ _ hg
    have hf := hf.same s3
    have hD := hD.same s3
    have O0 := O0.same s3
    have O1 := O1.same s3
    generalize upd H2 a4 (.tup cs) = H3 at s3 hl hg hf hD O0 O1 O4 ⊢
    have t3 := t2.trans s3
    refine ⟨_, rfl, 1, rfl, g0, cs, rfl, SqL.of hg, fun a5 ka5 => ?_⟩
    have ec : cutV cs (some 1) none = cs.drop 1 := by
      cases cs with
      | nil => simp at lc; omega
      | cons x xs => rw [cut_tail]; rfl
    rw [ec]
    have s4 := same_new ka5 (.lst (cs.drop 1))
    have la5 : a5 ≠ l := fun e => by rw [e, hl] at ka5; cases ka5
    have O5 : OddD K (upd H3 a5 (.lst (cs.drop 1))) l ww (.ref a5) (.list ((ss.map dR).drop 1)) := ⟨.lst upd_same la5 ((frn_dz (hf.same s4)).drop 1), (fun e => by cases e), (fun e he q eq => (few_dR (frn_bd hf) e (List.mem_of_mem_drop he) q eq).mono (by decide)), shRow_len (by rw [List.length_drop, List.length_map, hro.1]; omega)⟩
    have hl := s4 _ _ hl
    have hg := s4 _ _ hg
    have hf := hf.same s4
    have hD := hD.same s4
    have O0 := O0.same s4
    have O1 := O1.same s4
    have O4 := O4.same s4
    generalize upd H3 a5 (.lst (cs.drop 1)) = H4 at s4 hl hg hf hD O0 O1 O4 O5 ⊢
    have t4 := t3.trans s4
    refine ⟨_, rfl, sl 2 (by decide), fun b6 kb6 => ?_⟩
    have s5 := same_new kb6 (.tup [V.int 0, V.int 1])
    have lb6 : b6 ≠ l := fun e => by rw [e, hl] at kb6; cases kb6
    have q6 : SqT K (upd H4 b6 (.tup [V.int 0, V.int 1])) b6 (rp 0) := SqT.of upd_same
    have hl := s5 _ _ hl
    have hg := s5 _ _ hg
    have hf := hf.same s5
    have hD := hD.same s5
    have O0 := O0.same s5
    have O1 := O1.same s5
    have O4 := O4.same s5
    have O5 := O5.same s5
    generalize upd H4 b6 (.tup [V.int 0, V.int 1]) = H5 at s5 hl hg hf hD O0 O1 O4 O5 q6 ⊢
    have t5 := t4.trans s5
    refine ⟨sl 1 (by decide), fun c6 kc6 => ?_⟩
    have s6 := same_new kc6 (.lst [V.ref b6])
    have lc6 : c6 ≠ l := fun e => by rw [e, hl] at kc6; cases kc6
    have m6 : (upd H5 c6 (.lst [V.ref b6])) c6 = some (.lst [V.ref b6]) := upd_same
    have hl := s6 _ _ hl
    have hg := s6 _ _ hg
    have hf := hf.same s6
    have hD := hD.same s6
    have O0 := O0.same s6
    have O1 := O1.same s6
    have O4 := O4.same s6
    have O5 := O5.same s6
    have q6 := seqT s6 q6
    generalize upd H5 c6 (.lst [V.ref b6]) = H6 at s6 hl hg hf hD O0 O1 O4 O5 q6 m6 ⊢
    have t6 := t5.trans s6
    refine ⟨g0, c6, cs, _, rfl, rfl, hg, m6, (by rw [lc]; exact sl _ (by show ww + 1 ≤ 10; omega)), fun a6 ka6 => ?_⟩
    have s7 := same_new ka6 (.lst (cs ++ [V.ref b6]))
    have la6 : a6 ≠ l := fun e => by rw [e, hl] at ka6; cases ka6
    have O6 : OddD K (upd H6 a6 (.lst (cs ++ [V.ref b6]))) l ww (.ref a6) (.list (ss.map dR ++ [dR 0])) := ⟨.lst upd_same la6 ((frn_dz (hf.same s7)).app (.cons (dz_dR (seqT s7 q6)) .nil)), (fun e => by cases e), few_app (few_dR fun q hq => (frn_bd hf q hq).mono (by decide)) (few_dR (qs := [0]) fun q hq => by rw [List.mem_singleton.mp hq]; exact ⟨by decide, by decide⟩), shRow_len (by rw [List.length_append, List.length_map, hro.1]; show ww + 1 ≠ ww; omega)⟩
    have hl := s7 _ _ hl
    have hg := s7 _ _ hg
    have hf := hf.same s7
    have hD := hD.same s7
    have O0 := O0.same s7
    have O1 := O1.same s7
    have O4 := O4.same s7
    have O5 := O5.same s7
    have q6 := seqT s7 q6
    have m6 := s7 _ _ m6
    generalize upd H6 a6 (.lst (cs ++ [V.ref b6])) = H7 at s7 hl hg hf hD O0 O1 O4 O5 q6 m6 O6 ⊢
    have t7 := t6.trans s7
    refine ⟨_, rfl, 1, rfl, -1, rfl, g0, cs, rfl, SqL.of hg, fun e7 ke7 => ?_⟩
    rw [cut_last]
    have s8 := same_new ke7 (.lst cs.dropLast)
    have le7 : e7 ≠ l := fun e => by rw [e, hl] at ke7; cases ke7
    have n7 : (upd H7 e7 (.lst cs.dropLast)) e7 = some (.lst cs.dropLast) := upd_same
    have hl := s8 _ _ hl
    have hg := s8 _ _ hg
    have hf := hf.same s8
    have hD := hD.same s8
    have O0 := O0.same s8
    have O1 := O1.same s8
    have O4 := O4.same s8
    have O5 := O5.same s8
    have O6 := O6.same s8
    have q6 := seqT s8 q6
    have m6 := s8 _ _ m6
    generalize upd H7 e7 (.lst cs.dropLast) = H8 at s8 hl hg hf hD O0 O1 O4 O5 O6 q6 m6 n7 ⊢
    have t8 := t7.trans s8
    refine ⟨sl 1 (by decide), fun c7 kc7 => ?_⟩
    have s9 := same_new kc7 (.lst [V.non])
    have lc7 : c7 ≠ l := fun e => by rw [e, hl] at kc7; cases kc7
    have m7 : (upd H8 c7 (.lst [V.non])) c7 = some (.lst [V.non]) := upd_same
    have hl := s9 _ _ hl
    have hg := s9 _ _ hg
    have hf := hf.same s9
    have hD := hD.same s9
    have O0 := O0.same s9
    have O1 := O1.same s9
    have O4 := O4.same s9
    have O5 := O5.same s9
    have O6 := O6.same s9
    have q6 := seqT s9 q6
    have m6 := s9 _ _ m6
    have n7 := s9 _ _ n7
    generalize upd H8 c7 (.lst [V.non]) = H9 at s9 hl hg hf hD O0 O1 O4 O5 O6 q6 m6 n7 m7 ⊢
    have t9 := t8.trans s9
    refine ⟨e7, c7, _, _, rfl, rfl, n7, m7, (by rw [lD]; exact sl _ (by show ww - 1 + 1 ≤ 10; omega)), fun a7 ka7 => ?_⟩
    have s10 := same_new ka7 (.lst (cs.dropLast ++ [V.non]))
    have la7 : a7 ≠ l := fun e => by rw [e, hl] at ka7; cases ka7
    have O7 : OddD K (upd H9 a7 (.lst (cs.dropLast ++ [V.non]))) l ww (.ref a7) (.list (ss.dropLast.map dR ++ [.none])) := ⟨.lst upd_same la7 ((hD.same s10).app (.cons .non .nil)), (fun e => by cases e), few_app fD (few_none rfl), shRow_mem (e := .none) (List.mem_append_right _ (List.mem_singleton.mpr rfl)) rfl⟩
    have hl := s10 _ _ hl
    have hg := s10 _ _ hg
    have hf := hf.same s10
    have hD := hD.same s10
    have O0 := O0.same s10
    have O1 := O1.same s10
    have O4 := O4.same s10
    have O5 := O5.same s10
    have O6 := O6.same s10
    have q6 := seqT s10 q6
    have m6 := s10 _ _ m6
    have n7 := s10 _ _ n7
    have m7 := s10 _ _ m7
    generalize upd H9 a7 (.lst (cs.dropLast ++ [V.non])) = H10 at s10 hl hg hf hD O0 O1 O4 O5 O6 q6 m6 n7 m7 O7 ⊢
    have t10 := t9.trans s10
    refine ⟨_, rfl, 1, rfl, -1, rfl, g0, cs, rfl, SqL.of hg, fun e8 ke8 => ?_⟩
    rw [cut_last]
    have s11 := same_new ke8 (.lst cs.dropLast)
    have le8 : e8 ≠ l := fun e => by rw [e, hl] at ke8; cases ke8
    have n8 : (upd H10 e8 (.lst cs.dropLast)) e8 = some (.lst cs.dropLast) := upd_same
    have hl := s11 _ _ hl
    have hg := s11 _ _ hg
    have hf := hf.same s11
    have hD := hD.same s11
    have O0 := O0.same s11
    have O1 := O1.same s11
    have O4 := O4.same s11
    have O5 := O5.same s11
    have O6 := O6.same s11
    have O7 := O7.same s11
    have q6 := seqT s11 q6
    have m6 := s11 _ _ m6
    have n7 := s11 _ _ n7
    have m7 := s11 _ _ m7
    generalize upd H10 e8 (.lst cs.dropLast) = H11 at s11 hl hg hf hD O0 O1 O4 O5 O6 O7 q6 m6 n7 m7 n8 ⊢
    have t11 := t10.trans s11
    refine ⟨sl 2 (by decide), fun b8 kb8 => ?_⟩
    have s12 := same_new kb8 (.tup [V.int 2, V.int 2])
    have lb8 : b8 ≠ l := fun e => by rw [e, hl] at kb8; cases kb8
    have q8 : SqT K (upd H11 b8 (.tup [V.int 2, V.int 2])) b8 [V.int 2, V.int 2] := SqT.of upd_same
    have hl := s12 _ _ hl
    have hg := s12 _ _ hg
    have hf := hf.same s12
    have hD := hD.same s12
    have O0 := O0.same s12
    have O1 := O1.same s12
    have O4 := O4.same s12
    have O5 := O5.same s12
    have O6 := O6.same s12
    have O7 := O7.same s12
    have q6 := seqT s12 q6
    have m6 := s12 _ _ m6
    have n7 := s12 _ _ n7
    have m7 := s12 _ _ m7
    have n8 := s12 _ _ n8
    generalize upd H11 b8 (.tup [V.int 2, V.int 2]) = H12 at s12 hl hg hf hD O0 O1 O4 O5 O6 O7 q6 m6 n7 m7 n8 q8 ⊢
    have t12 := t11.trans s12
    refine ⟨sl 1 (by decide), fun c8 kc8 => ?_⟩
    have s13 := same_new kc8 (.lst [V.ref b8])
    have lc8 : c8 ≠ l := fun e => by rw [e, hl] at kc8; cases kc8
    have m8 : (upd H12 c8 (.lst [V.ref b8])) c8 = some (.lst [V.ref b8]) := upd_same
    have hl := s13 _ _ hl
    have hg := s13 _ _ hg
    have hf := hf.same s13
    have hD := hD.same s13
    have O0 := O0.same s13
    have O1 := O1.same s13
    have O4 := O4.same s13
    have O5 := O5.same s13
    have O6 := O6.same s13
    have O7 := O7.same s13
    have q6 := seqT s13 q6
    have q8 := seqT s13 q8
    have m6 := s13 _ _ m6
    have n7 := s13 _ _ n7
    have m7 := s13 _ _ m7
    have n8 := s13 _ _ n8
    generalize upd H12 c8 (.lst [V.ref b8]) = H13 at s13 hl hg hf hD O0 O1 O4 O5 O6 O7 q6 q8 m6 n7 m7 n8 m8 ⊢
    have t13 := t12.trans s13
    refine ⟨e8, c8, _, _, rfl, rfl, n8, m8, (by rw [lD]; exact sl _ (by show ww - 1 + 1 ≤ 10; omega)), fun a8 ka8 => ?_⟩
    have s14 := same_new ka8 (.lst (cs.dropLast ++ [V.ref b8]))
    have la8 : a8 ≠ l := fun e => by rw [e, hl] at ka8; cases ka8
    have O8 : OddD K (upd H13 a8 (.lst (cs.dropLast ++ [V.ref b8]))) l ww (.ref a8) (.list (ss.dropLast.map dR ++ [(.tuple [.int 2, .int 2])])) := ⟨.lst upd_same la8 ((hD.same s14).app (.cons (.tup (seqT s14 q8) (.cons (.int _) (.cons (.int _) .nil))) .nil)), (fun e => by cases e), few_app fD (few_none (d := (.tuple [.int 2, .int 2])) (by decide)), shRow_mem (e := (.tuple [.int 2, .int 2])) (List.mem_append_right _ (List.mem_singleton.mpr rfl)) (by decide)⟩
    have hl := s14 _ _ hl
    have hg := s14 _ _ hg
    have hf := hf.same s14
    have hD := hD.same s14
    have O0 := O0.same s14
    have O1 := O1.same s14
    have O4 := O4.same s14
    have O5 := O5.same s14
    have O6 := O6.same s14
    have O7 := O7.same s14
    have q6 := seqT s14 q6
    have q8 := seqT s14 q8
    have m6 := s14 _ _ m6
    have n7 := s14 _ _ n7
    have m7 := s14 _ _ m7
    have n8 := s14 _ _ n8
    have m8 := s14 _ _ m8
    generalize upd H13 a8 (.lst (cs.dropLast ++ [V.ref b8])) = H14 at s14 hl hg hf hD O0 O1 O4 O5 O6 O7 q6 q8 m6 n7 m7 n8 m8 O8 ⊢
    have t14 := t13.trans s14
    refine ⟨sl 9 (by decide), fun S1 kS1 => ?_⟩
    have s15 := same_new kS1 (.lst [V.ref a0, V.ref a1, V.int 0, V.str "", V.ref a4, V.ref a5, V.ref a6, V.ref a7, V.ref a8])
    have lS1 : S1 ≠ l := fun e => by rw [e, hl] at kS1; cases kS1
    have nS : (upd H14 S1 (.lst [V.ref a0, V.ref a1, V.int 0, V.str "", V.ref a4, V.ref a5, V.ref a6, V.ref a7, V.ref a8])) S1 = some (.lst [V.ref a0, V.ref a1, V.int 0, V.str "", V.ref a4, V.ref a5, V.ref a6, V.ref a7, V.ref a8]) := upd_same
    have hl := s15 _ _ hl
    have hg := s15 _ _ hg
    have hf := hf.same s15
    have hD := hD.same s15
    have O0 := O0.same s15
    have O1 := O1.same s15
    have O4 := O4.same s15
    have O5 := O5.same s15
    have O6 := O6.same s15
    have O7 := O7.same s15
    have O8 := O8.same s15
    have q6 := seqT s15 q6
    have q8 := seqT s15 q8
    have m6 := s15 _ _ m6
    have n7 := s15 _ _ n7
    have m7 := s15 _ _ m7
    have n8 := s15 _ _ n8
    have m8 := s15 _ _ m8
    generalize upd H14 S1 (.lst [V.ref a0, V.ref a1, V.int 0, V.str "", V.ref a4, V.ref a5, V.ref a6, V.ref a7, V.ref a8]) = H15 at s15 hl hg hf hD O0 O1 O4 O5 O6 O7 O8 q6 q8 m6 n7 m7 n8 m8 nS ⊢
    have t15 := t14.trans s15
    refine ⟨_, rfl, ?_⟩
    refine ⟨_, rfl, 1, rfl, -1, rfl, g0, cs, rfl, SqL.of hg, fun e9 ke9 => ?_⟩
    rw [cut_last]
    have s16 := same_new ke9 (.lst cs.dropLast)
    have le9 : e9 ≠ l := fun e => by rw [e, hl] at ke9; cases ke9
    have n9 : (upd H15 e9 (.lst cs.dropLast)) e9 = some (.lst cs.dropLast) := upd_same
    have hl := s16 _ _ hl
    have hg := s16 _ _ hg
    have hf := hf.same s16
    have hD := hD.same s16
    have O0 := O0.same s16
    have O1 := O1.same s16
    have O4 := O4.same s16
    have O5 := O5.same s16
    have O6 := O6.same s16
    have O7 := O7.same s16
    have O8 := O8.same s16
    have q6 := seqT s16 q6
    have q8 := seqT s16 q8
    have m6 := s16 _ _ m6
    have n7 := s16 _ _ n7
    have m7 := s16 _ _ m7
    have n8 := s16 _ _ n8
    have m8 := s16 _ _ m8
    have nS := s16 _ _ nS
    generalize upd H15 e9 (.lst cs.dropLast) = H16 at s16 hl hg hf hD O0 O1 O4 O5 O6 O7 O8 q6 q8 m6 n7 m7 n8 m8 nS n9 ⊢
    have t16 := t15.trans s16
    obtain ⟨pl, pl1, pl2, pl3⟩ : ∃ pl, atI cs (-1) = some (V.ref pl) ∧ SqT K H16 pl (rp lastq) ∧ Bd 8 lastq := by
      have hi : cs.length - 1 < ss.length := by rw [lc, hro.1]; omega
      have e1 : ss[cs.length - 1] = lastq := by
        rw [List.getLast?_eq_getElem?, hf.len.symm, List.getElem?_eq_getElem hi] at hlast
        exact Option.some.inj hlast
      obtain ⟨p, x1, x2, x3⟩ := frn_get hf (List.getElem?_eq_getElem hi)
      rw [e1] at x2 x3
      refine ⟨p, ?_, x2, x3⟩
      unfold atI ixN
      rw [if_neg (by decide), if_pos (by omega)]
      show cs[(-1 + (cs.length : Int)).toNat]? = _
      rw [show (-1 + (cs.length : Int)).toNat = cs.length - 1 by omega]
      exact x1
    refine ⟨_, rfl, 1, rfl, g0, cs, -1, .ref pl, rfl, rfl, SqL.of hg, pl1, sl 2 (by decide), fun b9 kb9 => ?_⟩
    have s17 := same_new kb9 (.tup [V.int 1, V.int 9])
    have lb9 : b9 ≠ l := fun e => by rw [e, hl] at kb9; cases kb9
    have q9 : SqT K (upd H16 b9 (.tup [V.int 1, V.int 9])) b9 (rp ninth) := SqT.of upd_same
    have hl := s17 _ _ hl
    have hg := s17 _ _ hg
    have hf := hf.same s17
    have hD := hD.same s17
    have O0 := O0.same s17
    have O1 := O1.same s17
    have O4 := O4.same s17
    have O5 := O5.same s17
    have O6 := O6.same s17
    have O7 := O7.same s17
    have O8 := O8.same s17
    have q6 := seqT s17 q6
    have q8 := seqT s17 q8
    have pl2 := seqT s17 pl2
    have m6 := s17 _ _ m6
    have n7 := s17 _ _ n7
    have m7 := s17 _ _ m7
    have n8 := s17 _ _ n8
    have m8 := s17 _ _ m8
    have nS := s17 _ _ nS
    have n9 := s17 _ _ n9
    generalize upd H16 b9 (.tup [V.int 1, V.int 9]) = H17 at s17 hl hg hf hD O0 O1 O4 O5 O6 O7 O8 q6 q8 pl2 m6 n7 m7 n8 m8 nS n9 q9 ⊢
    have t17 := t16.trans s17
    refine ⟨pl, b9, lastq, ninth, 8, 4, rfl, pl2, q9, pl3, ⟨by decide, by decide⟩, by decide, fun r9 kr9 => ?_⟩
    have bl : Bd 20 (lastq - ninth) := (Fr.bd_sub pl3 (b := ninth) (m := 4) ⟨by decide, by decide⟩).mono (by decide)
    have s18 := same_new kr9 (.tup (rp (lastq - ninth)))
    have lr9 : r9 ≠ l := fun e => by rw [e, hl] at kr9; cases kr9
    have qr9 : SqT K (upd H17 r9 (.tup (rp (lastq - ninth)))) r9 (rp (lastq - ninth)) := SqT.of upd_same
    have hl := s18 _ _ hl
    have hg := s18 _ _ hg
    have hf := hf.same s18
    have hD := hD.same s18
    have O0 := O0.same s18
    have O1 := O1.same s18
    have O4 := O4.same s18
    have O5 := O5.same s18
    have O6 := O6.same s18
    have O7 := O7.same s18
    have O8 := O8.same s18
    have q6 := seqT s18 q6
    have q8 := seqT s18 q8
    have pl2 := seqT s18 pl2
    have q9 := seqT s18 q9
    have m6 := s18 _ _ m6
    have n7 := s18 _ _ n7
    have m7 := s18 _ _ m7
    have n8 := s18 _ _ n8
    have m8 := s18 _ _ m8
    have nS := s18 _ _ nS
    have n9 := s18 _ _ n9
    generalize upd H17 r9 (.tup (rp (lastq - ninth))) = H18 at s18 hl hg hf hD O0 O1 O4 O5 O6 O7 O8 q6 q8 pl2 q9 m6 n7 m7 n8 m8 nS n9 qr9 ⊢
    have t18 := t17.trans s18
    refine ⟨sl 1 (by decide), fun c9 kc9 => ?_⟩
    have s19 := same_new kc9 (.lst [V.ref r9])
    have lc9 : c9 ≠ l := fun e => by rw [e, hl] at kc9; cases kc9
    have m9 : (upd H18 c9 (.lst [V.ref r9])) c9 = some (.lst [V.ref r9]) := upd_same
    have hl := s19 _ _ hl
    have hg := s19 _ _ hg
    have hf := hf.same s19
    have hD := hD.same s19
    have O0 := O0.same s19
    have O1 := O1.same s19
    have O4 := O4.same s19
    have O5 := O5.same s19
    have O6 := O6.same s19
    have O7 := O7.same s19
    have O8 := O8.same s19
    have q6 := seqT s19 q6
    have q8 := seqT s19 q8
    have pl2 := seqT s19 pl2
    have q9 := seqT s19 q9
    have qr9 := seqT s19 qr9
    have m6 := s19 _ _ m6
    have n7 := s19 _ _ n7
    have m7 := s19 _ _ m7
    have n8 := s19 _ _ n8
    have m8 := s19 _ _ m8
    have nS := s19 _ _ nS
    have n9 := s19 _ _ n9
    generalize upd H18 c9 (.lst [V.ref r9]) = H19 at s19 hl hg hf hD O0 O1 O4 O5 O6 O7 O8 q6 q8 pl2 q9 qr9 m6 n7 m7 n8 m8 nS n9 m9 ⊢
    have t19 := t18.trans s19
    refine ⟨e9, c9, _, _, rfl, rfl, n9, m9, (by rw [lD]; exact sl _ (by show ww - 1 + 1 ≤ 10; omega)), fun a9 ka9 => ?_⟩
    have bad9 : (ss.dropLast ++ [lastq - ninth]).sum ≠ 1 := fun e => by
      have e2 := drop_sum hlast
      rw [hro.2.2] at e2
      rw [List.sum_append, List.sum_singleton] at e
      have hn : ninth ≠ 0 := by decide
      apply hn
      grind
    have s20 := same_new ka9 (.lst (cs.dropLast ++ [V.ref r9]))
    have la9 : a9 ≠ l := fun e => by rw [e, hl] at ka9; cases ka9
    have O9 : OddD K (upd H19 a9 (.lst (cs.dropLast ++ [V.ref r9]))) l ww (.ref a9) (.list ((ss.dropLast ++ [lastq - ninth]).map dR)) := ⟨by rw [List.map_append]; exact .lst upd_same la9 ((hD.same s20).app (.cons (dz_dR (seqT s20 qr9)) .nil)), (fun e => by cases e), few_dR (fun q hq => by rcases List.mem_append.mp hq with hq | hq; exact (frn_bd hf q (List.dropLast_subset _ hq)).mono (by decide); rw [List.mem_singleton.mp hq]; exact bl), shRow_sum bad9⟩
    have hl := s20 _ _ hl
    have hg := s20 _ _ hg
    have hf := hf.same s20
    have hD := hD.same s20
    have O0 := O0.same s20
    have O1 := O1.same s20
    have O4 := O4.same s20
    have O5 := O5.same s20
    have O6 := O6.same s20
    have O7 := O7.same s20
    have O8 := O8.same s20
    have q6 := seqT s20 q6
    have q8 := seqT s20 q8
    have pl2 := seqT s20 pl2
    have q9 := seqT s20 q9
    have qr9 := seqT s20 qr9
    have m6 := s20 _ _ m6
    have n7 := s20 _ _ n7
    have m7 := s20 _ _ m7
    have n8 := s20 _ _ n8
    have m8 := s20 _ _ m8
    have nS := s20 _ _ nS
    have n9 := s20 _ _ n9
    have m9 := s20 _ _ m9
    generalize upd H19 a9 (.lst (cs.dropLast ++ [V.ref r9])) = H20 at s20 hl hg hf hD O0 O1 O4 O5 O6 O7 O8 q6 q8 pl2 q9 qr9 m6 n7 m7 n8 m8 nS n9 m9 O9 ⊢
    have t20 := t19.trans s20
    refine ⟨_, rfl, 1, rfl, -1, rfl, g0, cs, rfl, SqL.of hg, fun ex kex => ?_⟩
    rw [cut_last]
    have s21 := same_new kex (.lst cs.dropLast)
    have lex : ex ≠ l := fun e => by rw [e, hl] at kex; cases kex
    have nx : (upd H20 ex (.lst cs.dropLast)) ex = some (.lst cs.dropLast) := upd_same
    have hl := s21 _ _ hl
    have hg := s21 _ _ hg
    have hf := hf.same s21
    have hD := hD.same s21
    have O0 := O0.same s21
    have O1 := O1.same s21
    have O4 := O4.same s21
    have O5 := O5.same s21
    have O6 := O6.same s21
    have O7 := O7.same s21
    have O8 := O8.same s21
    have O9 := O9.same s21
    have q6 := seqT s21 q6
    have q8 := seqT s21 q8
    have pl2 := seqT s21 pl2
    have q9 := seqT s21 q9
    have qr9 := seqT s21 qr9
    have m6 := s21 _ _ m6
    have n7 := s21 _ _ n7
    have m7 := s21 _ _ m7
    have n8 := s21 _ _ n8
    have m8 := s21 _ _ m8
    have nS := s21 _ _ nS
    have n9 := s21 _ _ n9
    have m9 := s21 _ _ m9
    generalize upd H20 ex (.lst cs.dropLast) = H21 at s21 hl hg hf hD O0 O1 O4 O5 O6 O7 O8 O9 q6 q8 pl2 q9 qr9 m6 n7 m7 n8 m8 nS n9 m9 nx ⊢
    have t21 := t20.trans s21
    refine ⟨sl 2 (by decide), fun b10 kb10 => ?_⟩
    have s22 := same_new kb10 (.tup [V.int 2, V.int 1])
    have lb10 : b10 ≠ l := fun e => by rw [e, hl] at kb10; cases kb10
    have q10 : SqT K (upd H21 b10 (.tup [V.int 2, V.int 1])) b10 (rp 2) := SqT.of upd_same
    have hl := s22 _ _ hl
    have hg := s22 _ _ hg
    have hf := hf.same s22
    have hD := hD.same s22
    have O0 := O0.same s22
    have O1 := O1.same s22
    have O4 := O4.same s22
    have O5 := O5.same s22
    have O6 := O6.same s22
    have O7 := O7.same s22
    have O8 := O8.same s22
    have O9 := O9.same s22
    have q6 := seqT s22 q6
    have q8 := seqT s22 q8
    have pl2 := seqT s22 pl2
    have q9 := seqT s22 q9
    have qr9 := seqT s22 qr9
    have m6 := s22 _ _ m6
    have n7 := s22 _ _ n7
    have m7 := s22 _ _ m7
    have n8 := s22 _ _ n8
    have m8 := s22 _ _ m8
    have nS := s22 _ _ nS
    have n9 := s22 _ _ n9
    have m9 := s22 _ _ m9
    have nx := s22 _ _ nx
    generalize upd H21 b10 (.tup [V.int 2, V.int 1]) = H22 at s22 hl hg hf hD O0 O1 O4 O5 O6 O7 O8 O9 q6 q8 pl2 q9 qr9 m6 n7 m7 n8 m8 nS n9 m9 nx q10 ⊢
    have t22 := t21.trans s22
    refine ⟨1, rfl, sl 2 (by decide), fun b11 kb11 => ?_⟩
    have s23 := same_new kb11 (.tup [V.int (-1), V.int 1])
    have lb11 : b11 ≠ l := fun e => by rw [e, hl] at kb11; cases kb11
    have q11 : SqT K (upd H22 b11 (.tup [V.int (-1), V.int 1])) b11 (rp (-1)) := SqT.of upd_same
    have hl := s23 _ _ hl
    have hg := s23 _ _ hg
    have hf := hf.same s23
    have hD := hD.same s23
    have O0 := O0.same s23
    have O1 := O1.same s23
    have O4 := O4.same s23
    have O5 := O5.same s23
    have O6 := O6.same s23
    have O7 := O7.same s23
    have O8 := O8.same s23
    have O9 := O9.same s23
    have q6 := seqT s23 q6
    have q8 := seqT s23 q8
    have pl2 := seqT s23 pl2
    have q9 := seqT s23 q9
    have qr9 := seqT s23 qr9
    have q10 := seqT s23 q10
    have m6 := s23 _ _ m6
    have n7 := s23 _ _ n7
    have m7 := s23 _ _ m7
    have n8 := s23 _ _ n8
    have m8 := s23 _ _ m8
    have nS := s23 _ _ nS
    have n9 := s23 _ _ n9
    have m9 := s23 _ _ m9
    have nx := s23 _ _ nx
    generalize upd H22 b11 (.tup [V.int (-1), V.int 1]) = H23 at s23 hl hg hf hD O0 O1 O4 O5 O6 O7 O8 O9 q6 q8 pl2 q9 qr9 q10 m6 n7 m7 n8 m8 nS n9 m9 nx q11 ⊢
    have t23 := t22.trans s23
    refine ⟨sl 2 (by decide), fun c10 kc10 => ?_⟩
    have s24 := same_new kc10 (.lst [V.ref b10, V.ref b11])
    have lc10 : c10 ≠ l := fun e => by rw [e, hl] at kc10; cases kc10
    have m10 : (upd H23 c10 (.lst [V.ref b10, V.ref b11])) c10 = some (.lst [V.ref b10, V.ref b11]) := upd_same
    have hl := s24 _ _ hl
    have hg := s24 _ _ hg
    have hf := hf.same s24
    have hD := hD.same s24
    have O0 := O0.same s24
    have O1 := O1.same s24
    have O4 := O4.same s24
    have O5 := O5.same s24
    have O6 := O6.same s24
    have O7 := O7.same s24
    have O8 := O8.same s24
    have O9 := O9.same s24
    have q6 := seqT s24 q6
    have q8 := seqT s24 q8
    have pl2 := seqT s24 pl2
    have q9 := seqT s24 q9
    have qr9 := seqT s24 qr9
    have q10 := seqT s24 q10
    have q11 := seqT s24 q11
    have m6 := s24 _ _ m6
    have n7 := s24 _ _ n7
    have m7 := s24 _ _ m7
    have n8 := s24 _ _ n8
    have m8 := s24 _ _ m8
    have nS := s24 _ _ nS
    have n9 := s24 _ _ n9
    have m9 := s24 _ _ m9
    have nx := s24 _ _ nx
    generalize upd H23 c10 (.lst [V.ref b10, V.ref b11]) = H24 at s24 hl hg hf hD O0 O1 O4 O5 O6 O7 O8 O9 q6 q8 pl2 q9 qr9 q10 q11 m6 n7 m7 n8 m8 nS n9 m9 nx m10 ⊢
    have t24 := t23.trans s24
    refine ⟨ex, c10, _, _, rfl, rfl, nx, m10, (by rw [lD]; exact sl _ (by show ww - 1 + 2 ≤ 10; omega)), fun a10 ka10 => ?_⟩
    have s25 := same_new ka10 (.lst (cs.dropLast ++ [V.ref b10, V.ref b11]))
    have la10 : a10 ≠ l := fun e => by rw [e, hl] at ka10; cases ka10
    have O10 : OddD K (upd H24 a10 (.lst (cs.dropLast ++ [V.ref b10, V.ref b11]))) l ww (.ref a10) (.list (ss.dropLast.map dR ++ [dR 2, dR (-1)])) := ⟨.lst upd_same la10 ((hD.same s25).app (.cons (dz_dR (seqT s25 q10)) (.cons (dz_dR (seqT s25 q11)) .nil))), (fun e => by cases e), few_app fD (few_dR (qs := [2, -1]) fun q hq => by rcases List.mem_cons.mp hq with rfl | hq; exact ⟨by decide, by decide⟩; rw [List.mem_singleton.mp hq]; exact ⟨by decide, by decide⟩), shRow_len (by rw [List.length_append, List.length_map, lS]; show ww - 1 + 2 ≠ ww; omega)⟩
    have hl := s25 _ _ hl
    have hg := s25 _ _ hg
    have hf := hf.same s25
    have hD := hD.same s25
    have O0 := O0.same s25
    have O1 := O1.same s25
    have O4 := O4.same s25
    have O5 := O5.same s25
    have O6 := O6.same s25
    have O7 := O7.same s25
    have O8 := O8.same s25
    have O9 := O9.same s25
    have q6 := seqT s25 q6
    have q8 := seqT s25 q8
    have pl2 := seqT s25 pl2
    have q9 := seqT s25 q9
    have qr9 := seqT s25 qr9
    have q10 := seqT s25 q10
    have q11 := seqT s25 q11
    have m6 := s25 _ _ m6
    have n7 := s25 _ _ n7
    have m7 := s25 _ _ m7
    have n8 := s25 _ _ n8
    have m8 := s25 _ _ m8
    have nS := s25 _ _ nS
    have n9 := s25 _ _ n9
    have m9 := s25 _ _ m9
    have nx := s25 _ _ nx
    have m10 := s25 _ _ m10
    generalize upd H24 a10 (.lst (cs.dropLast ++ [V.ref b10, V.ref b11])) = H25 at s25 hl hg hf hD O0 O1 O4 O5 O6 O7 O8 O9 q6 q8 pl2 q9 qr9 q10 q11 m6 n7 m7 n8 m8 nS n9 m9 nx m10 O10 ⊢
    have t25 := t24.trans s25
    refine ⟨sl 2 (by decide), fun S2 kS2 => ?_⟩
    have s26 := same_new kS2 (.lst [V.ref a9, V.ref a10])
    have lS2 : S2 ≠ l := fun e => by rw [e, hl] at kS2; cases kS2
    have nS2 : (upd H25 S2 (.lst [V.ref a9, V.ref a10])) S2 = some (.lst [V.ref a9, V.ref a10]) := upd_same
    have hl := s26 _ _ hl
    have hg := s26 _ _ hg
    have hf := hf.same s26
    have hD := hD.same s26
    have O0 := O0.same s26
    have O1 := O1.same s26
    have O4 := O4.same s26
    have O5 := O5.same s26
    have O6 := O6.same s26
    have O7 := O7.same s26
    have O8 := O8.same s26
    have O9 := O9.same s26
    have O10 := O10.same s26
    have q6 := seqT s26 q6
    have q8 := seqT s26 q8
    have pl2 := seqT s26 pl2
    have q9 := seqT s26 q9
    have qr9 := seqT s26 qr9
    have q10 := seqT s26 q10
    have q11 := seqT s26 q11
    have m6 := s26 _ _ m6
    have n7 := s26 _ _ n7
    have m7 := s26 _ _ m7
    have n8 := s26 _ _ n8
    have m8 := s26 _ _ m8
    have nS := s26 _ _ nS
    have n9 := s26 _ _ n9
    have m9 := s26 _ _ m9
    have nx := s26 _ _ nx
    have m10 := s26 _ _ m10
    generalize upd H25 S2 (.lst [V.ref a9, V.ref a10]) = H26 at s26 hl hg hf hD O0 O1 O4 O5 O6 O7 O8 O9 O10 q6 q8 pl2 q9 qr9 q10 q11 m6 n7 m7 n8 m8 nS n9 m9 nx m10 nS2 ⊢
    have t26 := t25.trans s26
    refine ⟨S1, S2, _, _, rfl, rfl, nS, nS2, (Nat.le_of_lt (small1000 (by show 11 ≤ 1000; decide))), fun S3 kS3 => ?_⟩
    have s27 := same_new kS3 (.lst ([V.ref a0, V.ref a1, V.int 0, V.str "", V.ref a4, V.ref a5, V.ref a6, V.ref a7, V.ref a8] ++ [V.ref a9, V.ref a10]))
    have lS3 : S3 ≠ l := fun e => by rw [e, hl] at kS3; cases kS3
    have nS3 : (upd H26 S3 (.lst ([V.ref a0, V.ref a1, V.int 0, V.str "", V.ref a4, V.ref a5, V.ref a6, V.ref a7, V.ref a8] ++ [V.ref a9, V.ref a10]))) S3 = some (.lst [V.ref a0, V.ref a1, V.int 0, V.str "", V.ref a4, V.ref a5, V.ref a6, V.ref a7, V.ref a8, V.ref a9, V.ref a10]) := upd_same
    have hl := s27 _ _ hl
    have hg := s27 _ _ hg
    have hf := hf.same s27
    have hD := hD.same s27
    have O0 := O0.same s27
    have O1 := O1.same s27
    have O4 := O4.same s27
    have O5 := O5.same s27
    have O6 := O6.same s27
    have O7 := O7.same s27
    have O8 := O8.same s27
    have O9 := O9.same s27
    have O10 := O10.same s27
    have q6 := seqT s27 q6
    have q8 := seqT s27 q8
    have pl2 := seqT s27 pl2
    have q9 := seqT s27 q9
    have qr9 := seqT s27 qr9
    have q10 := seqT s27 q10
    have q11 := seqT s27 q11
    have m6 := s27 _ _ m6
    have n7 := s27 _ _ n7
    have m7 := s27 _ _ m7
    have n8 := s27 _ _ n8
    have m8 := s27 _ _ m8
    have nS := s27 _ _ nS
    have n9 := s27 _ _ n9
    have m9 := s27 _ _ m9
    have nx := s27 _ _ nx
    have m10 := s27 _ _ m10
    have nS2 := s27 _ _ nS2
    generalize upd H26 S3 (.lst ([V.ref a0, V.ref a1, V.int 0, V.str "", V.ref a4, V.ref a5, V.ref a6, V.ref a7, V.ref a8] ++ [V.ref a9, V.ref a10])) = H27 at s27 hl hg hf hD O0 O1 O4 O5 O6 O7 O8 O9 O10 q6 q8 pl2 q9 qr9 q10 q11 m6 n7 m7 n8 m8 nS n9 m9 nx m10 nS2 nS3 ⊢
    have t27 := t26.trans s27
    have all : ∀ v ∈ ([V.ref a0, V.ref a1, V.int 0, V.str "", V.ref a4, V.ref a5, V.ref a6, V.ref a7, V.ref a8, V.ref a9, V.ref a10] : List V), ∃ d, OddD K H27 l ww v d := fun v hv => by
      simp only [List.mem_cons, List.mem_nil_iff, or_false] at hv
      rcases hv with rfl | rfl | rfl | rfl | rfl | rfl | rfl | rfl | rfl | rfl | rfl
      · exact ⟨_, O0⟩
      · exact ⟨_, O1⟩
      · exact ⟨.int 0, .int _, (fun e => by cases e), few_nil, rfl⟩
      · exact ⟨.str "", .str _, (fun e => by cases e), few_nil, rfl⟩
      · exact ⟨_, O4⟩
      · exact ⟨_, O5⟩
      · exact ⟨_, O6⟩
      · exact ⟨_, O7⟩
      · exact ⟨_, O8⟩
      · exact ⟨_, O9⟩
      · exact ⟨_, O10⟩
    refine ⟨_, rfl, _, rfl, l, z, 11, rfl, hl, by decide, by decide, fun d z1 d0 d11 => ?_⟩
    have cp : Ch K (fun a => a = l) H27 (upd H27 l (.lst [.int z1])) := Ch.put hl rfl
    obtain ⟨v, ev⟩ : ∃ v, ([V.ref a0, V.ref a1, V.int 0, V.str "", V.ref a4, V.ref a5, V.ref a6, V.ref a7, V.ref a8, V.ref a9, V.ref a10] : List V)[d.toNat]? = some v := ⟨_, List.getElem?_eq_getElem (by show d.toNat < 11; omega)⟩
    obtain ⟨dt, od⟩ := all v (List.mem_of_getElem? ev)
    have ed : d = ((d.toNat : Nat) : Int) := by omega
    refine ⟨S3, _, d, v, rfl, rfl, SqL.of (by rw [upd_ne lS3]; exact nS3), ?_, ?_⟩
    · rw [ed]
      exact atI_nat (j := d.toNat) ev
    · exact q v dt z1 _ ((SameB.of t27).trans SameB.upd) upd_same ⟨od.dz.cc cp, od.nn, od.fw, od.bad⟩
end
end K35

set_option Elab.async false
set_option linter.all false
set_option maxRecDepth 100000
set_option maxHeartbeats 16000000
namespace K35
open PySem PySem.Spec PyProof.Rows L2 BX EXB Co Ru
open Dz Cs Hr
open Rs (Rsp Rv Ret tYes_of dV datR Flat Okr spShares spRowsL spTotal spCopied eqv_dR)
open Fr (Bd)
theorem sm_intB {i : Int} {n : Nat} (h : i.natAbs < 2 ^ n) (h0 : 0 < n) (hn : n ≤ 1900) : Sm (.int i) 0 (n + 1) := by
  have hl : i.natAbs.log2 < n := PySem.Flt.log2_lt_of h0 h
  refine ⟨decide_eq_true (Nat.lt_of_lt_of_le hl (by omega)), Nat.le_refl _, ?_, rfl⟩
  show (Str.ofString (toString i)).length ≤ n + 1
  rw [PySem.ofString_length]
  exact PySem.int_text_length_le h0 hl
theorem sm_q {q : Rat} {n : Nat} (h : Bd n q) (h0 : 0 < n) (hn : n ≤ 1000) : Sm (dR q) 1 (9 + 2 * n) := by
  refine sm_tup (k := 0) (b := n + 1) (n := 2) (fun d hd => ?_) (Nat.le_refl 2) (by omega)
  rcases List.mem_cons.mp hd with rfl | hd
  · exact sm_intB h.1 h0 (by omega)
  · rw [List.mem_singleton.mp hd]
    exact sm_intB h.dn h0 (by omega)
theorem sm_qs {qs : List Rat} {n k : Nat} (h : ∀ q ∈ qs, Bd n q) (h0 : 0 < n) (hn : n ≤ 100) (hk : qs.length ≤ k) (h5 : k ≤ 5) : Sm (dS qs) 2 1100 := by
  refine sm_list (k := 1) (b := 209) (n := 5) (fun d hd => ?_) (by rw [List.length_map]; omega) (by decide)
  obtain ⟨q, hq, rfl⟩ := List.mem_map.mp hd
  exact (sm_q (h q hq) h0 (by omega)).mono (Nat.le_refl _) (by omega)
theorem sm_line {d : PyData} {n : Nat} (h : Sm d 5 n) (hn : n ≤ 700000) : d.showable = true ∧ d.depth ≤ 64 ∧ d.shown.length ≤ sizeLine := ⟨h.sh, Nat.le_trans h.dp (by decide), Nat.le_trans h.sz (by rw [sizeLine_eq]; omega)⟩
/-- values, then names, whatever the defaults are -/
def g3k : {α : Type} → List α → List α → List α → List α := fun us _ ws => us ++ ws
theorem g3k_rel {vs ds zs : List V} {us its ws : List Value} (a : Vals vs us) (_ : Vals ds its) (b : Vals zs ws) : Vals (g3k vs ds zs) (g3k us its ws) := a.append b
def D0 (ps ss : List Rat) (iss : List (List Rat)) : PyData := .list [.tuple [dS ps, dRows iss], dS ss]
theorem map_rat (a : List Rat) : (a.map dR).map (fun e => (ratD e).getD 0) = a := by
  rw [List.map_map]
  have : ((fun d => (ratD d).getD 0) ∘ dR) = id := by
    funext q
    show (ratD (dR q)).getD 0 = q
    rw [ratD_dR]
    rfl
  rw [this, List.map_id]
theorem dS_inj {a b : List Rat} (h : dS a = dS b) : a = b := by
  have e : a.map dR = b.map dR := by
    injection h
  rw [← map_rat a, e, map_rat]
theorem shRow_good {qs : List Rat} {ww : Nat} (h : RowOk ww qs) : shRowZ (dS qs) (ww : Int) (ww : Int) = true := by
  have e1 : lenOk (lenD (dS qs)) (ww : Int) (ww : Int) = true := lenOk_iff.mpr (by rw [List.length_map, h.1]; omega)
  have e2 : (qs.map dR).all shD = true := by
    rw [List.all_eq_true]
    intro d hd
    obtain ⟨q, hq, rfl⟩ := List.mem_map.mp hd
    rw [shD_dR]
    exact decide_eq_true (Rat.num_nonneg.mpr (h.2.1 q hq))
  show (lenOk (lenD (dS qs)) (ww : Int) (ww : Int) && ((qs.map dR).all shD && decide (sumD (qs.map dR) = 1))) = true
  rw [e1, e2, sumD_dR, h.2.2]
  rfl
theorem bd_dot : ∀ (ss ps : List Rat), (∀ q ∈ ss, Bd 8 q) → (∀ q ∈ ps, Bd 100 q) → Bd (1 + 109 * ss.length) (dotq ss ps)
  | [], _, _, _ => (⟨by decide, by decide⟩ : Bd 1 (0 : Rat))
  | _ :: _, [], _, _ => by
    have b : Bd 1 (0 : Rat) := ⟨by decide, by decide⟩
    exact b.mono (by omega)
  | a :: ss, b :: ps, h1, h2 => by
    show Bd _ (a * b + dotq ss ps)
    have i := bd_dot ss ps (fun q hq => h1 q (List.mem_cons_of_mem _ hq)) (fun q hq => h2 q (List.mem_cons_of_mem _ hq))
    exact (Fr.bd_add (Fr.bd_mul (h1 a (List.mem_cons_self ..)) (h2 b (List.mem_cons_self ..))) i).mono (by rw [List.length_cons]; omega)
/-- prices as they were made -/
structure PrD (K : PySem.W.Frag) (H : Hp) (Pr W I : Addr) (cw : List V) (ps : List Rat) (ri : List Addr) (iss : List (List Rat)) (ww dd : Nat) : Prop where
  p : SqT K H Pr [.ref W, .ref I]
  w : H W = some (.lst cw)
  f : FrN K H 100 cw ps
  l : ps.length = ww
  i : InsT K H I ri iss dd
section
variable {K : PySem.W.Frag} {H H' : Hp} {Pr W I l : Addr} {cw : List V} {ps : List Rat} {ri : List Addr} {iss : List (List Rat)} {ww dd : Nat} {z : Int}
theorem PrD.same (h : PrD K H Pr W I cw ps ri iss ww dd) (s : Same H H') : PrD K H' Pr W I cw ps ri iss ww dd := ⟨seqT s h.p, s _ _ h.w, h.f.same s, h.l, h.i.same s⟩
theorem PrD.but (h : PrD K H Pr W I cw ps ri iss ww dd) (hl : H l = some (.lst [.int z])) (s : SameB l H H') : PrD K H' Pr W I cw ps ri iss ww dd :=
  ⟨s.tup hl _ _ h.p, s _ _ (fun e => by
    have := h.w
    rw [e, hl] at this
    cases this
    exact Lw.frn_num h.f) h.w, h.f.keep (s.tup hl), h.l, ⟨Rs.RwL.keepB h.i.w hl s, h.i.l, h.i.r⟩⟩
theorem PrD.t (h : PrD K H Pr W I cw ps ri iss ww dd) : PrT K H Pr ps ww := ⟨⟨W, I, cw, h.p, SqL.of h.w, h.f⟩, h.l⟩
theorem PrD.dp (h : PrD K H Pr W I cw ps ri iss ww dd) : Dp K H (.ref Pr) (.tuple [dS ps, dRows iss]) := .tup h.p (.cons (.lst (SqL.of h.w) h.f.dp) (.cons h.i.w.dp .nil))
theorem PrD.sm {ss : List Rat} (h : PrD K H Pr W I cw ps ri iss ww dd) (h5 : ww ≤ 5) (h4 : dd ≤ 4) (hs : ∀ q ∈ ss, Bd 8 q) (hl : ss.length = ww) : Sm (D0 ps ss iss) 5 26007 := by
  have a1 : Sm (dS ps) 2 1100 := sm_qs (frn_bd h.f) (by decide) (by decide) (Nat.le_of_eq h.l) h5
  have a2 : Sm (dS ss) 2 1100 := sm_qs hs (by decide) (by decide) (Nat.le_of_eq hl) h5
  have a3 : Sm (dRows iss) 3 6000 := by
    refine sm_list (k := 2) (b := 1100) (n := 4) (fun d hd => ?_) (by rw [List.length_map, h.i.l]; exact h4) (by decide)
    obtain ⟨r, hr, rfl⟩ := List.mem_map.mp hd
    obtain ⟨j, hj, ej⟩ := List.getElem_of_mem hr
    have hjr : j < ri.length := by rw [h.i.w.2.1]; exact hj
    obtain ⟨c, q, x1, _, x3⟩ := h.i.w.2.2 j ri[j] (List.getElem?_eq_getElem hjr)
    have eq : q = r := by
      rw [List.getElem?_eq_getElem hj, ej] at x1
      exact (Option.some.inj x1).symm
    subst eq
    exact sm_qs (frn_bd x3) (by decide) (by decide) (Nat.le_of_eq (h.i.r _ hr)) (by omega)
  have a4 : Sm (.tuple [dS ps, dRows iss]) 4 13000 := by
    refine sm_tup (k := 3) (b := 6000) (n := 2) (fun d hd => ?_) (Nat.le_refl 2) (by decide)
    rcases List.mem_cons.mp hd with rfl | hd
    · exact a1.mono (by decide) (by decide)
    · rw [List.mem_singleton.mp hd]
      exact a3
  refine sm_list (k := 4) (b := 13000) (n := 2) (c := 26007) (fun d hd => ?_) (Nat.le_refl 2) (by decide)
  rcases List.mem_cons.mp hd with rfl | hd
  · exact a4
  · rw [List.mem_singleton.mp hd]
    exact a2.mono (by decide) (by decide)
end
def spLaw (K : PySem.W.Frag) : Sp := fun vs H Q _ => ∃ (a : Addr) (ns : List Int), vs = [.ref a] ∧ SqL K H a (ns.map V.int) ∧ ns.length ≤ 63 ∧ ∀ H', Q (.bl true) H'
section
variable {P : Program} {w : World} {K : PySem.W.Frag} {mg : Str → Option Value} {base : Heap}
theorem scRefused : FnScope ["_law_case", "_law_prices", "_law_thing", "e"] ["_law_case", "_law_prices", "_law_thing"] (defScope sRefused) := ⟨rfl, rfl, rfl, by decide +kernel, rfl, by decide +kernel, by decide +kernel⟩
theorem ok_Refused {f C CS fS fB : Addr} {fd fdB : FuncData} {k : Nat} (F : Fun K "_law_refused" "_law_refused" sRefused f fd) (N : NsT K mg CS fS) (GB : FnOk P w K mg base (L2.CX P w) k fB fdB ["case", "prices", "shares"] (spBound K C CS)) (kB : PySem.W.keepIn K (.ref fB) = true) (gB : mg "bound" = some (.ref fB)) (b3B : ∃ ds, Vals [] ds ∧ Binds K fdB ["case", "prices", "shares"] ds) (B : Blt mg) : FnOkG P w K mg base CX0 (k + 1) f fd ["_law_case", "_law_prices", "_law_thing"] (spRefused K C) := by
  obtain ⟨ds3, v3, b3⟩ := b3B
  refine okG F scRefused (fun vs H Q E h => ?_) (fun cdv A outer s H vs Q E hr hgd h => ?_)
  · obtain ⟨l, x, Pr, v, d, qs, hss, tss, ps, ww, dd, rfl, _⟩ := h
    rfl
  · obtain ⟨l, x, Pr, v, d, qs, hss, tss, ps, ww, dd, rfl, hc, g, hpr, od, q⟩ := h
    refine ⟨_, pss_cons (ps_try_clauses (tb := fun W => tDrop (tCallD (spBound K C CS) [] (WE W) (tCons (tVar 0) (tCons (tVar 1) (tCons (tVar 2) tNil)))))
        (Wout := fun _ _ _ _ => False) rfl rfl scRefused.nd takes0
        (fun W pn xe tk _ => pss_one (ps_expr (by exact (pe_callD (.of GB) hr hgd (by rfl) gB kB b3 v3 (fun σ => passAt tk σ) (by exact (pa_cons (pv 0) (pa_cons (pv 1) (pa_cons (pv 2) pa_nil))))))))
        (ClausesOk.cons (ts := fun a cls d => tRet (tCB (rIsX K CS a cls d) (tCons (tVar 3) (tCons (tC (.ty "ValueError")) tNil)))) (i := 3) rfl rfl ⟨rfl, by decide, .inl N.g⟩ (fun a oe cls d pn hz hf => by exact (pss_one (ps_ret (pe_callB (call_isX N.ex hz hf) (by rfl) B.isinstance_ (by decide +kernel) (pa_cons (pv 3) (pa_cons (pe_bltn (v := .ty "ValueError") (by rfl) B.ValueError_ (by decide +kernel) rfl) pa_nil)))))) ClausesOk.nil))
      (pss_one (ps_ret pe_bl)), ?_⟩
    refine ⟨_, rfl, _, rfl, _, rfl, _, x, Pr, v, d, qs, hss, tss, ps, ww, dd, rfl, hc, g, hpr, .inr ⟨od.nn, od.dz, od.fw⟩, fun _ H' s' => ?_, fun ss es ls cb => absurd cb (by rw [od.bad]; decide)⟩
    refine ⟨true, N.nn, fun _ a0 _ => ?_, fun z => Bool.noConfusion z⟩
    exact ⟨_, rfl, .ty "ValueError", _, true, rfl, rfl, fun _ z => z, .inl rfl, N.kV, q H' s'⟩
theorem scLaw : FnScope ["_law_script", "_law_cell", "_law_left_here", "_law_parts_here", "_law_case", "_law_prices", "_law_fresh", "_law_kept"] ["_law_script"] (defScope sLaw) := ⟨rfl, rfl, rfl, by decide +kernel, rfl, by decide +kernel, by decide +kernel⟩
theorem ok_law {f C CN fI CS fB f1 f2 f3 f4 f5 f6 f7 : Addr} {fd fdI fdB fd1 fd2 fd3 fd4 fd5 fd6 fd7 : FuncData} {k : Nat} (F : Fun K "law" "law" sLaw f fd) (T : CaT K mg C fI) (GI : FnOk P w K mg base (L2.CX P w) k fI fdI ["self", "shares", "hearer", "teller"] (spCInit K C CN)) (bI : Binds K fdI ["self", "shares", "hearer", "teller"] []) (GB : FnOk P w K mg base (L2.CX P w) k fB fdB ["case", "prices", "shares"] (spBound K C CS)) (kB : PySem.W.keepIn K (.ref fB) = true) (gB : mg "bound" = some (.ref fB)) (b2B : ∃ ds, Vals [V.non] ds ∧ Binds K fdB ["case", "prices", "shares"] ds) (b3B : ∃ ds, Vals [] ds ∧ Binds K fdB ["case", "prices", "shares"] ds) (kxB : ∃ its : List Value, KBn K fdB ["case", "prices", "shares"] 2 ["shares"] (fun us ws => g3k us its ws) (fun vs zs => g3k vs [V.non] zs)) (G1 : FnOk P w K mg base CX0 k f1 fd1 ["_law_cell"] spLeft) (k1 : PySem.W.keepIn K (.ref f1) = true) (b1 : Binds K fd1 ["_law_cell"] []) (g1 : mg "_law_left" = some (.ref f1)) (G2 : FnOk P w K mg base CX0 k f2 fd2 ["_law_left_here", "_law_most_worlds", "_law_most_deeds"] (Lw.spParts K)) (k2 : PySem.W.keepIn K (.ref f2) = true) (b2 : Binds K fd2 ["_law_left_here", "_law_most_worlds", "_law_most_deeds"] []) (g2 : mg "_law_parts" = some (.ref f2)) (G3 : FnOk P w K mg base CX0 k f3 fd3 ["_law_parts_here"] (spMade K)) (k3 : PySem.W.keepIn K (.ref f3) = true) (b3 : Binds K fd3 ["_law_parts_here"] []) (g3 : mg "_law_made" = some (.ref f3)) (G4 : FnOk P w K mg base CX0 k f4 fd4 ["_law_left_here", "_law_many"] (Rs.spShares K)) (k4 : PySem.W.keepIn K (.ref f4) = true) (b4 : Binds K fd4 ["_law_left_here", "_law_many"] []) (g4 : mg "_law_shares" = some (.ref f4)) (G5 : FnOk P w K mg base CX0 k f5 fd5 ["_law_some", "_law_prices"] (spLBound K)) (k5 : PySem.W.keepIn K (.ref f5) = true) (b5 : Binds K fd5 ["_law_some", "_law_prices"] []) (g5 : mg "_law_bound" = some (.ref f5)) (G6 : FnOkG P w K mg base CX0 k f6 fd6 ["_law_case", "_law_prices", "_law_thing"] (spRefused K C)) (k6 : PySem.W.keepIn K (.ref f6) = true) (b6 : Binds K fd6 ["_law_case", "_law_prices", "_law_thing"] []) (g6 : mg "_law_refused" = some (.ref f6)) (G7 : FnOk P w K mg base CX0 k f7 fd7 ["_law_left_here", "_law_good"] (spOdd K)) (k7 : PySem.W.keepIn K (.ref f7) = true) (b7 : Binds K fd7 ["_law_left_here", "_law_good"] []) (g7 : mg "_law_odd" = some (.ref f7)) (B : Blt mg) : FnOkG P w K mg base CX0 (k + 2) f fd ["_law_script"] (spLaw K) := by
  obtain ⟨ds2, vv2, bb2⟩ := b2B
  obtain ⟨ds3, vv3, bb3⟩ := b3B
  obtain ⟨itsB, kbB⟩ := kxB
  refine okG F scLaw (fun vs H Q E h => ?_) (fun cdv A outer s H vs Q E hr hgd h => ?_)
  · obtain ⟨a, ns, rfl, _⟩ := h
    rfl
  · obtain ⟨a, ns, rfl, hS, hlen, q⟩ := h
    have hk : Room k _ := hr.mono (by omega)
    have hu : (A.deeper (envOfC "law" (defScope sLaw) s.heap.objs.size f cdv)).units + 80 < cLine := by have := hr.un; omega
    refine ⟨_, (pss_cons (ps_for PassesOwn.never rfl (pi_list (pe_op op_cat (pe_slice sl_list (pv 0) po_none (po_some pe_int)) (pe_lst (pa_cons pe_int pa_nil)))) (pg_name (i := 1) scLaw.nd rfl (.inl rfl)) (pss_cons (ps_set (i := 2) scLaw.nd rfl (.inl rfl) (pe_call G1 hk (by rfl) g1 k1 b1 .nil pass0 (pa_cons (pv 1) pa_nil)))
      (pss_cons (ps_set (i := 3) scLaw.nd rfl (.inl rfl) (pe_call G2 hk (by rfl) g2 k2 b2 .nil pass0 (pa_cons (pv 2) (pa_cons pe_int (pa_cons pe_int pa_nil)))))
      (pss_cons (ps_set (i := 4) scLaw.nd rfl (.inl rfl) (pe_make T.mkC (Rs.quiet GI) hr (by rfl) T.gC bI .nil pass0 (pa_cons (pe_ix ix_list (pv 3) pe_int (fun _ _ => rfl)) (pa_cons (pe_ix ix_list (pv 3) pe_int (fun _ _ => rfl)) (pa_cons (pe_ix ix_list (pv 3) pe_int (fun _ _ => rfl)) pa_nil)))))
      (pss_cons (ps_set (i := 5) scLaw.nd rfl (.inl rfl) (pe_call G3 hk (by rfl) g3 k3 b3 .nil pass0 (pa_cons (pv 3) pa_nil)))
      (pss_cons (ps_set (i := 6) scLaw.nd rfl (.inl rfl) (pe_call G4 hk (by rfl) g4 k4 b4 .nil pass0 (pa_cons (pv 2) (pa_cons (pe_callB call_len_seq (by rfl) B.len_ PySem.boot_len (pa_cons (pe_ix ix_list (pv 3) pe_int (fun _ _ => rfl)) pa_nil)) pa_nil))))
      (pss_cons (ps_set (i := 7) scLaw.nd rfl (.inl rfl) (pe_callB (call_reprD hgd hu) (by rfl) B.repr_ (by decide +kernel) (pa_cons (pe_lst (pa_cons (pv 5) (pa_cons (pv 6) pa_nil))) pa_nil)))
      (pss_cons (ps_if (pt_cmpR op_ne (pe_callB (call_reprD hgd hu) (by rfl) B.repr_ (by decide +kernel) (pa_cons (pe_call (Rs.quiet GB) hk (by rfl) gB kB bb2 vv2 pass0 (pa_cons (pv 4) (pa_cons (pv 5) pa_nil))) pa_nil)) (pe_callB (call_reprD hgd hu) (by rfl) B.repr_ (by decide +kernel) (pa_cons (pe_call G5 hk (by rfl) g5 k5 b5 .nil pass0 (pa_cons (pe_ix ix_list (pv 3) pe_int (fun _ _ => rfl)) (pa_cons (pv 5) pa_nil))) pa_nil)) (nomark _)) (pss_one (ps_ret pe_bl)) pss_nil)
      (pss_cons (ps_if (pt_cmpR (op_neD hk.units) (pe_call (Rs.quiet GB) hk (by rfl) gB kB bb3 vv3 pass0 (pa_cons (pv 4) (pa_cons (pv 5) (pa_cons pe_non pa_nil)))) (pe_call G5 hk (by rfl) g5 k5 b5 .nil pass0 (pa_cons (pe_ix ix_list (pv 3) pe_int (fun _ _ => rfl)) (pa_cons (pv 5) pa_nil))) (nomark _)) (pss_one (ps_ret pe_bl)) pss_nil)
      (pss_cons (ps_if (pt_cmpR (op_neD hk.units) (pe_callN (Rs.quiet GB) hk (by rfl) gB kB kbB pass0 (pa_cons (pv 4) (pa_cons (pv 5) pa_nil)) (pk_cons (pv 6) pk_nil)) (pe_call G5 hk (by rfl) g5 k5 b5 .nil pass0 (pa_cons (pv 6) (pa_cons (pv 5) pa_nil))) (nomark _)) (pss_one (ps_ret pe_bl)) pss_nil)
      (pss_one (ps_if (PW.pt (pw_or (pt_not (pt_val (pe_callG G6 hk hgd (by rfl) g6 k6 b6 .nil pass0 (pa_cons (pv 4) (pa_cons (pv 5) (pa_cons (pe_call G7 hk (by rfl) g7 k7 b7 .nil pass0 (pa_cons (pv 2) (pa_cons (pv 6) pa_nil))) pa_nil)))))) (pw_or1 (pt_cmpR op_ne (pe_callB (call_reprD hgd hu) (by rfl) B.repr_ (by decide +kernel) (pa_cons (pe_lst (pa_cons (pv 5) (pa_cons (pv 6) pa_nil))) pa_nil)) (pv 7) (nomark _))))) (pss_one (ps_ret pe_bl)) pss_nil))))))))))))
      (pss_one (ps_ret pe_bl))), ?_⟩
    refine ⟨.ref a, rfl, 16, rfl, a, ns.map V.int, rfl, hS, fun p8 n8 => ?_⟩
    have z8 := same_new n8 (.lst (cutV (ns.map V.int) none (some 16)))
    refine ⟨(by show 1 ≤ sizeLine; decide), fun p9 n9 => ?_⟩
    have z9 := same_new n9 (.lst [V.int 4])
    refine ⟨p8, p9, _, _, rfl, rfl, z9 _ _ upd_same, upd_same, ?_, fun L nL => ?_⟩
    · have h1 := cutV_length (ns.map V.int) none (some 16)
      rw [List.length_map] at h1
      rw [List.length_singleton]
      exact Nat.le_of_lt (small1000 (by omega))
    refine ⟨L, rfl, ⟨_, SqL.of upd_same⟩, for_list (K := K) (a := L) (xs := cutV (ns.map V.int) none (some 16) ++ [V.int 4]) (fun i σ H' => ∃ y1 y2 y3 y4 y5 y6 y7 : Option V, σ = [some (.ref a), y1, y2, y3, y4, y5, y6, y7] ∧ H' L = some (.lst (cutV (ns.map V.int) none (some 16) ++ [V.int 4])))
      ⟨_, _, _, _, _, _, _, rfl, upd_same⟩ (fun i σ H' _ ⟨_, _, _, _, _, _, _, _, e⟩ => SqL.of e) ?_ ?_⟩
    rotate_left
    · rintro σ H1 ⟨y1, y2, y3, y4, y5, y6, y7, rfl, _⟩
      exact q _
    rintro i xx σ H0 hi ⟨y1, y2, y3, y4, y5, y6, y7, rfl, hL⟩
    obtain ⟨c, rfl⟩ := int_of hi
    clear hi
    generalize cutV (ns.map V.int) none (some 16) ++ [V.int 4] = xs at hL ⊢
    refine ⟨_, rfl, c, rfl, fun l n nl => ?_⟩
    have hLl : L ≠ l := ne_of_none hL nl
    have hl1 : (upd H0 l (.lst [.int n])) l = some (.lst [.int n]) := upd_same
    have hL1 : (upd H0 l (.lst [.int n])) L = some (.lst xs) := by rw [upd_ne hLl]; exact hL
    generalize upd H0 l (.lst [.int n]) = H1 at hl1 hL1 ⊢
    clear hL nl
    refine ⟨_, rfl, l, n, 5, 4, rfl, hl1, by decide, by decide, by decide, by decide, fun P0 qs hss tss ww dd z2 H2 sb2 hl2 PA2 g gw5 gd4 fP nP => ?_⟩
    have hL2 := sb2 _ _ hLl hL1
    have w1 := g.w1
    have w5 := g.w5
    obtain ⟨A0, B0, C0, cs, rh, rt, e1, e2, e3, e4, e5⟩ := id PA2
    have lc : cs.length = ww := by rw [e3.len, g.sh.1]
    refine ⟨_, rfl, P0, _, 0, .ref A0, rfl, rfl, SqL.of ((Same.refl H2) _ _ e1), atI_nat (j := 0) rfl, _, rfl, P0, _, 1, .ref B0, rfl, rfl, SqL.of ((Same.refl H2) _ _ e1), atI_nat (j := 1) rfl, _, rfl, P0, _, 2, .ref C0, rfl, rfl, SqL.of ((Same.refl H2) _ _ e1), atI_nat (j := 2) rfl, ?_⟩
    refine mk_caseN (n := 8) (by decide) (CN := CN) e2 e3 e4 e5 g fun x H3 s3 nx hc => ?_
    refine ⟨_, rfl, P0, qs, hss, tss, ww, dd, rfl, PA2.same s3, g, gd4, fun Pr W I cw ps ri iss H4 s4 _ _ _ _ _ _ hPr hW hfw lp hI => ?_⟩
    have s24 := s3.trans s4
    have hl4 := s24 _ _ hl2
    have hL4 := s24 _ _ hL2
    have pr4 : PrD K H4 Pr W I cw ps ri iss ww dd := ⟨hPr, hW, hfw, lp, hI⟩
    refine ⟨_, rfl, _, rfl, P0, _, 0, .ref A0, rfl, rfl, SqL.of (s24 _ _ e1), atI_nat (j := 0) rfl, A0, cs, rfl, .inl (SqL.of (s24 _ _ e2)), l, z2, cs.length, rfl, hl4, by omega, by omega, fun Fr cf ss z5 H5 sb5 hl5 nF hFl hF ff ro => ?_⟩
    rw [lc] at ro
    have hL5 := sb5 _ _ hLl hL4
    have pr5 := pr4.but hl4 sb5
    have hc5 := IsCase.but (hc.same s4) hl4 sb5
    have PA5 := (PA2.same s24).but hl4 sb5
    clear e1 e2 e3 e4 e5 PA2 hPr hW hfw hI pr4 hL4 hl4 sb5 hc hL2 hl2 hL1 hl1 sb2 s24 s3 s4
    obtain ⟨A0, B0, C0, cs, rh, rt, e1, e2, e3, e4, e5⟩ := id PA5
    obtain ⟨sh1, sh2, sh3⟩ := sm_line (pr5.sm g.w5 gd4 (frn_bd ff) ro.1) (by decide)
    have dpF : ∀ H', Same H5 H' → Dp K H' (.ref Fr) (dS ss) := fun H' s => .lst (SqL.of (s _ _ hF)) (ff.same s).dp
    refine ⟨_, rfl, _, rfl, (by show 2 ≤ sizeLine; decide), fun R1 nR1 => ?_⟩
    have s6 := same_new nR1 (.lst [V.ref Pr, V.ref Fr])
    have d6 : Dp K (upd H5 R1 (.lst [V.ref Pr, V.ref Fr])) (.ref R1) (D0 ps ss iss) := .lst (SqL.of upd_same) (.cons (pr5.same s6).dp (.cons (dpF _ s6) .nil))
    refine ⟨_, D0 ps ss iss, rfl, .inl d6, sh1, sh2, sh3, ?_⟩
    generalize upd H5 R1 (.lst [V.ref Pr, V.ref Fr]) = H6 at s6 d6 ⊢
    have pr6 := pr5.same s6
    have hc6 := hc5.same s6
    have a6 := s6 _ _ e2
    have f6 := e3.same s6
    have s26 := s6
    have bd := bd_dot qs ps (frn_bd f6) (frn_bd pr6.f)
    have smq : Sm (dR (dotq qs ps)) 5 1300 := (sm_q (bd.mono (show 1 + 109 * qs.length ≤ 600 by rw [g.sh.1]; omega)) (by decide) (by decide)).mono (by decide) (by decide)
    obtain ⟨sq1, sq2, sq3⟩ := sm_line smq (by decide)
    refine ⟨_, rfl, _, rfl, (fun _ => False), x, Pr, .non, dS qs, qs, hss, tss, ps, ww, dd, rfl, hc6.same (Same.refl H6), g, (pr6.same (Same.refl H6)).t, .inl ⟨rfl, rfl⟩, (fun hb => absurd hb (by rw [shRow_good g.sh]; decide)), fun ss' es _ _ p1 H7 s7 hp1 => ?_⟩
    cases dS_inj es
    refine ⟨_, dR (dotq qs ps), rfl, .inl (dp_r hp1), sq1, sq2, sq3, ?_⟩
    refine ⟨_, rfl, P0, _, 0, .ref A0, rfl, rfl, SqL.of ((s26.trans s7) _ _ e1), atI_nat (j := 0) rfl, _, rfl, A0, Pr, cs, qs, ps, ww, rfl, SqL.of ((s7) _ _ a6), f6.same s7, g.sh.1, w5, (pr6.same s7).t, fun p2 H8 s8 hp2 _ => ?_⟩
    refine ⟨_, dR (dotq qs ps), rfl, .inl (dp_r hp2), sq1, sq2, sq3, rfl, _, rfl, ?_⟩
    rw [decide_eq_true rfl]
    refine iteF ?_
    have s68 := s7.trans s8
    refine ⟨_, rfl, _, rfl, (fun _ => False), x, Pr, .non, dS qs, qs, hss, tss, ps, ww, dd, rfl, hc6.same s68, g, (pr6.same s68).t, .inl ⟨rfl, rfl⟩, (fun hb => absurd hb (by rw [shRow_good g.sh]; decide)), fun ss' es _ _ p3 H9 s9 hp3 => ?_⟩
    cases dS_inj es
    have s69 := s68.trans s9
    refine ⟨_, rfl, P0, _, 0, .ref A0, rfl, rfl, SqL.of ((s26.trans s69) _ _ e1), atI_nat (j := 0) rfl, _, rfl, A0, Pr, cs, qs, ps, ww, rfl, SqL.of ((s69) _ _ a6), f6.same s69, g.sh.1, w5, (pr6.same s69).t, fun p4 Ha sa hp4 _ => ?_⟩
    refine ⟨dR (dotq qs ps), dR (dotq qs ps), dp_r (seqT sa hp3), dp_r hp4, dR_shaped _, dR_shaped _, _, rfl, ?_⟩
    rw [eqv_dR, decide_eq_true rfl]
    refine iteF ?_
    have s6a := s69.trans sa
    have s5a := s6.trans s6a
    refine ⟨_, rfl, _, rfl, _, rfl, rfl, rfl, (fun _ => False), x, Pr, .ref Fr, dS ss, qs, hss, tss, ps, ww, dd, rfl, hc6.same s6a, g, (pr6.same s6a).t, .inr ⟨(fun e => by cases e), .lst (s5a _ _ hF) id (frn_dz (ff.same s5a)), few_dR fun q hq => (frn_bd ff q hq).mono (by decide)⟩, (fun hb => absurd hb (by rw [shRow_good ro]; decide)), fun ss' es _ _ p5 Hb sb hp5 => ?_⟩
    cases dS_inj es
    have s6b := s6a.trans sb
    have s5b := s6.trans s6b
    refine ⟨_, rfl, _, rfl, Fr, Pr, cf, ss, ps, ww, rfl, SqL.of (s5b _ _ hF), ff.same s5b, ro.1, w5, (pr6.same s6b).t, fun p6 Hc sc hp6 _ => ?_⟩
    refine ⟨dR (dotq ss ps), dR (dotq ss ps), dp_r (seqT sc hp5), dp_r hp6, dR_shaped _, dR_shaped _, _, rfl, ?_⟩
    rw [eqv_dR, decide_eq_true rfl]
    refine iteF ?_
    have s6c := s6b.trans sc
    have s5c := s6.trans s6c
    have hlc := s5c _ _ hl5
    refine ⟨_, rfl, _, rfl, _, rfl, _, rfl, l, Fr, z5, cf, ss, ww, rfl, hlc, s5c _ _ hF, ff.same s5c, ro, w1, w5, fun v d z6 Hd sbd hld od => ?_⟩
    have hLd := sbd _ _ hLl (s5c _ _ hL5)
    have prd := (pr6.same s6c).but hlc sbd
    have hcd := IsCase.but (hc6.same s6c) hlc sbd
    have hFd := sbd _ _ hFl (s5c _ _ hF)
    have ffd := (ff.same s5c).keep (sbd.tup hlc)
    refine ⟨l, x, Pr, v, d, qs, hss, tss, ps, ww, dd, rfl, hcd, g, prd.t, od, fun He se => ⟨_, rfl, iteF ?_⟩⟩
    refine ⟨_, rfl, _, rfl, (by show 2 ≤ sizeLine; decide), fun R2 nR2 => ?_⟩
    have sf := same_new nR2 (.lst [V.ref Pr, V.ref Fr])
    have sdf := se.trans sf
    have df : Dp K (upd He R2 (.lst [V.ref Pr, V.ref Fr])) (.ref R2) (D0 ps ss iss) := .lst (SqL.of upd_same) (.cons (prd.same sdf).dp (.cons (.lst (SqL.of (sdf _ _ hFd)) (ffd.same sdf).dp) .nil))
    refine ⟨_, D0 ps ss iss, rfl, .inl df, sh1, sh2, sh3, _, rfl, rfl, _, rfl, ?_⟩
    rw [decide_eq_true rfl]
    refine iteF ?_
    exact ⟨_, _, _, _, _, _, _, rfl, sdf _ _ hLd⟩
end
end K35

set_option Elab.async false
set_option linter.all false
set_option maxRecDepth 100000
set_option maxHeartbeats 8000000
namespace K35
open PySem PySem.Spec PyProof.Rows L2 BX EXB Co Ru
open Dz Cs Hr
theorem all_mk {l : PySem.W.OpenLaw} {w : World} {K : PySem.W.Frag} {h : Heap} {mg : Str → Option Value} {fa f_d_is_whole f_d_is_ratio f_d_plus f_d_lowest f_d_divisor f_d_is_list_of f_d_is_share f_d_is_ratio_row f_d_wrong_row f_d_copied_rows f_d_check_shares f_d_check_gains f_d_times f_d_is_share_row f_d_law_left f_d_law_digit f_d_law_low f_d_law_plus f_d_law_less f_d_law_times f_d_law_under f_d_law_shares f_d_law_gain f_d_law_gains f_d_law_parts f_d_law_due_price f_d_law_bound f_d_law_made f_d_law_odd f_d_law_refused f_d_bound T_d_bound f_d_law f_d_total T_d_total C_N f_i_N C_C f_m_C_init C_S f_i_S f_m_C_worlds f_m_C_shares : Addr} (X : K.In h) (G : h.Ns mainGlobals mg) (hfa : mg "law" = some (.ref fa)) {oT_d_bound : Obj} {nT_d_bound : Nat} {oT_d_total : Obj} {nT_d_total : Nat} {nm_N q_N : Str} {N_N : Addr} {bs_N : List Value} {sn_N : List Str} {su_N : List Value} {ab_N : Bool} {co_N : Option Bool} {dd_N : Option Addr} {m0_N m1_N m2_N m3_N m5_N : Option Value} {tk5 : Tok} {tk6 : Tok} {nm_S q_S : Str} {N_S : Addr} {bs_S : List Value} {sn_S : List Str} {su_S : List Value} {ab_S : Bool} {co_S : Option Bool} {dd_S : Option Addr} {m0_S m1_S m2_S m3_S m5_S : Option Value}
    {od_d_is_whole an_d_is_whole : Option Addr} {sl_d_is_whole : Array (Option Value)} {oc_d_is_whole kV_d_is_whole dc_d_is_whole pm_d_is_whole cd_d_is_whole ct_d_is_whole : Value}
    {od_d_is_ratio an_d_is_ratio : Option Addr} {sl_d_is_ratio : Array (Option Value)} {oc_d_is_ratio kV_d_is_ratio dc_d_is_ratio pm_d_is_ratio cd_d_is_ratio ct_d_is_ratio : Value}
    {od_d_plus an_d_plus : Option Addr} {sl_d_plus : Array (Option Value)} {oc_d_plus kV_d_plus dc_d_plus pm_d_plus cd_d_plus ct_d_plus : Value}
    {od_d_lowest an_d_lowest : Option Addr} {sl_d_lowest : Array (Option Value)} {oc_d_lowest kV_d_lowest dc_d_lowest pm_d_lowest cd_d_lowest ct_d_lowest : Value}
    {od_d_divisor an_d_divisor : Option Addr} {sl_d_divisor : Array (Option Value)} {oc_d_divisor kV_d_divisor dc_d_divisor pm_d_divisor cd_d_divisor ct_d_divisor : Value}
    {od_d_is_list_of an_d_is_list_of : Option Addr} {sl_d_is_list_of : Array (Option Value)} {oc_d_is_list_of kV_d_is_list_of dc_d_is_list_of pm_d_is_list_of cd_d_is_list_of ct_d_is_list_of : Value}
    {od_d_is_share an_d_is_share : Option Addr} {sl_d_is_share : Array (Option Value)} {oc_d_is_share kV_d_is_share dc_d_is_share pm_d_is_share cd_d_is_share ct_d_is_share : Value}
    {od_d_is_ratio_row an_d_is_ratio_row : Option Addr} {sl_d_is_ratio_row : Array (Option Value)} {oc_d_is_ratio_row kV_d_is_ratio_row dc_d_is_ratio_row pm_d_is_ratio_row cd_d_is_ratio_row ct_d_is_ratio_row : Value}
    {od_d_wrong_row an_d_wrong_row : Option Addr} {sl_d_wrong_row : Array (Option Value)} {oc_d_wrong_row kV_d_wrong_row dc_d_wrong_row pm_d_wrong_row cd_d_wrong_row ct_d_wrong_row : Value}
    {od_d_copied_rows an_d_copied_rows : Option Addr} {sl_d_copied_rows : Array (Option Value)} {oc_d_copied_rows kV_d_copied_rows dc_d_copied_rows pm_d_copied_rows cd_d_copied_rows ct_d_copied_rows : Value}
    {od_d_check_shares an_d_check_shares : Option Addr} {sl_d_check_shares : Array (Option Value)} {oc_d_check_shares kV_d_check_shares dc_d_check_shares pm_d_check_shares cd_d_check_shares ct_d_check_shares : Value}
    {od_d_check_gains an_d_check_gains : Option Addr} {sl_d_check_gains : Array (Option Value)} {oc_d_check_gains kV_d_check_gains dc_d_check_gains pm_d_check_gains cd_d_check_gains ct_d_check_gains : Value}
    {od_d_times an_d_times : Option Addr} {sl_d_times : Array (Option Value)} {oc_d_times kV_d_times dc_d_times pm_d_times cd_d_times ct_d_times : Value}
    {od_d_is_share_row an_d_is_share_row : Option Addr} {sl_d_is_share_row : Array (Option Value)} {oc_d_is_share_row kV_d_is_share_row dc_d_is_share_row pm_d_is_share_row cd_d_is_share_row ct_d_is_share_row : Value}
    {od_d_law_left an_d_law_left : Option Addr} {sl_d_law_left : Array (Option Value)} {oc_d_law_left kV_d_law_left dc_d_law_left pm_d_law_left cd_d_law_left ct_d_law_left : Value}
    {od_d_law_digit an_d_law_digit : Option Addr} {sl_d_law_digit : Array (Option Value)} {oc_d_law_digit kV_d_law_digit dc_d_law_digit pm_d_law_digit cd_d_law_digit ct_d_law_digit : Value}
    {od_d_law_low an_d_law_low : Option Addr} {sl_d_law_low : Array (Option Value)} {oc_d_law_low kV_d_law_low dc_d_law_low pm_d_law_low cd_d_law_low ct_d_law_low : Value}
    {od_d_law_plus an_d_law_plus : Option Addr} {sl_d_law_plus : Array (Option Value)} {oc_d_law_plus kV_d_law_plus dc_d_law_plus pm_d_law_plus cd_d_law_plus ct_d_law_plus : Value}
    {od_d_law_less an_d_law_less : Option Addr} {sl_d_law_less : Array (Option Value)} {oc_d_law_less kV_d_law_less dc_d_law_less pm_d_law_less cd_d_law_less ct_d_law_less : Value}
    {od_d_law_times an_d_law_times : Option Addr} {sl_d_law_times : Array (Option Value)} {oc_d_law_times kV_d_law_times dc_d_law_times pm_d_law_times cd_d_law_times ct_d_law_times : Value}
    {od_d_law_under an_d_law_under : Option Addr} {sl_d_law_under : Array (Option Value)} {oc_d_law_under kV_d_law_under dc_d_law_under pm_d_law_under cd_d_law_under ct_d_law_under : Value}
    {od_d_law_shares an_d_law_shares : Option Addr} {sl_d_law_shares : Array (Option Value)} {oc_d_law_shares kV_d_law_shares dc_d_law_shares pm_d_law_shares cd_d_law_shares ct_d_law_shares : Value}
    {od_d_law_gain an_d_law_gain : Option Addr} {sl_d_law_gain : Array (Option Value)} {oc_d_law_gain kV_d_law_gain dc_d_law_gain pm_d_law_gain cd_d_law_gain ct_d_law_gain : Value}
    {od_d_law_gains an_d_law_gains : Option Addr} {sl_d_law_gains : Array (Option Value)} {oc_d_law_gains kV_d_law_gains dc_d_law_gains pm_d_law_gains cd_d_law_gains ct_d_law_gains : Value}
    {od_d_law_parts an_d_law_parts : Option Addr} {sl_d_law_parts : Array (Option Value)} {oc_d_law_parts kV_d_law_parts dc_d_law_parts pm_d_law_parts cd_d_law_parts ct_d_law_parts : Value}
    {od_d_law_due_price an_d_law_due_price : Option Addr} {sl_d_law_due_price : Array (Option Value)} {oc_d_law_due_price kV_d_law_due_price dc_d_law_due_price pm_d_law_due_price cd_d_law_due_price ct_d_law_due_price : Value}
    {od_d_law_bound an_d_law_bound : Option Addr} {sl_d_law_bound : Array (Option Value)} {oc_d_law_bound kV_d_law_bound dc_d_law_bound pm_d_law_bound cd_d_law_bound ct_d_law_bound : Value}
    {od_d_law_made an_d_law_made : Option Addr} {sl_d_law_made : Array (Option Value)} {oc_d_law_made kV_d_law_made dc_d_law_made pm_d_law_made cd_d_law_made ct_d_law_made : Value}
    {od_d_law_odd an_d_law_odd : Option Addr} {sl_d_law_odd : Array (Option Value)} {oc_d_law_odd kV_d_law_odd dc_d_law_odd pm_d_law_odd cd_d_law_odd ct_d_law_odd : Value}
    {od_d_law_refused an_d_law_refused : Option Addr} {sl_d_law_refused : Array (Option Value)} {oc_d_law_refused kV_d_law_refused dc_d_law_refused pm_d_law_refused cd_d_law_refused ct_d_law_refused : Value}
    {od_d_bound an_d_bound : Option Addr} {sl_d_bound : Array (Option Value)} {oc_d_bound kV_d_bound dc_d_bound pm_d_bound cd_d_bound ct_d_bound : Value}
    {od_d_law an_d_law : Option Addr} {sl_d_law : Array (Option Value)} {oc_d_law kV_d_law dc_d_law pm_d_law cd_d_law ct_d_law : Value}
    {od_d_total an_d_total : Option Addr} {sl_d_total : Array (Option Value)} {oc_d_total kV_d_total dc_d_total pm_d_total cd_d_total ct_d_total : Value}
    {od_i_N an_i_N : Option Addr} {sl_i_N : Array (Option Value)} {oc_i_N kV_i_N dc_i_N pm_i_N cd_i_N ct_i_N : Value}
    {od_m_C_init an_m_C_init : Option Addr} {sl_m_C_init : Array (Option Value)} {oc_m_C_init kV_m_C_init dc_m_C_init pm_m_C_init cd_m_C_init ct_m_C_init : Value}
    {od_i_S an_i_S : Option Addr} {sl_i_S : Array (Option Value)} {oc_i_S kV_i_S dc_i_S pm_i_S cd_i_S ct_i_S : Value}
    {od_m_C_worlds an_m_C_worlds : Option Addr} {sl_m_C_worlds : Array (Option Value)} {oc_m_C_worlds kV_m_C_worlds dc_m_C_worlds pm_m_C_worlds cd_m_C_worlds ct_m_C_worlds : Value}
    {od_m_C_shares an_m_C_shares : Option Addr} {sl_m_C_shares : Array (Option Value)} {oc_m_C_shares kV_m_C_shares dc_m_C_shares pm_m_C_shares cd_m_C_shares ct_m_C_shares : Value}
    (a_d_is_whole : PySem.W.nsIn K mainGlobals "is_whole" = some (some (.ref f_d_is_whole)))
    (l_d_is_whole : K.lookup f_d_is_whole = some ⟨oc_d_is_whole, od_d_is_whole, .func (PySem.W.fnOf "is_whole" "is_whole" (defArgs sWhole) (defBody sWhole) (defScope sWhole) .none kV_d_is_whole dc_d_is_whole pm_d_is_whole an_d_is_whole cd_d_is_whole ct_d_is_whole), sl_d_is_whole⟩)
    (c_d_is_whole : PySem.W.codeIn K cd_d_is_whole "is_whole" = true)
    (k_d_is_whole : PySem.W.keepIn K (.ref f_d_is_whole) = true)
    (a_d_is_ratio : PySem.W.nsIn K mainGlobals "is_ratio" = some (some (.ref f_d_is_ratio)))
    (l_d_is_ratio : K.lookup f_d_is_ratio = some ⟨oc_d_is_ratio, od_d_is_ratio, .func (PySem.W.fnOf "is_ratio" "is_ratio" (defArgs sIsR) (defBody sIsR) (defScope sIsR) .none kV_d_is_ratio dc_d_is_ratio pm_d_is_ratio an_d_is_ratio cd_d_is_ratio ct_d_is_ratio), sl_d_is_ratio⟩)
    (c_d_is_ratio : PySem.W.codeIn K cd_d_is_ratio "is_ratio" = true)
    (k_d_is_ratio : PySem.W.keepIn K (.ref f_d_is_ratio) = true)
    (a_d_plus : PySem.W.nsIn K mainGlobals "plus" = some (some (.ref f_d_plus)))
    (l_d_plus : K.lookup f_d_plus = some ⟨oc_d_plus, od_d_plus, .func (PySem.W.fnOf "plus" "plus" (defArgs sPlus) (defBody sPlus) (defScope sPlus) .none kV_d_plus dc_d_plus pm_d_plus an_d_plus cd_d_plus ct_d_plus), sl_d_plus⟩)
    (c_d_plus : PySem.W.codeIn K cd_d_plus "plus" = true)
    (k_d_plus : PySem.W.keepIn K (.ref f_d_plus) = true)
    (a_d_lowest : PySem.W.nsIn K mainGlobals "lowest" = some (some (.ref f_d_lowest)))
    (l_d_lowest : K.lookup f_d_lowest = some ⟨oc_d_lowest, od_d_lowest, .func (PySem.W.fnOf "lowest" "lowest" (defArgs sLowest) (defBody sLowest) (defScope sLowest) .none kV_d_lowest dc_d_lowest pm_d_lowest an_d_lowest cd_d_lowest ct_d_lowest), sl_d_lowest⟩)
    (c_d_lowest : PySem.W.codeIn K cd_d_lowest "lowest" = true)
    (k_d_lowest : PySem.W.keepIn K (.ref f_d_lowest) = true)
    (a_d_divisor : PySem.W.nsIn K mainGlobals "divisor" = some (some (.ref f_d_divisor)))
    (l_d_divisor : K.lookup f_d_divisor = some ⟨oc_d_divisor, od_d_divisor, .func (PySem.W.fnOf "divisor" "divisor" (defArgs sDiv) (defBody sDiv) (defScope sDiv) .none kV_d_divisor dc_d_divisor pm_d_divisor an_d_divisor cd_d_divisor ct_d_divisor), sl_d_divisor⟩)
    (c_d_divisor : PySem.W.codeIn K cd_d_divisor "divisor" = true)
    (k_d_divisor : PySem.W.keepIn K (.ref f_d_divisor) = true)
    (a_d_is_list_of : PySem.W.nsIn K mainGlobals "is_list_of" = some (some (.ref f_d_is_list_of)))
    (l_d_is_list_of : K.lookup f_d_is_list_of = some ⟨oc_d_is_list_of, od_d_is_list_of, .func (PySem.W.fnOf "is_list_of" "is_list_of" (defArgs sListOf) (defBody sListOf) (defScope sListOf) .none kV_d_is_list_of dc_d_is_list_of pm_d_is_list_of an_d_is_list_of cd_d_is_list_of ct_d_is_list_of), sl_d_is_list_of⟩)
    (c_d_is_list_of : PySem.W.codeIn K cd_d_is_list_of "is_list_of" = true)
    (k_d_is_list_of : PySem.W.keepIn K (.ref f_d_is_list_of) = true)
    (a_d_is_share : PySem.W.nsIn K mainGlobals "is_share" = some (some (.ref f_d_is_share)))
    (l_d_is_share : K.lookup f_d_is_share = some ⟨oc_d_is_share, od_d_is_share, .func (PySem.W.fnOf "is_share" "is_share" (defArgs sShare) (defBody sShare) (defScope sShare) .none kV_d_is_share dc_d_is_share pm_d_is_share an_d_is_share cd_d_is_share ct_d_is_share), sl_d_is_share⟩)
    (c_d_is_share : PySem.W.codeIn K cd_d_is_share "is_share" = true)
    (k_d_is_share : PySem.W.keepIn K (.ref f_d_is_share) = true)
    (a_d_is_ratio_row : PySem.W.nsIn K mainGlobals "is_ratio_row" = some (some (.ref f_d_is_ratio_row)))
    (l_d_is_ratio_row : K.lookup f_d_is_ratio_row = some ⟨oc_d_is_ratio_row, od_d_is_ratio_row, .func (PySem.W.fnOf "is_ratio_row" "is_ratio_row" (defArgs sRRow) (defBody sRRow) (defScope sRRow) .none kV_d_is_ratio_row dc_d_is_ratio_row pm_d_is_ratio_row an_d_is_ratio_row cd_d_is_ratio_row ct_d_is_ratio_row), sl_d_is_ratio_row⟩)
    (c_d_is_ratio_row : PySem.W.codeIn K cd_d_is_ratio_row "is_ratio_row" = true)
    (k_d_is_ratio_row : PySem.W.keepIn K (.ref f_d_is_ratio_row) = true)
    (a_d_wrong_row : PySem.W.nsIn K mainGlobals "wrong_row" = some (some (.ref f_d_wrong_row)))
    (l_d_wrong_row : K.lookup f_d_wrong_row = some ⟨oc_d_wrong_row, od_d_wrong_row, .func (PySem.W.fnOf "wrong_row" "wrong_row" (defArgs sWrong) (defBody sWrong) (defScope sWrong) .none kV_d_wrong_row dc_d_wrong_row pm_d_wrong_row an_d_wrong_row cd_d_wrong_row ct_d_wrong_row), sl_d_wrong_row⟩)
    (c_d_wrong_row : PySem.W.codeIn K cd_d_wrong_row "wrong_row" = true)
    (k_d_wrong_row : PySem.W.keepIn K (.ref f_d_wrong_row) = true)
    (a_d_copied_rows : PySem.W.nsIn K mainGlobals "copied_rows" = some (some (.ref f_d_copied_rows)))
    (l_d_copied_rows : K.lookup f_d_copied_rows = some ⟨oc_d_copied_rows, od_d_copied_rows, .func (PySem.W.fnOf "copied_rows" "copied_rows" (defArgs sCopied) (defBody sCopied) (defScope sCopied) .none kV_d_copied_rows dc_d_copied_rows pm_d_copied_rows an_d_copied_rows cd_d_copied_rows ct_d_copied_rows), sl_d_copied_rows⟩)
    (c_d_copied_rows : PySem.W.codeIn K cd_d_copied_rows "copied_rows" = true)
    (k_d_copied_rows : PySem.W.keepIn K (.ref f_d_copied_rows) = true)
    (a_d_check_shares : PySem.W.nsIn K mainGlobals "check_shares" = some (some (.ref f_d_check_shares)))
    (l_d_check_shares : K.lookup f_d_check_shares = some ⟨oc_d_check_shares, od_d_check_shares, .func (PySem.W.fnOf "check_shares" "check_shares" (defArgs sChkS) (defBody sChkS) (defScope sChkS) .none kV_d_check_shares dc_d_check_shares pm_d_check_shares an_d_check_shares cd_d_check_shares ct_d_check_shares), sl_d_check_shares⟩)
    (c_d_check_shares : PySem.W.codeIn K cd_d_check_shares "check_shares" = true)
    (k_d_check_shares : PySem.W.keepIn K (.ref f_d_check_shares) = true)
    (a_d_check_gains : PySem.W.nsIn K mainGlobals "check_gains" = some (some (.ref f_d_check_gains)))
    (l_d_check_gains : K.lookup f_d_check_gains = some ⟨oc_d_check_gains, od_d_check_gains, .func (PySem.W.fnOf "check_gains" "check_gains" (defArgs sChkG) (defBody sChkG) (defScope sChkG) .none kV_d_check_gains dc_d_check_gains pm_d_check_gains an_d_check_gains cd_d_check_gains ct_d_check_gains), sl_d_check_gains⟩)
    (c_d_check_gains : PySem.W.codeIn K cd_d_check_gains "check_gains" = true)
    (k_d_check_gains : PySem.W.keepIn K (.ref f_d_check_gains) = true)
    (a_d_times : PySem.W.nsIn K mainGlobals "times" = some (some (.ref f_d_times)))
    (l_d_times : K.lookup f_d_times = some ⟨oc_d_times, od_d_times, .func (PySem.W.fnOf "times" "times" (defArgs sTimes) (defBody sTimes) (defScope sTimes) .none kV_d_times dc_d_times pm_d_times an_d_times cd_d_times ct_d_times), sl_d_times⟩)
    (c_d_times : PySem.W.codeIn K cd_d_times "times" = true)
    (k_d_times : PySem.W.keepIn K (.ref f_d_times) = true)
    (a_d_is_share_row : PySem.W.nsIn K mainGlobals "is_share_row" = some (some (.ref f_d_is_share_row)))
    (l_d_is_share_row : K.lookup f_d_is_share_row = some ⟨oc_d_is_share_row, od_d_is_share_row, .func (PySem.W.fnOf "is_share_row" "is_share_row" (defArgs sShRow) (defBody sShRow) (defScope sShRow) .none kV_d_is_share_row dc_d_is_share_row pm_d_is_share_row an_d_is_share_row cd_d_is_share_row ct_d_is_share_row), sl_d_is_share_row⟩)
    (c_d_is_share_row : PySem.W.codeIn K cd_d_is_share_row "is_share_row" = true)
    (k_d_is_share_row : PySem.W.keepIn K (.ref f_d_is_share_row) = true)
    (a_d_law_left : PySem.W.nsIn K mainGlobals "_law_left" = some (some (.ref f_d_law_left)))
    (l_d_law_left : K.lookup f_d_law_left = some ⟨oc_d_law_left, od_d_law_left, .func (PySem.W.fnOf "_law_left" "_law_left" (defArgs sLeft) (defBody sLeft) (defScope sLeft) .none kV_d_law_left dc_d_law_left pm_d_law_left an_d_law_left cd_d_law_left ct_d_law_left), sl_d_law_left⟩)
    (c_d_law_left : PySem.W.codeIn K cd_d_law_left "_law_left" = true)
    (k_d_law_left : PySem.W.keepIn K (.ref f_d_law_left) = true)
    (a_d_law_digit : PySem.W.nsIn K mainGlobals "_law_digit" = some (some (.ref f_d_law_digit)))
    (l_d_law_digit : K.lookup f_d_law_digit = some ⟨oc_d_law_digit, od_d_law_digit, .func (PySem.W.fnOf "_law_digit" "_law_digit" (defArgs sDigit) (defBody sDigit) (defScope sDigit) .none kV_d_law_digit dc_d_law_digit pm_d_law_digit an_d_law_digit cd_d_law_digit ct_d_law_digit), sl_d_law_digit⟩)
    (c_d_law_digit : PySem.W.codeIn K cd_d_law_digit "_law_digit" = true)
    (k_d_law_digit : PySem.W.keepIn K (.ref f_d_law_digit) = true)
    (a_d_law_low : PySem.W.nsIn K mainGlobals "_law_low" = some (some (.ref f_d_law_low)))
    (l_d_law_low : K.lookup f_d_law_low = some ⟨oc_d_law_low, od_d_law_low, .func (PySem.W.fnOf "_law_low" "_law_low" (defArgs sLow) (defBody sLow) (defScope sLow) .none kV_d_law_low dc_d_law_low pm_d_law_low an_d_law_low cd_d_law_low ct_d_law_low), sl_d_law_low⟩)
    (c_d_law_low : PySem.W.codeIn K cd_d_law_low "_law_low" = true)
    (k_d_law_low : PySem.W.keepIn K (.ref f_d_law_low) = true)
    (a_d_law_plus : PySem.W.nsIn K mainGlobals "_law_plus" = some (some (.ref f_d_law_plus)))
    (l_d_law_plus : K.lookup f_d_law_plus = some ⟨oc_d_law_plus, od_d_law_plus, .func (PySem.W.fnOf "_law_plus" "_law_plus" (defArgs sLPlus) (defBody sLPlus) (defScope sLPlus) .none kV_d_law_plus dc_d_law_plus pm_d_law_plus an_d_law_plus cd_d_law_plus ct_d_law_plus), sl_d_law_plus⟩)
    (c_d_law_plus : PySem.W.codeIn K cd_d_law_plus "_law_plus" = true)
    (k_d_law_plus : PySem.W.keepIn K (.ref f_d_law_plus) = true)
    (a_d_law_less : PySem.W.nsIn K mainGlobals "_law_less" = some (some (.ref f_d_law_less)))
    (l_d_law_less : K.lookup f_d_law_less = some ⟨oc_d_law_less, od_d_law_less, .func (PySem.W.fnOf "_law_less" "_law_less" (defArgs sLLess) (defBody sLLess) (defScope sLLess) .none kV_d_law_less dc_d_law_less pm_d_law_less an_d_law_less cd_d_law_less ct_d_law_less), sl_d_law_less⟩)
    (c_d_law_less : PySem.W.codeIn K cd_d_law_less "_law_less" = true)
    (k_d_law_less : PySem.W.keepIn K (.ref f_d_law_less) = true)
    (a_d_law_times : PySem.W.nsIn K mainGlobals "_law_times" = some (some (.ref f_d_law_times)))
    (l_d_law_times : K.lookup f_d_law_times = some ⟨oc_d_law_times, od_d_law_times, .func (PySem.W.fnOf "_law_times" "_law_times" (defArgs sLTimes) (defBody sLTimes) (defScope sLTimes) .none kV_d_law_times dc_d_law_times pm_d_law_times an_d_law_times cd_d_law_times ct_d_law_times), sl_d_law_times⟩)
    (c_d_law_times : PySem.W.codeIn K cd_d_law_times "_law_times" = true)
    (k_d_law_times : PySem.W.keepIn K (.ref f_d_law_times) = true)
    (a_d_law_under : PySem.W.nsIn K mainGlobals "_law_under" = some (some (.ref f_d_law_under)))
    (l_d_law_under : K.lookup f_d_law_under = some ⟨oc_d_law_under, od_d_law_under, .func (PySem.W.fnOf "_law_under" "_law_under" (defArgs sLUnder) (defBody sLUnder) (defScope sLUnder) .none kV_d_law_under dc_d_law_under pm_d_law_under an_d_law_under cd_d_law_under ct_d_law_under), sl_d_law_under⟩)
    (c_d_law_under : PySem.W.codeIn K cd_d_law_under "_law_under" = true)
    (k_d_law_under : PySem.W.keepIn K (.ref f_d_law_under) = true)
    (a_d_law_shares : PySem.W.nsIn K mainGlobals "_law_shares" = some (some (.ref f_d_law_shares)))
    (l_d_law_shares : K.lookup f_d_law_shares = some ⟨oc_d_law_shares, od_d_law_shares, .func (PySem.W.fnOf "_law_shares" "_law_shares" (defArgs sShares) (defBody sShares) (defScope sShares) .none kV_d_law_shares dc_d_law_shares pm_d_law_shares an_d_law_shares cd_d_law_shares ct_d_law_shares), sl_d_law_shares⟩)
    (c_d_law_shares : PySem.W.codeIn K cd_d_law_shares "_law_shares" = true)
    (k_d_law_shares : PySem.W.keepIn K (.ref f_d_law_shares) = true)
    (a_d_law_gain : PySem.W.nsIn K mainGlobals "_law_gain" = some (some (.ref f_d_law_gain)))
    (l_d_law_gain : K.lookup f_d_law_gain = some ⟨oc_d_law_gain, od_d_law_gain, .func (PySem.W.fnOf "_law_gain" "_law_gain" (defArgs sGain) (defBody sGain) (defScope sGain) .none kV_d_law_gain dc_d_law_gain pm_d_law_gain an_d_law_gain cd_d_law_gain ct_d_law_gain), sl_d_law_gain⟩)
    (c_d_law_gain : PySem.W.codeIn K cd_d_law_gain "_law_gain" = true)
    (k_d_law_gain : PySem.W.keepIn K (.ref f_d_law_gain) = true)
    (a_d_law_gains : PySem.W.nsIn K mainGlobals "_law_gains" = some (some (.ref f_d_law_gains)))
    (l_d_law_gains : K.lookup f_d_law_gains = some ⟨oc_d_law_gains, od_d_law_gains, .func (PySem.W.fnOf "_law_gains" "_law_gains" (defArgs sGains) (defBody sGains) (defScope sGains) .none kV_d_law_gains dc_d_law_gains pm_d_law_gains an_d_law_gains cd_d_law_gains ct_d_law_gains), sl_d_law_gains⟩)
    (c_d_law_gains : PySem.W.codeIn K cd_d_law_gains "_law_gains" = true)
    (k_d_law_gains : PySem.W.keepIn K (.ref f_d_law_gains) = true)
    (a_d_law_parts : PySem.W.nsIn K mainGlobals "_law_parts" = some (some (.ref f_d_law_parts)))
    (l_d_law_parts : K.lookup f_d_law_parts = some ⟨oc_d_law_parts, od_d_law_parts, .func (PySem.W.fnOf "_law_parts" "_law_parts" (defArgs sParts) (defBody sParts) (defScope sParts) .none kV_d_law_parts dc_d_law_parts pm_d_law_parts an_d_law_parts cd_d_law_parts ct_d_law_parts), sl_d_law_parts⟩)
    (c_d_law_parts : PySem.W.codeIn K cd_d_law_parts "_law_parts" = true)
    (k_d_law_parts : PySem.W.keepIn K (.ref f_d_law_parts) = true)
    (a_d_law_due_price : PySem.W.nsIn K mainGlobals "_law_due_price" = some (some (.ref f_d_law_due_price)))
    (l_d_law_due_price : K.lookup f_d_law_due_price = some ⟨oc_d_law_due_price, od_d_law_due_price, .func (PySem.W.fnOf "_law_due_price" "_law_due_price" (defArgs sDueP) (defBody sDueP) (defScope sDueP) .none kV_d_law_due_price dc_d_law_due_price pm_d_law_due_price an_d_law_due_price cd_d_law_due_price ct_d_law_due_price), sl_d_law_due_price⟩)
    (c_d_law_due_price : PySem.W.codeIn K cd_d_law_due_price "_law_due_price" = true)
    (k_d_law_due_price : PySem.W.keepIn K (.ref f_d_law_due_price) = true)
    (a_d_law_bound : PySem.W.nsIn K mainGlobals "_law_bound" = some (some (.ref f_d_law_bound)))
    (l_d_law_bound : K.lookup f_d_law_bound = some ⟨oc_d_law_bound, od_d_law_bound, .func (PySem.W.fnOf "_law_bound" "_law_bound" (defArgs sLBound) (defBody sLBound) (defScope sLBound) .none kV_d_law_bound dc_d_law_bound pm_d_law_bound an_d_law_bound cd_d_law_bound ct_d_law_bound), sl_d_law_bound⟩)
    (c_d_law_bound : PySem.W.codeIn K cd_d_law_bound "_law_bound" = true)
    (k_d_law_bound : PySem.W.keepIn K (.ref f_d_law_bound) = true)
    (a_d_law_made : PySem.W.nsIn K mainGlobals "_law_made" = some (some (.ref f_d_law_made)))
    (l_d_law_made : K.lookup f_d_law_made = some ⟨oc_d_law_made, od_d_law_made, .func (PySem.W.fnOf "_law_made" "_law_made" (defArgs sMade) (defBody sMade) (defScope sMade) .none kV_d_law_made dc_d_law_made pm_d_law_made an_d_law_made cd_d_law_made ct_d_law_made), sl_d_law_made⟩)
    (c_d_law_made : PySem.W.codeIn K cd_d_law_made "_law_made" = true)
    (k_d_law_made : PySem.W.keepIn K (.ref f_d_law_made) = true)
    (a_d_law_odd : PySem.W.nsIn K mainGlobals "_law_odd" = some (some (.ref f_d_law_odd)))
    (l_d_law_odd : K.lookup f_d_law_odd = some ⟨oc_d_law_odd, od_d_law_odd, .func (PySem.W.fnOf "_law_odd" "_law_odd" (defArgs sOdd) (defBody sOdd) (defScope sOdd) .none kV_d_law_odd dc_d_law_odd pm_d_law_odd an_d_law_odd cd_d_law_odd ct_d_law_odd), sl_d_law_odd⟩)
    (c_d_law_odd : PySem.W.codeIn K cd_d_law_odd "_law_odd" = true)
    (k_d_law_odd : PySem.W.keepIn K (.ref f_d_law_odd) = true)
    (a_d_law_refused : PySem.W.nsIn K mainGlobals "_law_refused" = some (some (.ref f_d_law_refused)))
    (l_d_law_refused : K.lookup f_d_law_refused = some ⟨oc_d_law_refused, od_d_law_refused, .func (PySem.W.fnOf "_law_refused" "_law_refused" (defArgs sRefused) (defBody sRefused) (defScope sRefused) .none kV_d_law_refused dc_d_law_refused pm_d_law_refused an_d_law_refused cd_d_law_refused ct_d_law_refused), sl_d_law_refused⟩)
    (c_d_law_refused : PySem.W.codeIn K cd_d_law_refused "_law_refused" = true)
    (k_d_law_refused : PySem.W.keepIn K (.ref f_d_law_refused) = true)
    (a_d_bound : PySem.W.nsIn K mainGlobals "bound" = some (some (.ref f_d_bound)))
    (l_d_bound : K.lookup f_d_bound = some ⟨oc_d_bound, od_d_bound, .func (PySem.W.fnOf "bound" "bound" (defArgs sBound) (defBody sBound) (defScope sBound) (.ref T_d_bound) kV_d_bound dc_d_bound pm_d_bound an_d_bound cd_d_bound ct_d_bound), sl_d_bound⟩)
    (c_d_bound : PySem.W.codeIn K cd_d_bound "bound" = true)
    (k_d_bound : PySem.W.keepIn K (.ref f_d_bound) = true)
    (t_d_bound : K.lookup T_d_bound = some oT_d_bound)
    (e_d_bound : oT_d_bound.data = .seq [Value.none].toArray nT_d_bound)
    (a_d_law : PySem.W.nsIn K mainGlobals "law" = some (some (.ref f_d_law)))
    (l_d_law : K.lookup f_d_law = some ⟨oc_d_law, od_d_law, .func (PySem.W.fnOf "law" "law" (defArgs sLaw) (defBody sLaw) (defScope sLaw) .none kV_d_law dc_d_law pm_d_law an_d_law cd_d_law ct_d_law), sl_d_law⟩)
    (c_d_law : PySem.W.codeIn K cd_d_law "law" = true)
    (k_d_law : PySem.W.keepIn K (.ref f_d_law) = true)
    (a_d_total : PySem.W.nsIn K mainGlobals "total" = some (some (.ref f_d_total)))
    (l_d_total : K.lookup f_d_total = some ⟨oc_d_total, od_d_total, .func (PySem.W.fnOf "total" "total" (defArgs sTotal) (defBody sTotal) (defScope sTotal) (.ref T_d_total) kV_d_total dc_d_total pm_d_total an_d_total cd_d_total ct_d_total), sl_d_total⟩)
    (c_d_total : PySem.W.codeIn K cd_d_total "total" = true)
    (k_d_total : PySem.W.keepIn K (.ref f_d_total) = true)
    (t_d_total : K.lookup T_d_total = some oT_d_total)
    (e_d_total : oT_d_total.data = .seq [Value.none].toArray nT_d_total)
    (aC_N : PySem.W.nsIn K mainGlobals "NoCase" = some (some (.ref C_N)))
    (xC_N : K.lookup C_N = some (excClassObj nm_N q_N C_N N_N bs_N [.type "ValueError", .type "Exception", .type "BaseException", .type "object"] true sn_N su_N ab_N co_N dd_N m0_N m1_N m2_N m3_N m5_N "ValueError.__new__"))
    (sa_N : PySem.W.findIn K (.ref C_N) "__setattr__" = some (some (.builtin "object.__setattr__")))
    (ga_N : PySem.W.findIn K (.ref C_N) "__getattribute__" = some (some (.builtin "BaseException.__getattribute__")))
    (gg_N : PySem.W.findIn K (.ref C_N) "__getattr__" = some none)
    (cl_N : PySem.W.findIn K (.ref C_N) "__class__" = some (some (.builtin "object.__class__")))
    (mo_N : PySem.W.mroIn K C_N (.type "object") = some true)
    (kC_N : PySem.W.keepIn K (.ref C_N) = true)
    (eC_N : PySem.W.subIn K (.ref C_N) (.type "BaseException") = some true)
    (tC_N : PySem.W.typeIn K (.ref C_N) = some (.type "type"))
    (hd_N : PySem.W.hasDictIn K C_N = true)
    (vV_N : PySem.W.findCls K (.type "ValueError") (.type "type") "__init__" = some (.val (.builtin "ValueError.__init__")))
    (sp_ : PySem.W.specialIn K (.builtin "object.__class__") "__get__" = some (some (.builtin "getset_descriptor.__get__")))
    (tk_ : PySem.W.takesIn K (.builtin "object.__class__") = some true)
    (i_i_N : PySem.W.findIn K (.ref C_N) "__init__" = some (some (.ref f_i_N)))
    (ty_i_N : PySem.W.typeIn K (.ref f_i_N) = some (.type "function"))
    (l_i_N : K.lookup f_i_N = some ⟨oc_i_N, od_i_N, .func (PySem.W.fnOf "__init__" "NoCase.__init__" (defArgs sNcInit) (defBody sNcInit) (defScope sNcInit) .none kV_i_N dc_i_N pm_i_N an_i_N cd_i_N ct_i_N), sl_i_N⟩)
    (c_i_N : PySem.W.codeIn K cd_i_N "NoCase.__init__" = true)
    (k_i_N : PySem.W.keepIn K (.ref f_i_N) = true)
    (no_N_part : PySem.W.findIn K (.ref C_N) "part" = some none)
    (no_N_number : PySem.W.findIn K (.ref C_N) "number" = some none)
    (sb_N_N : PySem.W.subIn K (.ref C_N) (.ref C_N) = some true)
    (kt_N_ValueError : PySem.W.kitOne K (.ref C_N) (.type "ValueError") = some true)
    (aC_C : PySem.W.nsIn K mainGlobals "Case" = some (some (.ref C_C)))
    (pg_C : PySem.W.plainGet K C_C Str.empty = true)
    (hd_C : PySem.W.hasDictIn K C_C = true)
    (po_C : PySem.W.plainOver K C_C = true)
    (sa_C : PySem.W.findIn K (.ref C_C) "__setattr__" = some (some (.builtin "object.__setattr__")))
    (mk_C : PySem.W.makesIn K C_C = true)
    (kC_C : PySem.W.keepIn K (.ref C_C) = true)
    (i_m_C_init : PySem.W.findIn K (.ref C_C) "__init__" = some (some (.ref f_m_C_init)))
    (fn_m_C_init : PySem.W.isFn K (.ref f_m_C_init) = true)
    (l_m_C_init : K.lookup f_m_C_init = some ⟨oc_m_C_init, od_m_C_init, .func (PySem.W.fnOf "__init__" "Case.__init__" (defArgs sCInit) (defBody sCInit) (defScope sCInit) .none kV_m_C_init dc_m_C_init pm_m_C_init an_m_C_init cd_m_C_init ct_m_C_init), sl_m_C_init⟩)
    (c_m_C_init : PySem.W.codeIn K cd_m_C_init "Case.__init__" = true)
    (k_m_C_init : PySem.W.keepIn K (.ref f_m_C_init) = true)
    (no_own_shares : PySem.W.findIn K (.ref C_C) "own_shares" = some none)
    (no_own_hearer : PySem.W.findIn K (.ref C_C) "own_hearer" = some none)
    (no_own_teller : PySem.W.findIn K (.ref C_C) "own_teller" = some none)
    (g5_ : PySem.W.nsIn K mainGlobals "MOST_WORLDS" = some (some (.int 5 tk5)))
    (g6_ : PySem.W.nsIn K mainGlobals "MOST_DEEDS" = some (some (.int 6 tk6)))
    (aC_S : PySem.W.nsIn K mainGlobals "NoShares" = some (some (.ref C_S)))
    (xC_S : K.lookup C_S = some (excClassObj nm_S q_S C_S N_S bs_S [.type "ValueError", .type "Exception", .type "BaseException", .type "object"] true sn_S su_S ab_S co_S dd_S m0_S m1_S m2_S m3_S m5_S "ValueError.__new__"))
    (sa_S : PySem.W.findIn K (.ref C_S) "__setattr__" = some (some (.builtin "object.__setattr__")))
    (ga_S : PySem.W.findIn K (.ref C_S) "__getattribute__" = some (some (.builtin "BaseException.__getattribute__")))
    (gg_S : PySem.W.findIn K (.ref C_S) "__getattr__" = some none)
    (cl_S : PySem.W.findIn K (.ref C_S) "__class__" = some (some (.builtin "object.__class__")))
    (mo_S : PySem.W.mroIn K C_S (.type "object") = some true)
    (kC_S : PySem.W.keepIn K (.ref C_S) = true)
    (eC_S : PySem.W.subIn K (.ref C_S) (.type "BaseException") = some true)
    (tC_S : PySem.W.typeIn K (.ref C_S) = some (.type "type"))
    (hd_S : PySem.W.hasDictIn K C_S = true)
    (vV_S : PySem.W.findCls K (.type "ValueError") (.type "type") "__init__" = some (.val (.builtin "ValueError.__init__")))
    (i_i_S : PySem.W.findIn K (.ref C_S) "__init__" = some (some (.ref f_i_S)))
    (ty_i_S : PySem.W.typeIn K (.ref f_i_S) = some (.type "function"))
    (l_i_S : K.lookup f_i_S = some ⟨oc_i_S, od_i_S, .func (PySem.W.fnOf "__init__" "NoShares.__init__" (defArgs sNsInit) (defBody sNsInit) (defScope sNsInit) .none kV_i_S dc_i_S pm_i_S an_i_S cd_i_S ct_i_S), sl_i_S⟩)
    (c_i_S : PySem.W.codeIn K cd_i_S "NoShares.__init__" = true)
    (k_i_S : PySem.W.keepIn K (.ref f_i_S) = true)
    (sb_S_S : PySem.W.subIn K (.ref C_S) (.ref C_S) = some true)
    (kt_S_ValueError : PySem.W.kitOne K (.ref C_S) (.type "ValueError") = some true)
    (i_m_C_worlds : PySem.W.findIn K (.ref C_C) "worlds" = some (some (.ref f_m_C_worlds)))
    (fn_m_C_worlds : PySem.W.isFn K (.ref f_m_C_worlds) = true)
    (l_m_C_worlds : K.lookup f_m_C_worlds = some ⟨oc_m_C_worlds, od_m_C_worlds, .func (PySem.W.fnOf "worlds" "Case.worlds" (defArgs sCWorlds) (defBody sCWorlds) (defScope sCWorlds) .none kV_m_C_worlds dc_m_C_worlds pm_m_C_worlds an_m_C_worlds cd_m_C_worlds ct_m_C_worlds), sl_m_C_worlds⟩)
    (c_m_C_worlds : PySem.W.codeIn K cd_m_C_worlds "Case.worlds" = true)
    (k_m_C_worlds : PySem.W.keepIn K (.ref f_m_C_worlds) = true)
    (i_m_C_shares : PySem.W.findIn K (.ref C_C) "shares" = some (some (.ref f_m_C_shares)))
    (fn_m_C_shares : PySem.W.isFn K (.ref f_m_C_shares) = true)
    (l_m_C_shares : K.lookup f_m_C_shares = some ⟨oc_m_C_shares, od_m_C_shares, .func (PySem.W.fnOf "shares" "Case.shares" (defArgs sCShares) (defBody sCShares) (defScope sCShares) .none kV_m_C_shares dc_m_C_shares pm_m_C_shares an_m_C_shares cd_m_C_shares ct_m_C_shares), sl_m_C_shares⟩)
    (c_m_C_shares : PySem.W.codeIn K cd_m_C_shares "Case.shares" = true)
    (k_m_C_shares : PySem.W.keepIn K (.ref f_m_C_shares) = true)
    (z_abs : PySem.W.nsIn K mainGlobals "abs" = some none)
    (z_isinstance : PySem.W.nsIn K mainGlobals "isinstance" = some none)
    (z_int : PySem.W.nsIn K mainGlobals "int" = some none)
    (z_bool : PySem.W.nsIn K mainGlobals "bool" = some none)
    (z_tuple : PySem.W.nsIn K mainGlobals "tuple" = some none)
    (z_list : PySem.W.nsIn K mainGlobals "list" = some none)
    (z_len : PySem.W.nsIn K mainGlobals "len" = some none)
    (z_range : PySem.W.nsIn K mainGlobals "range" = some none)
    (z_str : PySem.W.nsIn K mainGlobals "str" = some none)
    (z_repr : PySem.W.nsIn K mainGlobals "repr" = some none)
    (z_sum : PySem.W.nsIn K mainGlobals "sum" = some none)
    (z_all : PySem.W.nsIn K mainGlobals "all" = some none)
    (z_any : PySem.W.nsIn K mainGlobals "any" = some none)
    (z_enumerate : PySem.W.nsIn K mainGlobals "enumerate" = some none)
    (z_zip : PySem.W.nsIn K mainGlobals "zip" = some none)
    (z_min : PySem.W.nsIn K mainGlobals "min" = some none)
    (z_max : PySem.W.nsIn K mainGlobals "max" = some none)
    (z_sorted : PySem.W.nsIn K mainGlobals "sorted" = some none)
    (z_ValueError : PySem.W.nsIn K mainGlobals "ValueError" = some none)
    (z_ZeroDivisionError : PySem.W.nsIn K mainGlobals "ZeroDivisionError" = some none)
    (z_OverflowError : PySem.W.nsIn K mainGlobals "OverflowError" = some none)
    (z_IndexError : PySem.W.nsIn K mainGlobals "IndexError" = some none)
    (z_LookupError : PySem.W.nsIn K mainGlobals "LookupError" = some none)
    (z_ArithmeticError : PySem.W.nsIn K mainGlobals "ArithmeticError" = some none)
    (z_KeyError : PySem.W.nsIn K mainGlobals "KeyError" = some none)
    (z_RuntimeError : PySem.W.nsIn K mainGlobals "RuntimeError" = some none) :
    ∃ fd : FuncData, (∀ (s : Shared) (v : Value), BindsTo s fd ⟨[v], []⟩ [("_law_script", v)]) ∧ ∀ base : Heap, K.In base → base.Ns mainGlobals mg → FnOkG l.prog w K mg base CX0 10 fa fd ["_law_script"] (spLaw K) := by
  have e := hfa.symm.trans (PySem.W.mg_of X G a_d_law)
  cases e
  have B : Blt mg := ⟨PySem.W.mg_none_of X G z_abs, PySem.W.mg_none_of X G z_isinstance, PySem.W.mg_none_of X G z_int, PySem.W.mg_none_of X G z_bool, PySem.W.mg_none_of X G z_tuple, PySem.W.mg_none_of X G z_list, PySem.W.mg_none_of X G z_len, PySem.W.mg_none_of X G z_range, PySem.W.mg_none_of X G z_str, PySem.W.mg_none_of X G z_repr, PySem.W.mg_none_of X G z_sum, PySem.W.mg_none_of X G z_all, PySem.W.mg_none_of X G z_any, PySem.W.mg_none_of X G z_enumerate, PySem.W.mg_none_of X G z_zip, PySem.W.mg_none_of X G z_min, PySem.W.mg_none_of X G z_max, PySem.W.mg_none_of X G z_sorted, PySem.W.mg_none_of X G z_ValueError, PySem.W.mg_none_of X G z_ZeroDivisionError, PySem.W.mg_none_of X G z_OverflowError, PySem.W.mg_none_of X G z_IndexError, PySem.W.mg_none_of X G z_LookupError, PySem.W.mg_none_of X G z_ArithmeticError, PySem.W.mg_none_of X G z_KeyError, PySem.W.mg_none_of X G z_RuntimeError⟩
  have F_d_is_whole := fun_mk (st := sWhole) l_d_is_whole c_d_is_whole k_d_is_whole
  have b_d_is_whole := F_d_is_whole.binds (ps := ["thing"]) fun _ _ _ _ _ _ us hl => match us, hl with | [_], _ => rfl
  have g_d_is_whole := PySem.W.mg_of X G a_d_is_whole
  have F_d_is_ratio := fun_mk (st := sIsR) l_d_is_ratio c_d_is_ratio k_d_is_ratio
  have b_d_is_ratio := F_d_is_ratio.binds (ps := ["thing"]) fun _ _ _ _ _ _ us hl => match us, hl with | [_], _ => rfl
  have g_d_is_ratio := PySem.W.mg_of X G a_d_is_ratio
  have F_d_plus := fun_mk (st := sPlus) l_d_plus c_d_plus k_d_plus
  have b_d_plus := F_d_plus.binds (ps := ["one", "other"]) fun _ _ _ _ _ _ us hl => match us, hl with | [_, _], _ => rfl
  have g_d_plus := PySem.W.mg_of X G a_d_plus
  have F_d_lowest := fun_mk (st := sLowest) l_d_lowest c_d_lowest k_d_lowest
  have b_d_lowest := F_d_lowest.binds (ps := ["top", "bottom"]) fun _ _ _ _ _ _ us hl => match us, hl with | [_, _], _ => rfl
  have g_d_lowest := PySem.W.mg_of X G a_d_lowest
  have F_d_divisor := fun_mk (st := sDiv) l_d_divisor c_d_divisor k_d_divisor
  have b_d_divisor := F_d_divisor.binds (ps := ["one", "other"]) fun _ _ _ _ _ _ us hl => match us, hl with | [_, _], _ => rfl
  have g_d_divisor := PySem.W.mg_of X G a_d_divisor
  have F_d_is_list_of := fun_mk (st := sListOf) l_d_is_list_of c_d_is_list_of k_d_is_list_of
  have b_d_is_list_of := F_d_is_list_of.binds (ps := ["thing", "least", "most"]) fun _ _ _ _ _ _ us hl => match us, hl with | [_, _, _], _ => rfl
  have g_d_is_list_of := PySem.W.mg_of X G a_d_is_list_of
  have F_d_is_share := fun_mk (st := sShare) l_d_is_share c_d_is_share k_d_is_share
  have b_d_is_share := F_d_is_share.binds (ps := ["thing"]) fun _ _ _ _ _ _ us hl => match us, hl with | [_], _ => rfl
  have g_d_is_share := PySem.W.mg_of X G a_d_is_share
  have F_d_is_ratio_row := fun_mk (st := sRRow) l_d_is_ratio_row c_d_is_ratio_row k_d_is_ratio_row
  have b_d_is_ratio_row := F_d_is_ratio_row.binds (ps := ["thing", "least", "most"]) fun _ _ _ _ _ _ us hl => match us, hl with | [_, _, _], _ => rfl
  have g_d_is_ratio_row := PySem.W.mg_of X G a_d_is_ratio_row
  have F_d_wrong_row := fun_mk (st := sWrong) l_d_wrong_row c_d_wrong_row k_d_wrong_row
  have b_d_wrong_row := F_d_wrong_row.binds (ps := ["rows", "is_row", "least", "most"]) fun _ _ _ _ _ _ us hl => match us, hl with | [_, _, _, _], _ => rfl
  have g_d_wrong_row := PySem.W.mg_of X G a_d_wrong_row
  have F_d_copied_rows := fun_mk (st := sCopied) l_d_copied_rows c_d_copied_rows k_d_copied_rows
  have b_d_copied_rows := F_d_copied_rows.binds (ps := ["rows"]) fun _ _ _ _ _ _ us hl => match us, hl with | [_], _ => rfl
  have g_d_copied_rows := PySem.W.mg_of X G a_d_copied_rows
  have F_d_check_shares := fun_mk (st := sChkS) l_d_check_shares c_d_check_shares k_d_check_shares
  have b_d_check_shares := F_d_check_shares.binds (ps := ["shares"]) fun _ _ _ _ _ _ us hl => match us, hl with | [_], _ => rfl
  have g_d_check_shares := PySem.W.mg_of X G a_d_check_shares
  have F_d_check_gains := fun_mk (st := sChkG) l_d_check_gains c_d_check_gains k_d_check_gains
  have b_d_check_gains := F_d_check_gains.binds (ps := ["part", "rows", "worlds", "least", "most"]) fun _ _ _ _ _ _ us hl => match us, hl with | [_, _, _, _, _], _ => rfl
  have g_d_check_gains := PySem.W.mg_of X G a_d_check_gains
  have F_d_times := fun_mk (st := sTimes) l_d_times c_d_times k_d_times
  have b_d_times := F_d_times.binds (ps := ["one", "other"]) fun _ _ _ _ _ _ us hl => match us, hl with | [_, _], _ => rfl
  have g_d_times := PySem.W.mg_of X G a_d_times
  have F_d_is_share_row := fun_mk (st := sShRow) l_d_is_share_row c_d_is_share_row k_d_is_share_row
  have b_d_is_share_row := F_d_is_share_row.binds (ps := ["thing", "least", "most"]) fun _ _ _ _ _ _ us hl => match us, hl with | [_, _, _], _ => rfl
  have g_d_is_share_row := PySem.W.mg_of X G a_d_is_share_row
  have F_d_law_left := fun_mk (st := sLeft) l_d_law_left c_d_law_left k_d_law_left
  have b_d_law_left := F_d_law_left.binds (ps := ["_law_cell"]) fun _ _ _ _ _ _ us hl => match us, hl with | [_], _ => rfl
  have g_d_law_left := PySem.W.mg_of X G a_d_law_left
  have F_d_law_digit := fun_mk (st := sDigit) l_d_law_digit c_d_law_digit k_d_law_digit
  have b_d_law_digit := F_d_law_digit.binds (ps := ["_law_left_here", "_law_many"]) fun _ _ _ _ _ _ us hl => match us, hl with | [_, _], _ => rfl
  have g_d_law_digit := PySem.W.mg_of X G a_d_law_digit
  have F_d_law_low := fun_mk (st := sLow) l_d_law_low c_d_law_low k_d_law_low
  have b_d_law_low := F_d_law_low.binds (ps := ["_law_top", "_law_bottom"]) fun _ _ _ _ _ _ us hl => match us, hl with | [_, _], _ => rfl
  have g_d_law_low := PySem.W.mg_of X G a_d_law_low
  have F_d_law_plus := fun_mk (st := sLPlus) l_d_law_plus c_d_law_plus k_d_law_plus
  have b_d_law_plus := F_d_law_plus.binds (ps := ["_law_one", "_law_other"]) fun _ _ _ _ _ _ us hl => match us, hl with | [_, _], _ => rfl
  have g_d_law_plus := PySem.W.mg_of X G a_d_law_plus
  have F_d_law_less := fun_mk (st := sLLess) l_d_law_less c_d_law_less k_d_law_less
  have b_d_law_less := F_d_law_less.binds (ps := ["_law_one", "_law_other"]) fun _ _ _ _ _ _ us hl => match us, hl with | [_, _], _ => rfl
  have g_d_law_less := PySem.W.mg_of X G a_d_law_less
  have F_d_law_times := fun_mk (st := sLTimes) l_d_law_times c_d_law_times k_d_law_times
  have b_d_law_times := F_d_law_times.binds (ps := ["_law_one", "_law_other"]) fun _ _ _ _ _ _ us hl => match us, hl with | [_, _], _ => rfl
  have g_d_law_times := PySem.W.mg_of X G a_d_law_times
  have F_d_law_under := fun_mk (st := sLUnder) l_d_law_under c_d_law_under k_d_law_under
  have b_d_law_under := F_d_law_under.binds (ps := ["_law_one", "_law_other"]) fun _ _ _ _ _ _ us hl => match us, hl with | [_, _], _ => rfl
  have g_d_law_under := PySem.W.mg_of X G a_d_law_under
  have F_d_law_shares := fun_mk (st := sShares) l_d_law_shares c_d_law_shares k_d_law_shares
  have b_d_law_shares := F_d_law_shares.binds (ps := ["_law_left_here", "_law_many"]) fun _ _ _ _ _ _ us hl => match us, hl with | [_, _], _ => rfl
  have g_d_law_shares := PySem.W.mg_of X G a_d_law_shares
  have F_d_law_gain := fun_mk (st := sGain) l_d_law_gain c_d_law_gain k_d_law_gain
  have b_d_law_gain := F_d_law_gain.binds (ps := ["_law_left_here"]) fun _ _ _ _ _ _ us hl => match us, hl with | [_], _ => rfl
  have g_d_law_gain := PySem.W.mg_of X G a_d_law_gain
  have F_d_law_gains := fun_mk (st := sGains) l_d_law_gains c_d_law_gains k_d_law_gains
  have b_d_law_gains := F_d_law_gains.binds (ps := ["_law_left_here", "_law_worlds", "_law_deeds"]) fun _ _ _ _ _ _ us hl => match us, hl with | [_, _, _], _ => rfl
  have g_d_law_gains := PySem.W.mg_of X G a_d_law_gains
  have F_d_law_parts := fun_mk (st := sParts) l_d_law_parts c_d_law_parts k_d_law_parts
  have b_d_law_parts := F_d_law_parts.binds (ps := ["_law_left_here", "_law_most_worlds", "_law_most_deeds"]) fun _ _ _ _ _ _ us hl => match us, hl with | [_, _, _], _ => rfl
  have g_d_law_parts := PySem.W.mg_of X G a_d_law_parts
  have F_d_law_due_price := fun_mk (st := sDueP) l_d_law_due_price c_d_law_due_price k_d_law_due_price
  have b_d_law_due_price := F_d_law_due_price.binds (ps := ["_law_parts_here", "_law_world", "_law_deed", "_law_instead"]) fun _ _ _ _ _ _ us hl => match us, hl with | [_, _, _, _], _ => rfl
  have g_d_law_due_price := PySem.W.mg_of X G a_d_law_due_price
  have F_d_law_bound := fun_mk (st := sLBound) l_d_law_bound c_d_law_bound k_d_law_bound
  have b_d_law_bound := F_d_law_bound.binds (ps := ["_law_some", "_law_prices"]) fun _ _ _ _ _ _ us hl => match us, hl with | [_, _], _ => rfl
  have g_d_law_bound := PySem.W.mg_of X G a_d_law_bound
  have F_d_law_made := fun_mk (st := sMade) l_d_law_made c_d_law_made k_d_law_made
  have b_d_law_made := F_d_law_made.binds (ps := ["_law_parts_here"]) fun _ _ _ _ _ _ us hl => match us, hl with | [_], _ => rfl
  have g_d_law_made := PySem.W.mg_of X G a_d_law_made
  have F_d_law_odd := fun_mk (st := sOdd) l_d_law_odd c_d_law_odd k_d_law_odd
  have b_d_law_odd := F_d_law_odd.binds (ps := ["_law_left_here", "_law_good"]) fun _ _ _ _ _ _ us hl => match us, hl with | [_, _], _ => rfl
  have g_d_law_odd := PySem.W.mg_of X G a_d_law_odd
  have F_d_law_refused := fun_mk (st := sRefused) l_d_law_refused c_d_law_refused k_d_law_refused
  have b_d_law_refused := F_d_law_refused.binds (ps := ["_law_case", "_law_prices", "_law_thing"]) fun _ _ _ _ _ _ us hl => match us, hl with | [_, _, _], _ => rfl
  have g_d_law_refused := PySem.W.mg_of X G a_d_law_refused
  have g_d_bound := PySem.W.mg_of X G a_d_bound
  have F_d_bound : FunD K "bound" "bound" (defArgs sBound) (defBody sBound) (defScope sBound) [V.non] [] f_d_bound (PySem.W.fnOf "bound" "bound" (defArgs sBound) (defBody sBound) (defScope sBound) (.ref T_d_bound) kV_d_bound dc_d_bound pm_d_bound an_d_bound cd_d_bound ct_d_bound) := ⟨⟨_, _, _, _, _, _, _, _, _, _, rfl, l_d_bound, c_d_bound, .inr ⟨by simp, T_d_bound, oT_d_bound, [Value.none], nT_d_bound, rfl, t_d_bound, e_d_bound, .cons rfl .nil⟩, .inl rfl⟩, k_d_bound⟩
  have b2_d_bound : ∃ ds, Vals [V.non] ds ∧ Binds K (PySem.W.fnOf "bound" "bound" (defArgs sBound) (defBody sBound) (defScope sBound) (.ref T_d_bound) kV_d_bound dc_d_bound pm_d_bound an_d_bound cd_d_bound ct_d_bound) ["case", "prices", "shares"] ds := F_d_bound.binds1 (ps := ["case", "prices", "shares"]) 2 0 (by simp) rfl fun T kV doc pm an cdv ct us its hl hi => match us, its, hl, hi with | [_, _], [_], _, _ => ⟨_, rfl, rfl⟩
  have b3_d_bound : ∃ ds, Vals [] ds ∧ Binds K (PySem.W.fnOf "bound" "bound" (defArgs sBound) (defBody sBound) (defScope sBound) (.ref T_d_bound) kV_d_bound dc_d_bound pm_d_bound an_d_bound cd_d_bound ct_d_bound) ["case", "prices", "shares"] ds := F_d_bound.binds1 (ps := ["case", "prices", "shares"]) 3 1 (by simp) rfl fun T kV doc pm an cdv ct us its hl hi => match us, its, hl, hi with | [_, _, _], [_], _, _ => ⟨_, rfl, rfl⟩
  have kx0_d_bound : ∃ its : List Value, KBn K (PySem.W.fnOf "bound" "bound" (defArgs sBound) (defBody sBound) (defScope sBound) (.ref T_d_bound) kV_d_bound dc_d_bound pm_d_bound an_d_bound cd_d_bound ct_d_bound) ["case", "prices", "shares"] 2 ["shares"] (fun us ws => g3k us its ws) (fun vs zs => g3k vs [V.non] zs) := F_d_bound.kbindsD (ps := ["case", "prices", "shares"]) 2 ["shares"] g3k (by simp) g3k_rel fun T kV doc pm an cdv ct us its ws h1 h2 h3 => match us, its, ws, h1, h2, h3 with | [_, _], [_], [_], _, _, _ => ⟨_, rfl, rfl⟩
  have F_d_law := fun_mk (st := sLaw) l_d_law c_d_law k_d_law
  have g_d_law := PySem.W.mg_of X G a_d_law
  have g_d_total := PySem.W.mg_of X G a_d_total
  have FM : FunD K "total" "total" (defArgs sTotal) (defBody sTotal) (defScope sTotal) [V.non] [] f_d_total (PySem.W.fnOf "total" "total" (defArgs sTotal) (defBody sTotal) (defScope sTotal) (.ref T_d_total) kV_d_total dc_d_total pm_d_total an_d_total cd_d_total ct_d_total) := ⟨⟨_, _, _, _, _, _, _, _, _, _, rfl, l_d_total, c_d_total, .inr ⟨by simp, T_d_total, oT_d_total, [Value.none], nT_d_total, rfl, t_d_total, e_d_total, .cons rfl .nil⟩, .inl rfl⟩, k_d_total⟩
  have bM1 := FM.binds1 (ps := ["some", "start"]) 1 0 (by simp) rfl fun T kV doc pm an cdv ct us its hl hi => match us, its, hl, hi with | [_], [_], _, _ => ⟨_, rfl, rfl⟩
  have ex_N : ExcC K C_N := ⟨ga_N, gg_N, eC_N, hd_N, cl_N, sp_, tk_, mo_N⟩
  have xf_N : XfC K C_N := ⟨ga_N, gg_N, eC_N, hd_N⟩
  have gC_N := PySem.W.mg_of X G aC_N
  have oex_N : OexC K C_N := ⟨⟨nm_N, q_N, N_N, bs_N, _, sn_N, su_N, ab_N, co_N, dd_N, m0_N, m1_N, m2_N, m3_N, m5_N, xC_N, by decide +kernel⟩, sa_N, eC_N, tC_N, kC_N⟩
  have exc_N : ExC K C_N "ValueError.__new__" [.type "ValueError", .type "Exception", .type "BaseException", .type "object"] := ⟨⟨nm_N, q_N, N_N, bs_N, sn_N, su_N, ab_N, co_N, dd_N, m0_N, m1_N, m2_N, m3_N, m5_N, xC_N⟩, eC_N, tC_N, kC_N⟩
  have F_i_N := fun_mk (st := sNcInit) l_i_N c_i_N k_i_N
  have b_i_N := F_i_N.binds (ps := ["self", "part", "number"]) fun _ _ _ _ _ _ us hl => match us, hl with | [_, _, _], _ => rfl
  have em_N_N := PySem.W.exm_ref eC_N hd_N tC_N sb_N_N
  have cl_C : Cls K C_C := ⟨pg_C, hd_C, po_C, sa_C⟩
  have gC_C := PySem.W.mg_of X G aC_C
  have F_m_C_init := fun_mk (st := sCInit) l_m_C_init c_m_C_init k_m_C_init
  have b_m_C_init := F_m_C_init.binds (ps := ["self", "shares", "hearer", "teller"]) fun _ _ _ _ _ _ us hl => match us, hl with | [_, _, _, _], _ => rfl
  have N0 : NcT K mg C_N f_i_N := ⟨gC_N, i_i_N, ty_i_N, xf_N, ex_N, oex_N, no_N_part, no_N_number, vV_N, em_N_N, kt_N_ValueError⟩
  have C0 : CaT K mg C_C f_m_C_init := ⟨cl_C, gC_C, no_own_shares, no_own_hearer, no_own_teller, ⟨mk_C, i_m_C_init, fn_m_C_init, kC_C⟩, ⟨_, PySem.W.mg_of X G g5_⟩, ⟨_, PySem.W.mg_of X G g6_⟩⟩
  have ex_S : ExcC K C_S := ⟨ga_S, gg_S, eC_S, hd_S, cl_S, sp_, tk_, mo_S⟩
  have xf_S : XfC K C_S := ⟨ga_S, gg_S, eC_S, hd_S⟩
  have gC_S := PySem.W.mg_of X G aC_S
  have oex_S : OexC K C_S := ⟨⟨nm_S, q_S, N_S, bs_S, _, sn_S, su_S, ab_S, co_S, dd_S, m0_S, m1_S, m2_S, m3_S, m5_S, xC_S, by decide +kernel⟩, sa_S, eC_S, tC_S, kC_S⟩
  have exc_S : ExC K C_S "ValueError.__new__" [.type "ValueError", .type "Exception", .type "BaseException", .type "object"] := ⟨⟨nm_S, q_S, N_S, bs_S, sn_S, su_S, ab_S, co_S, dd_S, m0_S, m1_S, m2_S, m3_S, m5_S, xC_S⟩, eC_S, tC_S, kC_S⟩
  have F_i_S := fun_mk (st := sNsInit) l_i_S c_i_S k_i_S
  have b_i_S := F_i_S.binds (ps := ["self"]) fun _ _ _ _ _ _ us hl => match us, hl with | [_], _ => rfl
  have em_S_S := PySem.W.exm_ref eC_S hd_S tC_S sb_S_S
  have N_S : NsT K mg C_S f_i_S := ⟨gC_S, i_i_S, ty_i_S, ex_S, oex_S, exc_S, vV_S, em_S_S, kt_S_ValueError⟩
  have F_m_C_worlds := fun_mk (st := sCWorlds) l_m_C_worlds c_m_C_worlds k_m_C_worlds
  have b_m_C_worlds := F_m_C_worlds.binds (ps := ["self"]) fun _ _ _ _ _ _ us hl => match us, hl with | [_], _ => rfl
  have mt_worlds : Meth K C_C "worlds" f_m_C_worlds := ⟨i_m_C_worlds, fn_m_C_worlds, k_m_C_worlds⟩
  have F_m_C_shares := fun_mk (st := sCShares) l_m_C_shares c_m_C_shares k_m_C_shares
  have b_m_C_shares := F_m_C_shares.binds (ps := ["self"]) fun _ _ _ _ _ _ us hl => match us, hl with | [_], _ => rfl
  have mt_shares : Meth K C_C "shares" f_m_C_shares := ⟨i_m_C_shares, fn_m_C_shares, k_m_C_shares⟩
  refine ⟨PySem.W.fnOf "law" "law" (defArgs sLaw) (defBody sLaw) (defScope sLaw) .none kV_d_law dc_d_law pm_d_law an_d_law cd_d_law ct_d_law, fun s v => .of_eq rfl, fun base _ _ => ?_⟩
  have G_d_divisor : FnOk l.prog w K mg base CX0 1 f_d_divisor _ ["one", "other"] spDiv := ok_div F_d_divisor  B
  have G_d_lowest : FnOk l.prog w K mg base CX0 2 f_d_lowest _ ["top", "bottom"] spLow := ok_lowest F_d_lowest (G_d_divisor.mono (by decide)) k_d_divisor b_d_divisor g_d_divisor
  have G_d_plus : FnOk l.prog w K mg base CX0 3 f_d_plus _ ["one", "other"] (spBin K (· + ·)) := ok_Plus F_d_plus (G_d_lowest.mono (by decide)) k_d_lowest b_d_lowest g_d_lowest
  have G_d_is_whole : FnOk l.prog w K mg base CX0 1 f_d_is_whole _ ["thing"] (spWholeZ K) := ok_WholeZ F_d_is_whole  B
  have G_d_is_ratio : FnOk l.prog w K mg base CX0 2 f_d_is_ratio _ ["thing"] (spIsRZ K) := ok_IsRZ F_d_is_ratio (G_d_is_whole.mono (by decide)) k_d_is_whole b_d_is_whole g_d_is_whole (G_d_divisor.mono (by decide)) k_d_divisor b_d_divisor g_d_divisor B
  have G_d_is_list_of : FnOk l.prog w K mg base CX0 1 f_d_is_list_of _ ["thing", "least", "most"] (spListOfZ K) := ok_ListOfZ F_d_is_list_of  B
  have G_d_is_share : FnOk l.prog w K mg base CX0 3 f_d_is_share _ ["thing"] (spShareZ K) := ok_ShareZ F_d_is_share (G_d_is_ratio.mono (by decide)) k_d_is_ratio b_d_is_ratio g_d_is_ratio
  have G_d_total : FnOk l.prog w K mg base CX0 4 f_d_total _ ["some", "start"] (Rs.spTotal K) := ok_Total FM (G_d_plus.mono (by decide)) k_d_plus b_d_plus g_d_plus
  have G_d_is_ratio_row : FnOk l.prog w K mg base CX0 3 f_d_is_ratio_row _ ["thing", "least", "most"] (spRowZ K) := ok_RRowZ F_d_is_ratio_row (G_d_is_list_of.mono (by decide)) k_d_is_list_of b_d_is_list_of g_d_is_list_of (G_d_is_ratio.mono (by decide)) k_d_is_ratio b_d_is_ratio g_d_is_ratio B
  have G_d_wrong_row : FnOk l.prog w K mg base CX0 4 f_d_wrong_row _ ["rows", "is_row", "least", "most"] (spWrongZ K f_d_is_ratio_row) := ok_WrongZ F_d_wrong_row (G_d_is_ratio_row.mono (by decide)) k_d_is_ratio_row b_d_is_ratio_row  B
  have G_d_copied_rows : FnOk l.prog w K mg base CX0 1 f_d_copied_rows _ ["rows"] (Rs.spCopied K) := ok_Copied F_d_copied_rows  B
  have G_i_N : FnOk l.prog w K mg base CX0 1 f_i_N _ ["self", "part", "number"] (spE2 C_N "part" "number") := ok_NcInit F_i_N N0 B
  have G_d_check_shares : FnOk l.prog w K mg base (L2.CX l.prog w) 7 f_d_check_shares _ ["shares"] (spChkS K C_N) := ok_ChkS F_d_check_shares C0 N0 (G_i_N.mono (by decide)) b_i_N (G_d_is_list_of.mono (by decide)) k_d_is_list_of b_d_is_list_of g_d_is_list_of (G_d_is_share.mono (by decide)) k_d_is_share b_d_is_share g_d_is_share (G_d_total.mono (by decide)) k_d_total bM1 g_d_total B
  have G_d_check_gains : FnOk l.prog w K mg base (L2.CX l.prog w) 7 f_d_check_gains _ ["part", "rows", "worlds", "least", "most"] (spChkG K C_N) := ok_ChkG F_d_check_gains N0 (G_i_N.mono (by decide)) b_i_N (G_d_is_list_of.mono (by decide)) k_d_is_list_of b_d_is_list_of g_d_is_list_of (G_d_wrong_row.mono (by decide)) k_d_wrong_row b_d_wrong_row g_d_wrong_row g_d_is_ratio_row
  have G_m_C_init : FnOk l.prog w K mg base (L2.CX l.prog w) 8 f_m_C_init _ ["self", "shares", "hearer", "teller"] (spCInit K C_C C_N) := ok_CInit F_m_C_init C0 (G_d_check_shares.mono (by decide)) k_d_check_shares b_d_check_shares g_d_check_shares (G_d_check_gains.mono (by decide)) k_d_check_gains b_d_check_gains g_d_check_gains (G_d_copied_rows.mono (by decide)) k_d_copied_rows b_d_copied_rows g_d_copied_rows B
  have G_d_times : FnOk l.prog w K mg base CX0 3 f_d_times _ ["one", "other"] (spBin K (· * ·)) := ok_Times F_d_times (G_d_lowest.mono (by decide)) k_d_lowest b_d_lowest g_d_lowest
  have G_m_C_worlds : FnOk l.prog w K mg base CX0 1 f_m_C_worlds _ ["self"] (spCWorlds K C_C) := ok_CWorlds F_m_C_worlds C0 B
  have G_m_C_shares : FnOk l.prog w K mg base CX0 1 f_m_C_shares _ ["self"] (spCShares K C_C) := ok_CShares F_m_C_shares C0 B
  have G_d_is_share_row : FnOk l.prog w K mg base CX0 5 f_d_is_share_row _ ["thing", "least", "most"] (spShRowZ K) := ok_ShRowZ F_d_is_share_row (G_d_total.mono (by decide)) k_d_total bM1 g_d_total (G_d_is_list_of.mono (by decide)) k_d_is_list_of b_d_is_list_of g_d_is_list_of (G_d_is_share.mono (by decide)) k_d_is_share b_d_is_share g_d_is_share B
  have G_i_S : FnOk l.prog w K mg base CX0 1 f_i_S _ ["self"] (spEi C_S) := ok_NsInit F_i_S N_S B
  have G_d_bound : FnOk l.prog w K mg base (L2.CX l.prog w) 7 f_d_bound _ ["case", "prices", "shares"] (spBound K C_C C_S) := ok_Bound F_d_bound C0 mt_worlds mt_shares N_S (G_i_S.mono (by decide)) b_i_S (G_d_total.mono (by decide)) k_d_total bM1 g_d_total (G_m_C_worlds.mono (by decide)) b_m_C_worlds (G_m_C_shares.mono (by decide)) b_m_C_shares (G_d_is_share_row.mono (by decide)) k_d_is_share_row b_d_is_share_row g_d_is_share_row (G_d_times.mono (by decide)) k_d_times b_d_times g_d_times B
  have G_d_law_left : FnOk l.prog w K mg base CX0 1 f_d_law_left _ ["_law_cell"] spLeft := ok_left F_d_law_left  B
  have G_d_law_digit : FnOk l.prog w K mg base CX0 1 f_d_law_digit _ ["_law_left_here", "_law_many"] spDigit := ok_digit F_d_law_digit 
  have G_d_law_low : FnOk l.prog w K mg base CX0 1 f_d_law_low _ ["_law_top", "_law_bottom"] spLow := ok_low F_d_law_low  B
  have G_d_law_plus : FnOk l.prog w K mg base CX0 2 f_d_law_plus _ ["_law_one", "_law_other"] (spBin K (· + ·)) := ok_LPlus F_d_law_plus (G_d_law_low.mono (by decide)) k_d_law_low b_d_law_low g_d_law_low
  have G_d_law_less : FnOk l.prog w K mg base CX0 2 f_d_law_less _ ["_law_one", "_law_other"] (spBin K (· - ·)) := ok_LLess F_d_law_less (G_d_law_low.mono (by decide)) k_d_law_low b_d_law_low g_d_law_low
  have G_d_law_times : FnOk l.prog w K mg base CX0 2 f_d_law_times _ ["_law_one", "_law_other"] (spBin K (· * ·)) := ok_LTimes F_d_law_times (G_d_law_low.mono (by decide)) k_d_law_low b_d_law_low g_d_law_low
  have G_d_law_under : FnOk l.prog w K mg base CX0 1 f_d_law_under _ ["_law_one", "_law_other"] (spUnder K) := ok_LUnder F_d_law_under 
  have G_d_law_shares : FnOk l.prog w K mg base CX0 2 f_d_law_shares _ ["_law_left_here", "_law_many"] (Rs.spShares K) := ok_Shares F_d_law_shares (G_d_law_digit.mono (by decide)) k_d_law_digit b_d_law_digit g_d_law_digit (G_d_law_low.mono (by decide)) k_d_law_low b_d_law_low g_d_law_low B
  have G_d_law_gain : FnOk l.prog w K mg base CX0 2 f_d_law_gain _ ["_law_left_here"] (Lw.spGain K) := ok_Gain F_d_law_gain (G_d_law_digit.mono (by decide)) k_d_law_digit b_d_law_digit g_d_law_digit (G_d_law_low.mono (by decide)) k_d_law_low b_d_law_low g_d_law_low
  have G_d_law_gains : FnOk l.prog w K mg base CX0 3 f_d_law_gains _ ["_law_left_here", "_law_worlds", "_law_deeds"] (Lw.spGains K) := ok_Gains F_d_law_gains (G_d_law_gain.mono (by decide)) k_d_law_gain b_d_law_gain g_d_law_gain B
  have G_d_law_parts : FnOk l.prog w K mg base CX0 4 f_d_law_parts _ ["_law_left_here", "_law_most_worlds", "_law_most_deeds"] (Lw.spParts K) := ok_Parts F_d_law_parts (G_d_law_digit.mono (by decide)) k_d_law_digit b_d_law_digit g_d_law_digit (G_d_law_gains.mono (by decide)) k_d_law_gains b_d_law_gains g_d_law_gains (G_d_law_shares.mono (by decide)) k_d_law_shares b_d_law_shares g_d_law_shares B
  have G_d_law_due_price : FnOk l.prog w K mg base CX0 3 f_d_law_due_price _ ["_law_parts_here", "_law_world", "_law_deed", "_law_instead"] (spDueP K) := ok_DueP F_d_law_due_price (G_d_law_less.mono (by decide)) k_d_law_less b_d_law_less g_d_law_less (G_d_law_plus.mono (by decide)) k_d_law_plus b_d_law_plus g_d_law_plus (G_d_law_times.mono (by decide)) k_d_law_times b_d_law_times g_d_law_times B
  have G_d_law_bound : FnOk l.prog w K mg base CX0 3 f_d_law_bound _ ["_law_some", "_law_prices"] (spLBound K) := ok_LBound F_d_law_bound (G_d_law_plus.mono (by decide)) k_d_law_plus b_d_law_plus g_d_law_plus (G_d_law_times.mono (by decide)) k_d_law_times b_d_law_times g_d_law_times B
  have G_d_law_made : FnOk l.prog w K mg base CX0 4 f_d_law_made _ ["_law_parts_here"] (spMade K) := ok_Made F_d_law_made (G_d_law_due_price.mono (by decide)) k_d_law_due_price b_d_law_due_price g_d_law_due_price (G_d_law_under.mono (by decide)) k_d_law_under b_d_law_under g_d_law_under B
  have G_d_law_odd : FnOk l.prog w K mg base CX0 3 f_d_law_odd _ ["_law_left_here", "_law_good"] (spOdd K) := ok_Odd F_d_law_odd (G_d_law_less.mono (by decide)) k_d_law_less b_d_law_less g_d_law_less (G_d_law_digit.mono (by decide)) k_d_law_digit b_d_law_digit g_d_law_digit B
  have G_d_law_refused : FnOkG l.prog w K mg base CX0 8 f_d_law_refused _ ["_law_case", "_law_prices", "_law_thing"] (spRefused K C_C) := ok_Refused F_d_law_refused N_S G_d_bound k_d_bound g_d_bound b3_d_bound  B
  exact ok_law (k := 8) F_d_law C0 (G_m_C_init.mono (by decide)) b_m_C_init (G_d_bound.mono (by decide)) k_d_bound g_d_bound b2_d_bound b3_d_bound kx0_d_bound (G_d_law_left.mono (by decide)) k_d_law_left b_d_law_left g_d_law_left (G_d_law_parts.mono (by decide)) k_d_law_parts b_d_law_parts g_d_law_parts (G_d_law_made.mono (by decide)) k_d_law_made b_d_law_made g_d_law_made (G_d_law_shares.mono (by decide)) k_d_law_shares b_d_law_shares g_d_law_shares (G_d_law_bound.mono (by decide)) k_d_law_bound b_d_law_bound g_d_law_bound (G_d_law_refused.mono (by decide)) k_d_law_refused b_d_law_refused g_d_law_refused (G_d_law_odd.mono (by decide)) k_d_law_odd b_d_law_odd g_d_law_odd B
end K35
open PySem PySem.W PyProof.Rows
set_option maxRecDepth 100000 in
set_option maxHeartbeats 0 in
theorem PySem.Challenge.cw_besttelling_k35_bounds_told_holds : PySem.Challenge.rw_besttelling_k35_bounds_told.Holds := by
  w_on; o_law; k_head; (case hw => w_witness2)
  k_fill
  refine BX.walk_ofG (l := PySem.Challenge.rw_besttelling_k35_bounds_told) (n := 63) (k := 10) (x := "_law_script") (CX := fun _ => L2.CX0) (sp := fun w => K35.spLaw _) rfl (by decide) rfl ⟨rfl, by decide, by decide⟩ (fun w h Y => PySem.W.kIn_of Y) ?F (fun _ _ a ns hl _ hS => ⟨a, ns, rfl, hS, hl, fun _ => rfl⟩) (fun _ _ _ _ _ h => h)
  case F =>
    intro w mg fa h KX G hmg
    refine' K35.all_mk KX G hmg ?a_d_is_whole ?l_d_is_whole ?c_d_is_whole ?k_d_is_whole ?a_d_is_ratio ?l_d_is_ratio ?c_d_is_ratio ?k_d_is_ratio ?a_d_plus ?l_d_plus ?c_d_plus ?k_d_plus ?a_d_lowest ?l_d_lowest ?c_d_lowest ?k_d_lowest ?a_d_divisor ?l_d_divisor ?c_d_divisor ?k_d_divisor ?a_d_is_list_of ?l_d_is_list_of ?c_d_is_list_of ?k_d_is_list_of ?a_d_is_share ?l_d_is_share ?c_d_is_share ?k_d_is_share ?a_d_is_ratio_row ?l_d_is_ratio_row ?c_d_is_ratio_row ?k_d_is_ratio_row ?a_d_wrong_row ?l_d_wrong_row ?c_d_wrong_row ?k_d_wrong_row ?a_d_copied_rows ?l_d_copied_rows ?c_d_copied_rows ?k_d_copied_rows ?a_d_check_shares ?l_d_check_shares ?c_d_check_shares ?k_d_check_shares ?a_d_check_gains ?l_d_check_gains ?c_d_check_gains ?k_d_check_gains ?a_d_times ?l_d_times ?c_d_times ?k_d_times ?a_d_is_share_row ?l_d_is_share_row ?c_d_is_share_row ?k_d_is_share_row ?a_d_law_left ?l_d_law_left ?c_d_law_left ?k_d_law_left ?a_d_law_digit ?l_d_law_digit ?c_d_law_digit ?k_d_law_digit ?a_d_law_low ?l_d_law_low ?c_d_law_low ?k_d_law_low ?a_d_law_plus ?l_d_law_plus ?c_d_law_plus ?k_d_law_plus ?a_d_law_less ?l_d_law_less ?c_d_law_less ?k_d_law_less ?a_d_law_times ?l_d_law_times ?c_d_law_times ?k_d_law_times ?a_d_law_under ?l_d_law_under ?c_d_law_under ?k_d_law_under ?a_d_law_shares ?l_d_law_shares ?c_d_law_shares ?k_d_law_shares ?a_d_law_gain ?l_d_law_gain ?c_d_law_gain ?k_d_law_gain ?a_d_law_gains ?l_d_law_gains ?c_d_law_gains ?k_d_law_gains ?a_d_law_parts ?l_d_law_parts ?c_d_law_parts ?k_d_law_parts ?a_d_law_due_price ?l_d_law_due_price ?c_d_law_due_price ?k_d_law_due_price ?a_d_law_bound ?l_d_law_bound ?c_d_law_bound ?k_d_law_bound ?a_d_law_made ?l_d_law_made ?c_d_law_made ?k_d_law_made ?a_d_law_odd ?l_d_law_odd ?c_d_law_odd ?k_d_law_odd ?a_d_law_refused ?l_d_law_refused ?c_d_law_refused ?k_d_law_refused ?a_d_bound ?l_d_bound ?c_d_bound ?k_d_bound ?t_d_bound ?e_d_bound ?a_d_law ?l_d_law ?c_d_law ?k_d_law ?a_d_total ?l_d_total ?c_d_total ?k_d_total ?t_d_total ?e_d_total ?aC_N ?xC_N ?sa_N ?ga_N ?gg_N ?cl_N ?mo_N ?kC_N ?eC_N ?tC_N ?hd_N ?vV_N ?sp_ ?tk_ ?i_i_N ?ty_i_N ?l_i_N ?c_i_N ?k_i_N ?no_N_part ?no_N_number ?sb_N_N ?kt_N_ValueError ?aC_C ?pg_C ?hd_C ?po_C ?sa_C ?mk_C ?kC_C ?i_m_C_init ?fn_m_C_init ?l_m_C_init ?c_m_C_init ?k_m_C_init ?no_own_shares ?no_own_hearer ?no_own_teller ?g5_ ?g6_ ?aC_S ?xC_S ?sa_S ?ga_S ?gg_S ?cl_S ?mo_S ?kC_S ?eC_S ?tC_S ?hd_S ?vV_S ?i_i_S ?ty_i_S ?l_i_S ?c_i_S ?k_i_S ?sb_S_S ?kt_S_ValueError ?i_m_C_worlds ?fn_m_C_worlds ?l_m_C_worlds ?c_m_C_worlds ?k_m_C_worlds ?i_m_C_shares ?fn_m_C_shares ?l_m_C_shares ?c_m_C_shares ?k_m_C_shares ?z_abs ?z_isinstance ?z_int ?z_bool ?z_tuple ?z_list ?z_len ?z_range ?z_str ?z_repr ?z_sum ?z_all ?z_any ?z_enumerate ?z_zip ?z_min ?z_max ?z_sorted ?z_ValueError ?z_ZeroDivisionError ?z_OverflowError ?z_IndexError ?z_LookupError ?z_ArithmeticError ?z_KeyError ?z_RuntimeError
    (case a_d_is_whole => k_is)
    (case l_d_is_whole => k_is)
    (case c_d_is_whole => k_is)
    (case k_d_is_whole => k_is)
    (case a_d_is_ratio => k_is)
    (case l_d_is_ratio => k_is)
    (case c_d_is_ratio => k_is)
    (case k_d_is_ratio => k_is)
    (case a_d_plus => k_is)
    (case l_d_plus => k_is)
    (case c_d_plus => k_is)
    (case k_d_plus => k_is)
    (case a_d_lowest => k_is)
    (case l_d_lowest => k_is)
    (case c_d_lowest => k_is)
    (case k_d_lowest => k_is)
    (case a_d_divisor => k_is)
    (case l_d_divisor => k_is)
    (case c_d_divisor => k_is)
    (case k_d_divisor => k_is)
    (case a_d_is_list_of => k_is)
    (case l_d_is_list_of => k_is)
    (case c_d_is_list_of => k_is)
    (case k_d_is_list_of => k_is)
    (case a_d_is_share => k_is)
    (case l_d_is_share => k_is)
    (case c_d_is_share => k_is)
    (case k_d_is_share => k_is)
    (case a_d_is_ratio_row => k_is)
    (case l_d_is_ratio_row => k_is)
    (case c_d_is_ratio_row => k_is)
    (case k_d_is_ratio_row => k_is)
    (case a_d_wrong_row => k_is)
    (case l_d_wrong_row => k_is)
    (case c_d_wrong_row => k_is)
    (case k_d_wrong_row => k_is)
    (case a_d_copied_rows => k_is)
    (case l_d_copied_rows => k_is)
    (case c_d_copied_rows => k_is)
    (case k_d_copied_rows => k_is)
    (case a_d_check_shares => k_is)
    (case l_d_check_shares => k_is)
    (case c_d_check_shares => k_is)
    (case k_d_check_shares => k_is)
    (case a_d_check_gains => k_is)
    (case l_d_check_gains => k_is)
    (case c_d_check_gains => k_is)
    (case k_d_check_gains => k_is)
    (case a_d_times => k_is)
    (case l_d_times => k_is)
    (case c_d_times => k_is)
    (case k_d_times => k_is)
    (case a_d_is_share_row => k_is)
    (case l_d_is_share_row => k_is)
    (case c_d_is_share_row => k_is)
    (case k_d_is_share_row => k_is)
    (case a_d_law_left => k_is)
    (case l_d_law_left => k_is)
    (case c_d_law_left => k_is)
    (case k_d_law_left => k_is)
    (case a_d_law_digit => k_is)
    (case l_d_law_digit => k_is)
    (case c_d_law_digit => k_is)
    (case k_d_law_digit => k_is)
    (case a_d_law_low => k_is)
    (case l_d_law_low => k_is)
    (case c_d_law_low => k_is)
    (case k_d_law_low => k_is)
    (case a_d_law_plus => k_is)
    (case l_d_law_plus => k_is)
    (case c_d_law_plus => k_is)
    (case k_d_law_plus => k_is)
    (case a_d_law_less => k_is)
    (case l_d_law_less => k_is)
    (case c_d_law_less => k_is)
    (case k_d_law_less => k_is)
    (case a_d_law_times => k_is)
    (case l_d_law_times => k_is)
    (case c_d_law_times => k_is)
    (case k_d_law_times => k_is)
    (case a_d_law_under => k_is)
    (case l_d_law_under => k_is)
    (case c_d_law_under => k_is)
    (case k_d_law_under => k_is)
    (case a_d_law_shares => k_is)
    (case l_d_law_shares => k_is)
    (case c_d_law_shares => k_is)
    (case k_d_law_shares => k_is)
    (case a_d_law_gain => k_is)
    (case l_d_law_gain => k_is)
    (case c_d_law_gain => k_is)
    (case k_d_law_gain => k_is)
    (case a_d_law_gains => k_is)
    (case l_d_law_gains => k_is)
    (case c_d_law_gains => k_is)
    (case k_d_law_gains => k_is)
    (case a_d_law_parts => k_is)
    (case l_d_law_parts => k_is)
    (case c_d_law_parts => k_is)
    (case k_d_law_parts => k_is)
    (case a_d_law_due_price => k_is)
    (case l_d_law_due_price => k_is)
    (case c_d_law_due_price => k_is)
    (case k_d_law_due_price => k_is)
    (case a_d_law_bound => k_is)
    (case l_d_law_bound => k_is)
    (case c_d_law_bound => k_is)
    (case k_d_law_bound => k_is)
    (case a_d_law_made => k_is)
    (case l_d_law_made => k_is)
    (case c_d_law_made => k_is)
    (case k_d_law_made => k_is)
    (case a_d_law_odd => k_is)
    (case l_d_law_odd => k_is)
    (case c_d_law_odd => k_is)
    (case k_d_law_odd => k_is)
    (case a_d_law_refused => k_is)
    (case l_d_law_refused => k_is)
    (case c_d_law_refused => k_is)
    (case k_d_law_refused => k_is)
    (case a_d_bound => k_is)
    (case l_d_bound => k_is)
    (case c_d_bound => k_is)
    (case k_d_bound => k_is)
    (case t_d_bound => k_is)
    (case e_d_bound => rfl)
    (case a_d_law => k_is)
    (case l_d_law => k_is)
    (case c_d_law => k_is)
    (case k_d_law => k_is)
    (case a_d_total => k_is)
    (case l_d_total => k_is)
    (case c_d_total => k_is)
    (case k_d_total => k_is)
    (case t_d_total => k_is)
    (case e_d_total => rfl)
    (case aC_N => k_is)
    (case xC_N => k_is)
    (case sa_N => k_is)
    (case ga_N => k_is)
    (case gg_N => k_is)
    (case cl_N => k_is)
    (case mo_N => first | rfl | k_is | decide +kernel)
    (case kC_N => k_is)
    (case eC_N => k_is)
    (case tC_N => k_is)
    (case hd_N => k_is)
    (case vV_N => first | rfl | decide +kernel | k_is)
    (case sp_ => first | rfl | k_is | decide +kernel)
    (case tk_ => first | rfl | k_is | decide +kernel)
    (case i_i_N => k_is)
    (case ty_i_N => k_is)
    (case l_i_N => k_is)
    (case c_i_N => k_is)
    (case k_i_N => k_is)
    (case no_N_part => k_is)
    (case no_N_number => k_is)
    (case sb_N_N => first | rfl | k_is | decide +kernel)
    (case kt_N_ValueError => first | rfl | k_is | kit_is | decide +kernel)
    (case aC_C => k_is)
    (case pg_C => k_is)
    (case hd_C => k_is)
    (case po_C => k_is)
    (case sa_C => k_is)
    (case mk_C => k_is)
    (case kC_C => k_is)
    (case i_m_C_init => k_is)
    (case fn_m_C_init => k_is)
    (case l_m_C_init => k_is)
    (case c_m_C_init => k_is)
    (case k_m_C_init => k_is)
    (case no_own_shares => k_is)
    (case no_own_hearer => k_is)
    (case no_own_teller => k_is)
    (case g5_ => k_is)
    (case g6_ => k_is)
    (case aC_S => k_is)
    (case xC_S => k_is)
    (case sa_S => k_is)
    (case ga_S => k_is)
    (case gg_S => k_is)
    (case cl_S => k_is)
    (case mo_S => first | rfl | k_is | decide +kernel)
    (case kC_S => k_is)
    (case eC_S => k_is)
    (case tC_S => k_is)
    (case hd_S => k_is)
    (case vV_S => first | rfl | decide +kernel | k_is)
    (case i_i_S => k_is)
    (case ty_i_S => k_is)
    (case l_i_S => k_is)
    (case c_i_S => k_is)
    (case k_i_S => k_is)
    (case sb_S_S => first | rfl | k_is | decide +kernel)
    (case kt_S_ValueError => first | rfl | k_is | kit_is | decide +kernel)
    (case i_m_C_worlds => k_is)
    (case fn_m_C_worlds => k_is)
    (case l_m_C_worlds => k_is)
    (case c_m_C_worlds => k_is)
    (case k_m_C_worlds => k_is)
    (case i_m_C_shares => k_is)
    (case fn_m_C_shares => k_is)
    (case l_m_C_shares => k_is)
    (case c_m_C_shares => k_is)
    (case k_m_C_shares => k_is)
    (case z_abs => k_is)
    (case z_isinstance => k_is)
    (case z_int => k_is)
    (case z_bool => k_is)
    (case z_tuple => k_is)
    (case z_list => k_is)
    (case z_len => k_is)
    (case z_range => k_is)
    (case z_str => k_is)
    (case z_repr => k_is)
    (case z_sum => k_is)
    (case z_all => k_is)
    (case z_any => k_is)
    (case z_enumerate => k_is)
    (case z_zip => k_is)
    (case z_min => k_is)
    (case z_max => k_is)
    (case z_sorted => k_is)
    (case z_ValueError => k_is)
    (case z_ZeroDivisionError => k_is)
    (case z_OverflowError => k_is)
    (case z_IndexError => k_is)
    (case z_LookupError => k_is)
    (case z_ArithmeticError => k_is)
    (case z_KeyError => k_is)
    (case z_RuntimeError => k_is)
