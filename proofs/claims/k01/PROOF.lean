import PyProof.Rows.All
import Wide.All
import OpenK.AllK
import Wide.FinOn
import HandS.Base
import HandS.Call
import HandS.List
import HandS.Ends
import HandS.Words
import HandS.Exc
import HandS.ExcOwn
import HandS.ExcInit
import HandS.ExcField
import HandS.ExcIs
import HandS.WordsExc
import HandS.TryOnly
import HandS.TryMany
import KE.KExcIs
import PyProof.ReprRoads
import HandS.Wide
import HandS.IsInst
import HandS.Defaults
import HandS.Style
import HandS.Comp
import HandS.Dict
import PySem.Challenge.RW_besttelling_k01_fractions_made
namespace Fr
theorem fmod_abs (a : Int) {b : Int} (h : b ≠ 0) : (a.fmod b).natAbs < b.natAbs := by
  by_cases hb : 0 < b
  · have h1 := Int.fmod_lt_of_pos a hb
    have h2 := Int.fmod_nonneg_of_pos a hb
    omega
  · have hb' : 0 < -b := by omega
    have e := Int.neg_fmod_neg (-a) (-b)
    rw [Int.neg_neg, Int.neg_neg] at e
    have h1 := Int.fmod_lt_of_pos (-a) hb'
    have h2 := Int.fmod_nonneg_of_pos (-a) hb'
    omega
theorem gcd_step (a b : Int) : Int.gcd b (a.fmod b) = Int.gcd a b := by
  rw [Int.fmod_def, Int.mul_comm, Int.gcd_sub_mul_right_right, Int.gcd_comm]
theorem gcd_pos {t b : Int} (h : b ≠ 0) : (0 : Int) < (Int.gcd t b : Int) := by
  have : 0 < Int.gcd t b := Int.gcd_pos_of_ne_zero_right t h
  omega
theorem low_num {t b : Int} (hb : 0 < b) : t.fdiv (Int.gcd t b) = (Rat.divInt t b).num := by
  rw [Rat.num_divInt, Int.sign_eq_one_of_pos hb, Int.one_mul, Int.gcd_comm b t, Int.fdiv_eq_ediv_of_nonneg _ (by omega)]
theorem low_den {t b : Int} (hb : 0 < b) : b.fdiv (Int.gcd t b) = ((Rat.divInt t b).den : Int) := by
  rw [Rat.den_divInt, if_neg (by omega), Int.gcd_comm b t, Int.fdiv_eq_ediv_of_nonneg _ (by omega), Int.natCast_ediv]
  congr 1
  omega
theorem lowN_num {t b : Int} (hb : b < 0) : t.fdiv (-(Int.gcd t b : Int)) = (Rat.divInt t b).num := by
  have e := Int.neg_fdiv_neg (-t) (Int.gcd t b : Int)
  rw [Int.neg_neg] at e
  rw [e, Rat.num_divInt, Int.sign_eq_neg_one_of_neg hb, Int.gcd_comm b t, Int.fdiv_eq_ediv_of_nonneg _ (by omega), Int.neg_mul, Int.one_mul]
theorem lowN_den {t b : Int} (hb : b < 0) : b.fdiv (-(Int.gcd t b : Int)) = ((Rat.divInt t b).den : Int) := by
  have e := Int.neg_fdiv_neg (-b) (Int.gcd t b : Int)
  rw [Int.neg_neg] at e
  rw [e, Rat.den_divInt, if_neg (by omega), Int.gcd_comm b t, Int.fdiv_eq_ediv_of_nonneg _ (by omega), Int.natCast_ediv]
  congr 1
  omega
/-- top and bottom below 2 ^ n -/
def Bd (n : Nat) (q : Rat) : Prop := q.num.natAbs < 2 ^ n ∧ q.den < 2 ^ n
theorem Bd.mono {n m : Nat} {q : Rat} (h : Bd n q) (l : n ≤ m) : Bd m q :=
  ⟨Nat.lt_of_lt_of_le h.1 (Nat.pow_le_pow_right (by decide) l), Nat.lt_of_lt_of_le h.2 (Nat.pow_le_pow_right (by decide) l)⟩
theorem bd_low {t b : Int} {n : Nat} (ht : t.natAbs < 2 ^ n) (hb : b.natAbs < 2 ^ n) (h : b ≠ 0) : Bd n (Rat.divInt t b) := by
  constructor
  · rw [Rat.num_divInt]
    have h1 : (b.sign * t).natAbs = t.natAbs := by
      rw [Int.natAbs_mul, Int.natAbs_sign_of_ne_zero h, Nat.one_mul]
    have h2 : (b.sign * t / (b.gcd t : Int)).natAbs ≤ (b.sign * t).natAbs := Int.natAbs_ediv_le_natAbs _ _
    omega
  · rw [Rat.den_divInt, if_neg h]
    exact Nat.lt_of_le_of_lt (Nat.div_le_self _ _) hb
theorem den_pos (q : Rat) : (0 : Int) < (q.den : Int) := by
  have := q.den_pos
  omega
theorem den_ne (q : Rat) : (q.den : Int) ≠ 0 := Int.ne_of_gt (den_pos q)
theorem add_eq (a b : Rat) : Rat.divInt (a.num * b.den + b.num * a.den) (a.den * b.den) = a + b := by
  rw [← Rat.divInt_add_divInt _ _ (den_ne a) (den_ne b), Rat.num_divInt_den, Rat.num_divInt_den]
theorem sub_eq (a b : Rat) : Rat.divInt (a.num * b.den - b.num * a.den) (a.den * b.den) = a - b := by
  rw [Rat.sub_def, Rat.normalize_eq_mkRat, ← Int.natCast_mul]
  rfl
theorem mul_eq (a b : Rat) : Rat.divInt (a.num * b.num) (a.den * b.den) = a * b := by
  rw [← Rat.divInt_mul_divInt, Rat.num_divInt_den, Rat.num_divInt_den]
theorem div_eq (a b : Rat) : Rat.divInt (a.num * b.den) (a.den * b.num) = a / b := by
  rw [Rat.div_def, Rat.inv_def, ← Rat.divInt_mul_divInt, Rat.num_divInt_den]
theorem mul_bd {i j : Int} {n m : Nat} (hi : i.natAbs < 2 ^ n) (hj : j.natAbs < 2 ^ m) : (i * j).natAbs < 2 ^ (n + m) := by
  rw [Int.natAbs_mul, Nat.pow_add]
  exact Nat.mul_lt_mul'' hi hj
theorem add_bd {i j : Int} {n : Nat} (hi : i.natAbs < 2 ^ n) (hj : j.natAbs < 2 ^ n) : (i + j).natAbs < 2 ^ (n + 1) := by
  rw [Nat.pow_succ]
  omega
theorem sub_bd {i j : Int} {n : Nat} (hi : i.natAbs < 2 ^ n) (hj : j.natAbs < 2 ^ n) : (i - j).natAbs < 2 ^ (n + 1) := by
  rw [Nat.pow_succ]
  omega
theorem Bd.dn {n : Nat} {q : Rat} (h : Bd n q) : (q.den : Int).natAbs < 2 ^ n := by
  rw [Int.natAbs_natCast]
  exact h.2
theorem up {i : Int} {n m : Nat} (h : i.natAbs < 2 ^ n) (l : n ≤ m) : i.natAbs < 2 ^ m := Nat.lt_of_lt_of_le h (Nat.pow_le_pow_right (by decide) l)
theorem dd_ne (a b : Rat) : (a.den : Int) * (b.den : Int) ≠ 0 := Int.mul_ne_zero (den_ne a) (den_ne b)
theorem bd_add {a b : Rat} {n m : Nat} (ha : Bd n a) (hb : Bd m b) : Bd (n + m + 1) (a + b) := by
  rw [← add_eq]
  refine bd_low ?_ (up (mul_bd ha.dn hb.dn) (Nat.le_succ _)) (dd_ne a b)
  have h2 := mul_bd hb.1 ha.dn
  rw [Nat.add_comm m n] at h2
  exact add_bd (mul_bd ha.1 hb.dn) h2
theorem bd_sub {a b : Rat} {n m : Nat} (ha : Bd n a) (hb : Bd m b) : Bd (n + m + 1) (a - b) := by
  rw [← sub_eq]
  refine bd_low ?_ (up (mul_bd ha.dn hb.dn) (Nat.le_succ _)) (dd_ne a b)
  have h2 := mul_bd hb.1 ha.dn
  rw [Nat.add_comm m n] at h2
  exact sub_bd (mul_bd ha.1 hb.dn) h2
theorem bd_mul {a b : Rat} {n m : Nat} (ha : Bd n a) (hb : Bd m b) : Bd (n + m) (a * b) := by
  rw [← mul_eq]
  exact bd_low (mul_bd ha.1 hb.1) (mul_bd ha.dn hb.dn) (dd_ne a b)
theorem ratio_gcd (q : Rat) : Int.gcd q.num q.den = 1 := by
  have := q.reduced
  rw [Int.gcd, Int.natAbs_natCast]
  exact this
theorem foldl_add (l : List Rat) : ∀ a : Rat, l.foldl (· + ·) a = a + l.sum := by
  induction l with
  | nil => intro a; rw [List.foldl_nil, List.sum_nil, Rat.add_zero]
  | cons x r ih => intro a; rw [List.foldl_cons, ih, List.sum_cons, Rat.add_assoc]
theorem sum_rev (l : List Rat) : l.reverse.sum = l.sum := by
  induction l with
  | nil => rfl
  | cons x r ih => rw [List.reverse_cons, List.sum_append, ih, List.sum_cons, List.sum_cons, List.sum_nil, Rat.add_zero, Rat.add_comm]
theorem div_self' {a : Rat} (h : a ≠ 0) : a / a = 1 := by
  rw [Rat.div_def]
  exact Rat.mul_inv_cancel a h
end Fr

set_option Elab.async false
set_option linter.all false
set_option maxRecDepth 100000
set_option maxHeartbeats 4000000
namespace BX
open PySem PySem.Spec PyProof.Rows L2
/-! ### several clauses «except x as n» -/
structure Clause where
  cls : Value
  slot : Nat
  ts : Addr → Value → Option Addr → TS
def wClauses (K : PySem.W.Frag) (Wout : WX) (D : Ends) : List Clause → WX
  | [] => Wout
  | c :: r => wAs K c.cls c.slot c.ts (wClauses K Wout D r) D
inductive ClausesOk (X : Cx) : List ExceptHandler → List Clause → Prop
  | nil : ClausesOk X [] []
  | cons {x n : Str} {c : Value} {i : Nat} {ts : Addr → Value → Option Addr → TS} {b₀ : Stmt} {suite : List Stmt} {np pos' : Pos} {hds : List ExceptHandler} {l : List Clause} (hi : X.N[i]? = some n) (hln : X.env.kindOf n = some .local) (hc : Names X x c)
      (hsu : ∀ (a : Addr) (oe : Obj) (cls : Value) (d : Option Addr) (pn : List (Addr × Obj)), Zc cls d oe → (∃ vs, oe.data = .fields vs) → PSs (X.suite a ((a, oe) :: pn)) (b₀ :: suite) (ts a cls d)) (r : ClausesOk X hds l) :
      ClausesOk X (.ExceptHandler (some (.Name x np)) (some n) (b₀ :: suite) pos' :: hds) (⟨c, i, ts⟩ :: l)
section
variable {X : Cx} {body : List Stmt} {h₀ : ExceptHandler} {hds : List ExceptHandler} {l : List Clause} {pos : Pos} {tb : WX → TS} {Wout : WX}
theorem ps_try_clauses (hs : X.stack = X.env :: X.outer) (hf : X.env.frame = some X.env.locals) (hN : X.N.Nodup) (tk : Takes X Wout)
    (hb : ∀ (W : WX) (pn : List (Addr × Obj)) (xe : Value → Shared → Prop), Takes (X.tr pn xe) W → PassesOwn (model X.prog X.w) X.A X.env xe → PSs (X.tr pn xe) body (tb W))
    (hh : ClausesOk X (h₀ :: hds) l) : PS X (.Try body (h₀ :: hds) [] [] pos) (fun D σ H => tb (wClauses X.K Wout D l) D σ H) := by
  refine ⟨fun pins s σ H D I h => ?_⟩
  have ok := I.ok
  have hfr : X.A.frames = some (X.env :: X.outer) := by rw [ok.frames, hs]
  refine wpAny_Try_except ?_
  refine wpAny_mono ((hb (wClauses X.K Wout D l) (X.pn ++ pins) (fun e s₁ => wpAny (model X.prog X.w) X.A (noteFrame e X.env) (fun _ s₂ => wpAny (model X.prog X.w) X.A (setFlight e none) (fun _ s₃ =>
    wpAny (model X.prog X.w) X.A (handleBy e X.env (h₀ :: hds)) (SP X pins D) X.xe s₃) X.xe s₂) X.xe s₁) (fun u s' xx => ?_) PassesOwn.looking).run [] s σ H D (I.toTry _) h) (fun f s1 hsp => ?_) (fun e s1 he => he)
  · obtain ⟨a, B, sI, pins', σ', H', cls, d, rfl, J', nb, up, sky, na, os, ag, ww⟩ := xx
    have J : Inv X pins σ' H' sI := J'.ofTry ok
    have sky' : Sky B (X.env :: X.outer) a (Zc cls d) X.env.locals s'.heap := by rw [← hs]; exact sky
    show wpAny (model X.prog X.w) X.A (noteFrame (.ref a) X.env) _ _ _
    refine Sky.land Zc.steady hfr hf sky' fun h3 fl3 up3 => ?_
    have J3 : Inv X pins σ' H' { s' with heap := h3 } := J.landed nb fl3.1 (up.trans up3) os ag
    obtain ⟨oe3, vs3, he3, hz3, hd3⟩ := fl3.there
    have nfr : a ∉ frs (X.env :: X.outer) := fun hm => by
      obtain ⟨_, o', e', hnf⟩ := fl3.2.2.1.mem hm
      rw [he3] at e'; cases e'
      exact hnf _ hd3
    have nL : a ≠ X.env.locals := fun z => nfr (List.mem_filterMap.mpr ⟨X.env, List.mem_cons_self, by rw [hf, z]⟩)
    have nF : a ∉ X.fs := fun hm => by
      obtain ⟨e, he, q⟩ := List.mem_filterMap.mp hm
      exact nfr (List.mem_filterMap.mpr ⟨e, List.mem_cons_of_mem _ he, q⟩)
    have S3 := J3.suite he3 hd3 na nL nF
    have go : ∀ {hds' : List ExceptHandler} {l' : List Clause}, ClausesOk X hds' l' → wClauses X.K Wout D l' cls d σ' H' →
        wpAny (model X.prog X.w) X.A (handleBy (.ref a) X.env hds') (SP X pins D) X.xe { s' with heap := h3 } := by
      intro hds' l' hk
      induction hk with
      | nil =>
        intro ww
        refine wpAny_handleBy_nil ?_
        obtain ⟨k1, k2, k3, oe, vs, T, oT, ts', he, hz, hd, h1, hr⟩ := id fl3
        unfold PySem.passOn
        refine wpAny_bind (wpAny_field he hd h1 ?_)
        rw [if_neg (show ¬ ((Value.ref T == Value.none) = true) from by simp)]
        have fin : wpAny (model X.prog X.w) X.A (setFlight (.ref a) X.env.frame) (fun _ s4 => wpAny (model X.prog X.w) X.A (throw (.ref a) : Sem Flow) (SP X pins D) X.xe s4) X.xe { s' with heap := h3 } := by
          rw [hf]
          refine HandSPX.setFlight_upZ fl3 fun h4 hh4 up4 => wpAny_throw (tk _ _ ?_)
          exact ⟨a, B, sI, pins, σ', H', cls, d, rfl, J, nb, (up.trans up3).trans up4, .inr (.inr (by rw [hs]; exact hh4)), na, os, ag, ww⟩
        first
          | exact wpAny_bind (wpAny_pure (wpAny_bind fin))
          | exact wpAny_bind fin
      | @cons x n c i ts b₀ suite np pos' hds2 l2 hi hln hc hsu r ih =>
        intro ww
        have hloc : Loc X.env.scope n := .inl hln
        obtain ⟨b, hb1, hyes, hno⟩ := ww
        refine wpAny_handleBy_cons (codeAny_handlers_test ?_) (by intro q; cases q)
        have LT : PySem.W.Looks (model X.prog X.w) h3 (typeOf (.ref a)) cls := fun A Q E s k q => wpAny_typeOf_ref (k _ _ he3) (by rw [hz3.1]; exact q)
        have LM := PySem.W.exm_one (M := model X.prog X.w) (J3.kIn) LT hb1
        have test : ∀ {Q : Value → Shared → Prop} {E : Value → Shared → Prop}, Q c { s' with heap := h3 } → wpAny (model X.prog X.w) (X.A.mark (some (.ref a))) (eval (.Name x np) X.env) Q E { s' with heap := h3 } := fun {Q E} q => by
          obtain ⟨hg, hdbg, hm | ⟨hm, hv, hnn⟩⟩ := hc
          · exact ld_glob (X := X.suite a ((a, oe3) :: (X.pn ++ pins))) S3 hg hm q hdbg
          · exact ld_blt (X := X.suite a ((a, oe3) :: (X.pn ++ pins))) S3 hg hm hv q hnn hdbg
        refine test (LM.here ?_)
        cases b with
        | true =>
          refine codeAny_handlers_suite_as ?_
          refine HandSPX.lands_againZ fl3 fun h4 fl4 up4 => ?_
          have J4 : Inv X pins σ' H' { s' with heap := h4 } := J.landed nb fl4.1 ((up.trans up3).trans up4) os ag
          obtain ⟨oe4, vs4, he4, hz4, hd4⟩ := fl4.there
          have S4 := J4.suite he4 hd4 na nL nF
          refine store_ok (X := X.suite a ((a, oe4) :: (X.pn ++ pins))) (v := .ref a) S4 hN hi hloc rfl (fun s5 S5 => ?_) (.inr hln)
          refine wpAny_mono ((hsu a oe4 cls d (X.pn ++ pins) hz4 ⟨_, hd4⟩).run [] s5 _ H' _ S5 (hyes rfl a na)) (fun f s6 hsp => ?_) (fun _ _ z => False.elim z)
          have end_ : ∀ {σ6 : L2.St} {H6 : Hp} {Q : Shared → Prop}, Inv (X.suite a ((a, oe4) :: (X.pn ++ pins))) [] σ6 H6 s6 → (∀ s7, Inv X pins (σ6.set i none) H6 s7 → Q s7) →
              wpAny (model X.prog X.w) X.A (do bindName X.env n .none; unbindBehindTheSuite X.env n pos') (fun _ s7 => Q s7) X.xe s6 := fun {σ6 H6 Q} S6 hq => gone_ok (S6.unsuite ok) hN hi hln hq
          cases f with
          | next =>
            obtain ⟨σ6, H6, S6, q6⟩ := hsp
            exact end_ S6 fun s7 J7 => ⟨_, _, J7, q6⟩
          | brk =>
            obtain ⟨σ6, H6, S6, q6⟩ := hsp
            exact end_ S6 fun s7 J7 => ⟨_, _, J7, q6⟩
          | cont =>
            obtain ⟨σ6, H6, S6, q6⟩ := hsp
            exact end_ S6 fun s7 J7 => ⟨_, _, J7, q6⟩
          | ret u =>
            obtain ⟨v6, σ6, H6, S6, r6, q6⟩ := hsp
            exact end_ S6 fun s7 J7 => ⟨_, _, _, J7, r6, q6⟩
        | false =>
          show wpAny _ X.A (handleBy (.ref a) X.env hds2) _ _ _
          exact ih (hno rfl)
    exact go hh ww
  · cases f with
    | next =>
      obtain ⟨σ', H', J', q⟩ := hsp
      exact wpAny_execs_nil ⟨σ', H', J'.ofTry ok, q⟩
    | brk =>
      obtain ⟨σ', H', J', q⟩ := hsp
      exact ⟨σ', H', J'.ofTry ok, q⟩
    | cont =>
      obtain ⟨σ', H', J', q⟩ := hsp
      exact ⟨σ', H', J'.ofTry ok, q⟩
    | ret u =>
      obtain ⟨v, σ', H', J', r, q⟩ := hsp
      exact ⟨v, σ', H', J'.ofTry ok, r, q⟩
end
/-! ### isinstance of a caught error, with or without fields -/
def rIsX (K : PySem.W.Frag) (D a : Addr) (cls : Value) (d : Option Addr) : List V → Hp → VK → Prop := fun xs H Q => ∃ (c : V) (u : Value) (b : Bool), xs = [.ref a, c] ∧ cls = .ref D ∧ ClsE c u ∧ (d = none ∨ ∃ dd fs, d = some dd ∧ H dd = some (.xd fs)) ∧ PySem.W.kitOne K (.ref D) u = some b ∧ Q (.bl b) H
where ClsE (c : V) (u : Value) : Prop := ∀ w, RelV c w → w = u
theorem call_isX {X : Cx} {a D : Addr} {oe : Obj} {cls : Value} {d : Option Addr} {pn : List (Addr × Obj)} (C : ExcC X.K D) (hz : Zc cls d oe) (hf : ∃ vs, oe.data = .fields vs) : CallR (X.suite a ((a, oe) :: pn)) (.builtin "isinstance") (rIsX X.K D a cls d) := by
  intro pins s σ H xs us Q I r h
  obtain ⟨c, u, b, rfl, rfl, hcv, hdd, e, q⟩ := h
  cases r with
  | cons rx rr =>
    cases rr with
    | cons rt rr =>
      cases rr
      cases rx
      have ec := hcv _ rt
      subst ec
      obtain ⟨hget, _⟩ := I.pin (a, oe) (List.mem_append.mpr (.inl List.mem_cons_self))
      obtain ⟨vs, hv⟩ := hf
      have hcl : (PySem.W.clsIn X.K D).isSome = true := by
        obtain ⟨cd, hc, _⟩ := PySem.W.any_some C.hd
        rw [hc]
        rfl
      have J : ∃ od, PySem.W.InstAt s.heap a oe D od := by
        obtain ⟨oc, od, oda, osl⟩ := oe
        obtain ⟨h1, h2⟩ := hz
        dsimp only at h1 h2 hv
        subst h1 h2 hv
        rcases hdd with rfl | ⟨dd, fs, rfl, hx⟩
        · exact ⟨none, hget, rfl, rfl, trivial⟩
        · obtain ⟨o, ho⟩ := objOk_get (I.hok dd _ hx)
          exact ⟨some o, hget, rfl, rfl, ho⟩
      obtain ⟨od, J⟩ := J
      exact PySem.W.kia_one (PySem.W.kitx_exc hcl C.hg C.hk C.hs C.ha C.hn C.ht C.hm) I.kIn J e (fun z => nomatch z) fun tk => ⟨.bl b, H, I.kept (t' := tk) fun _ _ z => z, rfl, q⟩
end BX

set_option Elab.async false
set_option linter.all false
set_option maxRecDepth 100000
set_option maxHeartbeats 4000000
namespace BX
open PySem PySem.Spec PyProof.Rows L2
/-! ### promises of defs that are called where nothing is being shown -/
structure FnOkG (P : Program) (w : World) (K : PySem.W.Frag) (mg : Str → Option Value) (base : Heap) (CX : CXT) (k : Nat) (f : Addr) (fd : FuncData) (ps : List Str) (sp : Sp) : Prop where
  len : ∀ vs H Q E, sp vs H Q E → vs.length = ps.length
  run : ∀ (A : Around) (outer : List Env) (s : Shared) (H : Hp) (args : Args) (us : List Value) (vs : List V) (Q : VK) (E : XK), Room k A → A.guards = some [] → Env0 P w K mg base A outer s H → BindsTo s fd args (ps.zip us) → Vals vs us → sp vs H Q E →
    codeAny (model P w) A (.call (.ref f) args) (CR CX outer P w H s Q E) s
section
variable {P : Program} {w : World} {K : PySem.W.Frag} {mg : Str → Option Value} {base : Heap} {CX : CXT} {k : Nat} {f : Addr} {fd : FuncData} {ps : List Str} {sp : Sp}
theorem FnOkG.of (F : FnOk P w K mg base CX k f fd ps sp) : FnOkG P w K mg base CX k f fd ps sp := ⟨F.len, fun A outer s H args us vs Q E hr _ e b r h => F.run A outer s H args us vs Q E hr e b r h⟩
theorem FnOkG.mono {j : Nat} (F : FnOkG P w K mg base CX j f fd ps sp) (h : j ≤ k) : FnOkG P w K mg base CX k f fd ps sp := ⟨F.len, fun A outer s H args us vs Q E hr => F.run A outer s H args us vs Q E (hr.mono h)⟩
/-- the body of such a def -/
theorem fn_ofG {name qual : Str} {params : Arguments} {body : List Stmt} {scope : Scope} {dV kV doc pm cdv ct oc : Value} {an od : Option Addr} {osl : Array (Option Value)} {N : List Str}
    (lk : K.lookup f = some ⟨oc, od, .func (PySem.W.fnOf name qual params body scope dV kV doc pm an cdv ct), osl⟩) (hcd : PySem.W.codeIn K cdv qual = true) (S : FnScope N ps scope) (len : ∀ vs H Q E, sp vs H Q E → vs.length = ps.length)
    (hbody : ∀ (A : Around) (outer : List Env) (s : Shared) (H : Hp) (vs : List V) (Q : VK) (E : XK), Room k (A.deeper (envOfC qual scope s.heap.objs.size f cdv)) → (A.deeper (envOfC qual scope s.heap.objs.size f cdv)).guards = some [] → sp vs H Q E →
      ∃ t, PSs (cxOf CX P w K mg base N qual scope f cdv A outer s H E) body t ∧ t { nx := fun _ H' => Q .non H', rt := Q } (start N vs) H) :
    FnOkG P w K mg base CX (k + 1) f (PySem.W.fnOf name qual params body scope dV kV doc pm an cdv ct) ps sp := by
  refine ⟨len, fun A outer s H args us vs Q E hr hgd e0 hb r hsp => ?_⟩
  have KX : K.In s.heap := e0.mod.kin.keeps fun b o e => (e0.bs b o e).1
  have lim : s.heap.NoLimit := e0.mod.nolimit.keeps fun b o e => (e0.bs b o e).1
  have hkind : ∀ y ∈ ps.zip us, scope.names.lookup y.1 = some .local ∨ (scope.names.lookup y.1 = some .cell ∧ ((cellsFrom (s.heap.objs.size + 1) scope.names []).lookup y.1).isSome = true) := fun ⟨n, v⟩ hy => by
    rcases S.par n (List.of_mem_zip hy).1 with q | q
    · exact .inl q
    · exact .inr ⟨q, PySem.W.cellsFrom_some _ _ _ (.inl q)⟩
  refine codeAny_call_function hr.depth (KX _ _ lk) rfl S.co S.gen rfl (PySem.W.codeRec_of KX hcd) (hb _ _ _ _ ?_)
  refine wpAny_newFunctionEnv_cells S.kind hkind fun env he s1 x => ?_
  subst he
  refine ⟨lim.keeps x.toInCall.keep, codeAny_func ?_⟩
  obtain ⟨t, ht, hq⟩ := hbody A outer s H vs Q E (hr.deeper _) hgd hsp
  have I : Inv (cxOf CX P w K mg base N qual scope f cdv A outer s H E) [] (start N vs) H s1 := inv_start S hr.hd e0 (len _ _ _ _ hsp) r x
  refine wpAny_mono (ht.run [] s1 (start N vs) H _ I hq) (fun fl s' hs => ?_) fun e s' hs => hs
  have fin : ∀ {σ' : L2.St} {H' : Hp} {v : V} {u : Value}, Inv (cxOf CX P w K mg base N qual scope f cdv A outer s H E) [] σ' H' s' → RelV v u → Q v H' → CE outer P w H s Q u s' :=
    fun {σ' H' v u} J rv q => ⟨v, H', J.os, J.bare, J.base, J.hok, rv, q⟩
  cases fl with
  | ret u =>
    obtain ⟨v, σ', H', J, rv, q⟩ := hs
    exact fin J rv q
  | next =>
    obtain ⟨σ', H', J, q⟩ := hs
    exact fin (v := V.non) (u := Value.none) J rfl q
  | brk =>
    obtain ⟨_, _, _, q⟩ := hs
    exact False.elim q
  | cont =>
    obtain ⟨_, _, _, q⟩ := hs
    exact False.elim q
theorem okG {x qual : Str} {st : Stmt} {N : List Str} (F : Fun K x qual st f fd) (S : FnScope N ps (defScope st)) (len : ∀ vs H Q E, sp vs H Q E → vs.length = ps.length)
    (hbody : ∀ (cdv : Value) (A : Around) (outer : List Env) (s : Shared) (H : Hp) (vs : List V) (Q : VK) (E : XK), Room k (A.deeper (envOfC qual (defScope st) s.heap.objs.size f cdv)) → (A.deeper (envOfC qual (defScope st) s.heap.objs.size f cdv)).guards = some [] → sp vs H Q E →
      ∃ t, PSs (cxOf CX0 P w K mg base N qual (defScope st) f cdv A outer s H E).nox (defBody st) t ∧ t { nx := fun _ H' => Q .non H', rt := Q } (start N vs) H) : FnOkG P w K mg base CX0 (k + 1) f fd ps sp := by
  obtain ⟨oc, od, kV, doc, pm, an, cdv, ct, osl, rfl, lk, hcd⟩ := F.ex
  refine fn_ofG lk hcd S len fun A outer s H vs Q E hr hgd hsp => ?_
  obtain ⟨t, h, q⟩ := hbody cdv A outer s H vs Q E hr hgd hsp
  exact ⟨t, h.nox, q⟩
end
section
variable {X : Cx} {CX : CXT} {k : Nat} {f : Addr} {fd : FuncData} {ps : List Str} {sp : Sp} {E : XK} {x : Str} {p pos : Pos} {e : Expr} {es : List Expr} {t : TA} {ds : List Value} {dvs : List V}
theorem run_fnG {pins : List (Addr × Obj)} {σ : L2.St} {H : Hp} {s : Shared} {Q : VK} {us : List Value} {vs : List V} (F : FnOkG X.prog X.w X.K X.mg X.base CX k f fd ps sp) (hr : Room k X.A) (hgd : X.A.guards = some []) (hb : Binds X.K fd ps ds) (hd : Vals dvs ds) (hx : Passes CX X E)
    (I : Inv X pins σ H s) (r : Vals vs us) (h : sp (vs ++ dvs) H Q E) : wpAny (model X.prog X.w) X.A (call (.ref f) us) (EP X pins σ Q) X.xe s := by
  have r2 : Vals (vs ++ dvs) (us ++ ds) := r.append hd
  have hl : (us ++ ds).length = ps.length := by rw [← r2.length]; exact F.len _ _ _ _ h
  refine wpAny_call (codeAny_mono (F.run X.A X.stack s H ⟨us, []⟩ (us ++ ds) (vs ++ dvs) Q E hr hgd I.env0 (hb s us I.kIn hl) r2 h) fun r s' hq => ?_)
  cases r with
  | error e => exact hx pins σ H s e s' I hq
  | ok fl =>
    cases fl with
    | ret u => exact I.after hq
    | next => exact False.elim hq
    | brk => exact False.elim hq
    | cont => exact False.elim hq
theorem pe_callG (F : FnOkG X.prog X.w X.K X.mg X.base CX k f fd ps sp) (hr : Room k X.A) (hgd : X.A.guards = some []) (hg : Gl X x) (hm : X.mg x = some (.ref f)) (hk : PySem.W.keepIn X.K (.ref f) = true) (hb : Binds X.K fd ps ds) (hd : Vals dvs ds) (hx : Passes CX X E)
    (ha : PA X (e :: es) t) (hdb : (x == ("__debug__" : Str)) = false := by decide) (he : starEach (e :: es) X.env = (false, eval e X.env) :: starEach es X.env := by rfl) (hpl : (backTo pos (starEach es X.env)).any (·.1) = false := by rfl) :
    PE X (.Call (.Name x p) (e :: es) [] pos) (tCall sp dvs E t) := by
  refine ⟨fun pins s σ H Q I h => ?_⟩
  refine wpAny_Call_Name_kw (ld_glob I hg hm ?_ hdb)
  refine PySem.W.callWith_K (h₀ := X.base) I.ok.mod.kin hk (thn (ha.run pos pins s σ H _ I h) fun us s1 ⟨vs, H1, I1, r, q⟩ => ⟨I1.kIn, ?_⟩) he hpl
  exact run_fnG F hr hgd hb hd hx I1 r q
end
/-! ### repr -/
/-- data, or the empty dict -/
def Dq (K : PySem.W.Frag) (H : Hp) (v : V) (d : PyData) : Prop := Dp K H v d ∨ ∃ a, v = .ref a ∧ H a = some (.dK []) ∧ d = .dict []
mutual
theorem noDict {K : PySem.W.Frag} {H : Hp} : ∀ (d : PyData) (v : V), Dp K H v d → d.hasDict = false
  | .none, _, _ => rfl
  | .bool _, _, _ => rfl
  | .int _, _, _ => rfl
  | .str _, _, _ => rfl
  | .list ds, _, h => by
    cases h with
    | lst _ ha => exact noDicts ds _ ha
  | .tuple ds, _, h => by
    cases h with
    | tup _ ha => exact noDicts ds _ ha
  | .dict _, _, h => by cases h
theorem noDicts {K : PySem.W.Frag} {H : Hp} : ∀ (ds : List PyData) (vs : List V), DpAll K H vs ds → PyData.hasDictAll ds = false
  | [], _, _ => rfl
  | d :: ds, _, h => by
    cases h with
    | cons h1 h2 =>
      show (PyData.hasDict d || PyData.hasDictAll ds) = false
      rw [noDict d _ h1, noDicts ds _ h2]
      rfl
end
def rRepr (K : PySem.W.Frag) : List V → Hp → VK → Prop := fun xs H Q => ∃ x d, xs = [x] ∧ Dq K H x d ∧ d.showable = true ∧ d.depth ≤ 64 ∧ d.shown.length ≤ sizeLine ∧ Q (.str d.shown) H
theorem call_reprD {X : Cx} (hgd : X.A.guards = some []) (hu : X.A.units + 80 < cLine) : CallR X (.builtin "repr") (rRepr X.K) := by
  intro pins s σ H xs us Q I r h
  obtain ⟨x, d, rfl, hd, hs, hdp, hsz, q⟩ := h
  cases r with
  | @cons _ u _ _ ru rn =>
    cases rn
    have up : ∀ {a : Addr} {as : List Addr}, Reads s.heap (.ref a) d as → (d.hasDict = true → sysModules ∉ as) → wpAny (model X.prog X.w) X.A (call (.builtin "repr") [.ref a]) (EP X pins σ Q) X.xe s := fun {a as} rd hsm =>
      repr_of_reads' rd hs hsm hgd (by omega) (fun _ _ z => z) (fun h' u tk hk => ⟨.str d.shown, H, I.kept (t' := tk) hk, ⟨_, rfl⟩, q⟩) hsz
    rcases hd with hd | ⟨a, rfl, ha, rfl⟩
    · have nd := noDict d x hd
      cases hd with
      | non => cases (show u = Value.none from ru); exact P.repr_of_none ⟨.str (PyData.shown .none), H, I.tok _, ⟨_, rfl⟩, q⟩
      | bl b => cases (show u = Value.bool b from ru); exact P.repr_of_bool ⟨.str (PyData.shown (.bool b)), H, I.tok _, ⟨_, rfl⟩, q⟩
      | int i => obtain ⟨t, e⟩ := (show ∃ t, u = Value.int i t from ru); cases e; exact P.repr_of_int (of_decide_eq_true hs) ⟨.str (PyData.shown (.int i)), H, I.tok _, ⟨_, rfl⟩, q⟩
      | str y => obtain ⟨t, e⟩ := (show ∃ t, u = Value.str y t from ru); cases e; exact P.repr_of_str ⟨.str (PyData.shown (.str y)), H, I.tok _, ⟨_, rfl⟩, q⟩ hsz
      | @lst a xs ds h1 h2 =>
        cases (show u = Value.ref a from ru)
        obtain ⟨as, rd⟩ := Dp.reads I _ _ _ (Dp.lst h1 h2) (show RelV (.ref a) (.ref a) from rfl)
        exact up rd (fun z => by rw [nd] at z; cases z)
      | @tup a xs ds h1 h2 =>
        cases (show u = Value.ref a from ru)
        obtain ⟨as, rd⟩ := Dp.reads I _ _ _ (Dp.tup h1 h2) (show RelV (.ref a) (.ref a) from rfl)
        exact up rd (fun z => by rw [nd] at z; cases z)
    · cases (show u = Value.ref a from ru)
      obtain ⟨_, hns, vs, hkv, o, es, ep, h1, h2, h3, h4, h5, _⟩ := (show ObjOk X.prog X.w H s.heap a (.dK []) from I.hok a _ ha)
      cases hkv
      have he : es.toList = [] := List.eq_nil_of_length_eq_zero h5.length
      refine up (as := a :: [] ++ []) (Reads.dict h1 h2.1 h3 (by rw [he]; exact .nil) (by rw [he]; exact .nil)) (fun _ hm => ?_)
      have ea : sysModules = a := by simpa using hm
      rw [← ea] at hns
      exact absurd hns (by decide +kernel)
end BX

set_option Elab.async false
set_option linter.all false
set_option maxRecDepth 100000
set_option maxHeartbeats 2000000
namespace Co
open PySem PySem.Spec PyProof.Rows L2
open Fr (Bd)
/-! ### // by any number but nought -/
def CDivZ (_ j : Int) : Prop := j ≠ 0 ∧ j.natAbs.log2 < 9000
theorem op_fdivZ {X : Cx} : OpR X (binaryOp .FloorDiv) (rI CDivZ fun i j => .int (i.fdiv j)) := opI fun i j _ _ _ _ _ hc q => floordiv_int hc.1 q (.inl (PyProof.noPylong_of_log2 hc.2))
theorem divZ {i j : Int} {n : Nat} (h : j ≠ 0) (hb : j.natAbs < 2 ^ n) (h0 : 0 < n) (h9 : n ≤ 9000) : CDivZ i j := ⟨h, Nat.lt_of_lt_of_le (PySem.Flt.log2_lt_of h0 hb) h9⟩
theorem same_new {H : Hp} {p : Addr} (h : H p = none) (o : HO) : Same H (upd H p o) := fun b u q => by rw [upd_ne (ne_of_none q h)]; exact q
theorem seqT {K : PySem.W.Frag} {H H' : Hp} {a : Addr} {xs : List V} (e : Same H H') (h : SqT K H a xs) : SqT K H' a xs := by
  rcases h with (h | ⟨o, h⟩) | h
  · exact .inl (.inl (e _ _ h))
  · exact .inl (.inr ⟨o, e _ _ h⟩)
  · exact .inr h
/-- what stands in a fraction's tuple -/
def rp (q : Rat) : List V := [.int q.num, .int (q.den : Int)]
def spDiv : Sp := fun vs H Q _ => ∃ a b : Int, vs = [.int a, .int b] ∧ Q (.int (Int.gcd a b : Int)) H
def spLow : Sp := fun vs H Q _ => ∃ (t b : Int) (n : Nat), vs = [.int t, .int b] ∧ t.natAbs < 2 ^ n ∧ b.natAbs < 2 ^ n ∧ b ≠ 0 ∧ n ≤ 8000 ∧ ∀ p, H p = none → Q (.ref p) (upd H p (.tup (rp (Rat.divInt t b))))
theorem gcd_bd {t b : Int} {n : Nat} (h : b ≠ 0) (hb : b.natAbs < 2 ^ n) : (Int.gcd t b : Int).natAbs < 2 ^ n := by
  rw [Int.natAbs_natCast]
  exact Nat.lt_of_le_of_lt (Nat.le_of_dvd (by omega) (Int.gcd_dvd_natAbs_right t b)) hb
theorem wmul {i j : Int} {n m : Nat} (hi : i.natAbs < 2 ^ n) (hj : j.natAbs < 2 ^ m) (h : n + m ≤ 9000) : CMulW i j :=
  wide_mul (a := n + 1) (b := m + 1) (Fr.up hi (Nat.le_succ _)) (Fr.up hj (Nat.le_succ _)) (Nat.succ_pos _) (Nat.succ_pos _) (by omega)
theorem at0 (q : Rat) : atI (rp q) 0 = some (.int q.num) := atI_nat (j := 0) rfl
theorem at1 (q : Rat) : atI (rp q) 1 = some (.int (q.den : Int)) := atI_nat (j := 1) rfl
/-- a fraction made of two -/
def spBin (K : PySem.W.Frag) (g : Rat → Rat → Rat) : Sp := fun vs H Q _ => ∃ (a b : Addr) (x y : Rat) (n m : Nat), vs = [.ref a, .ref b] ∧ SqT K H a (rp x) ∧ SqT K H b (rp y) ∧ Bd n x ∧ Bd m y ∧ n + m ≤ 7000 ∧ ∀ p, H p = none → Q (.ref p) (upd H p (.tup (rp (g x y))))
def spUnder (K : PySem.W.Frag) : Sp := fun vs H Q _ => ∃ (a b : Addr) (x y : Rat) (n m : Nat), vs = [.ref a, .ref b] ∧ SqT K H a (rp x) ∧ SqT K H b (rp y) ∧ Bd n x ∧ Bd m y ∧ n + m ≤ 7000 ∧ Q (.bl (decide (x.num * y.den < y.num * x.den))) H
theorem abs_eq (x : Int) : (if x < 0 then -x else x) = (x.natAbs : Int) := by split <;> omega
theorem tyT {K : PySem.W.Frag} {H : Hp} {a : Addr} {xs : List V} (h : SqT K H a xs) : TyX K H (.ref a) (.type "tuple") := by
  rcases h with (h | ⟨o, h⟩) | ⟨o, its, n, e, c, _⟩
  · exact .base (.tup h)
  · exact .fTuple h
  · exact .kTuple e c
/-- what the module leaves of the built-in names -/
structure Blt (mg : Str → Option Value) : Prop where
  abs_ : mg "abs" = none
  isinstance_ : mg "isinstance" = none
  int_ : mg "int" = none
  bool_ : mg "bool" = none
  tuple_ : mg "tuple" = none
  list_ : mg "list" = none
  len_ : mg "len" = none
  range_ : mg "range" = none
  str_ : mg "str" = none
  repr_ : mg "repr" = none
  sum_ : mg "sum" = none
  all_ : mg "all" = none
  any_ : mg "any" = none
  enumerate_ : mg "enumerate" = none
  zip_ : mg "zip" = none
  min_ : mg "min" = none
  max_ : mg "max" = none
  sorted_ : mg "sorted" = none
  ValueError_ : mg "ValueError" = none
  ZeroDivisionError_ : mg "ZeroDivisionError" = none
  OverflowError_ : mg "OverflowError" = none
  IndexError_ : mg "IndexError" = none
  LookupError_ : mg "LookupError" = none
  ArithmeticError_ : mg "ArithmeticError" = none
  KeyError_ : mg "KeyError" = none
  RuntimeError_ : mg "RuntimeError" = none
/-- a list of fractions: its items, and what they are worth -/
structure FrL (K : PySem.W.Frag) (H : Hp) (refs : List V) (qs : List Rat) : Prop where
  len : refs.length = qs.length
  at_ : ∀ (i : Nat) (v : V), refs[i]? = some v → ∃ (a : Addr) (q : Rat), qs[i]? = some q ∧ v = .ref a ∧ SqT K H a (rp q) ∧ Bd 100 q
theorem FrL.keep {K : PySem.W.Frag} {H H' : Hp} {refs : List V} {qs : List Rat} (h : FrL K H refs qs) (k : ∀ a xs, SqT K H a xs → SqT K H' a xs) : FrL K H' refs qs :=
  ⟨h.len, fun i v e => let ⟨a, q, e1, e2, e3, e4⟩ := h.at_ i v e; ⟨a, q, e1, e2, k _ _ e3, e4⟩⟩
theorem FrL.same {K : PySem.W.Frag} {H H' : Hp} {refs : List V} {qs : List Rat} (h : FrL K H refs qs) (e : Same H H') : FrL K H' refs qs := h.keep fun _ _ => seqT e
theorem FrL.nil {K : PySem.W.Frag} {H : Hp} : FrL K H [] [] := ⟨rfl, fun i v e => by simp at e⟩
theorem FrL.snoc {K : PySem.W.Frag} {H : Hp} {refs : List V} {qs : List Rat} {a : Addr} {q : Rat} (h : FrL K H refs qs) (ha : SqT K H a (rp q)) (hb : Bd 100 q) : FrL K H (refs ++ [.ref a]) (qs ++ [q]) := by
  refine ⟨by rw [List.length_append, List.length_append, h.len]; rfl, fun i v e => ?_⟩
  by_cases hi : i < refs.length
  · rw [List.getElem?_append_left hi] at e
    obtain ⟨a', q', e1, e2, e3, e4⟩ := h.at_ i v e
    exact ⟨a', q', by rw [List.getElem?_append_left (by rw [← h.len]; exact hi)]; exact e1, e2, e3, e4⟩
  · rw [List.getElem?_append_right (by omega)] at e
    have e0 : i - refs.length = 0 := by
      cases z : i - refs.length with
      | zero => rfl
      | succ j => rw [z] at e; simp at e
    rw [e0] at e
    have ev : (V.ref a) = v := Option.some.inj e
    refine ⟨a, q, ?_, ev.symm, ha, hb⟩
    rw [List.getElem?_append_right (by rw [← h.len]; omega), ← h.len, e0]
    rfl
theorem keep_lst {K : PySem.W.Frag} {H : Hp} {l : Addr} {ys zs : List V} (hl : H l = some (.lst ys)) : ∀ a xs, SqT K H a xs → SqT K (upd H l (.lst zs)) a xs := fun a xs h => by
  rcases h with (h | ⟨o, h⟩) | h
  · exact .inl (.inl (by rw [upd_ne (ne_of h hl (by intro z; cases z))]; exact h))
  · exact .inl (.inr ⟨o, by rw [upd_ne (ne_of h hl (by intro z; cases z))]; exact h⟩)
  · exact .inr h
theorem sum_snoc {qs : List Rat} {i : Nat} {q : Rat} (h : qs[i]? = some q) : (qs.take (i + 1)).sum = (qs.take i).sum + q := by
  rw [List.take_add_one, h, List.sum_append]
  show _ + ([q] : List Rat).sum = _
  rw [List.sum_cons, List.sum_nil, Rat.add_zero]
def spLeft : Sp := fun vs H Q _ => ∃ c : Int, vs = [.int c] ∧ ∀ p n, H p = none → Q (.ref p) (upd H p (.lst [.int n]))
def spDigit : Sp := fun vs H Q _ => ∃ (l : Addr) (n m : Int), vs = [.ref l, .int m] ∧ H l = some (.lst [.int n]) ∧ 0 < m ∧ m.natAbs < 2 ^ 200 ∧ ∀ d n' : Int, 0 ≤ d → d < m → Q (.int d) (upd H l (.lst [.int n']))
theorem lt100 {i : Int} (h : i.natAbs ≤ 10 ^ 20) : i.natAbs < 2 ^ 100 := Nat.lt_of_le_of_lt h (by decide)
/-- a fraction as data -/
def dR (q : Rat) : PyData := .tuple [.int q.num, .int (q.den : Int)]
theorem dp_r {K : PySem.W.Frag} {H : Hp} {a : Addr} {q : Rat} (h : SqT K H a (rp q)) : Dp K H (.ref a) (dR q) := .tup h (.cons (.int _) (.cons (.int _) .nil))
theorem dR_lay (q : Rat) : (dR q).canLay0 = true := rfl
theorem dR_depth (q : Rat) : (dR q).depth = 1 := rfl
theorem dR_shaped (q : Rat) : SeqAt.shaped (dR q) = true := rfl
theorem FrL.dp {K : PySem.W.Frag} {H : Hp} : ∀ {refs : List V} {qs : List Rat}, FrL K H refs qs → DpAll K H refs (qs.map dR)
  | [], [], _ => .nil
  | [], _ :: _, h => by have := h.len; simp at this
  | _ :: _, [], h => by have := h.len; simp at this
  | v :: refs, q :: qs, h => by
    obtain ⟨a, q', e1, rfl, e3, _⟩ := h.at_ 0 v rfl
    have e : q = q' := Option.some.inj e1
    subst e
    refine .cons (dp_r e3) (FrL.dp ⟨by have := h.len; simpa using this, fun i v e => ?_⟩)
    exact h.at_ (i + 1) v e
theorem lays : ∀ qs : List Rat, PyData.canLayAll0 (qs.map dR) = true
  | [] => rfl
  | q :: qs => by
    show (PyData.canLay0 (dR q) && PyData.canLayAll0 (qs.map dR)) = true
    rw [lays qs]
    rfl
theorem deps : ∀ qs : List Rat, PyData.depthAll (qs.map dR) ≤ 1
  | [] => by decide
  | q :: qs => by
    have := deps qs
    show max (PyData.depth (dR q)) (PyData.depthAll (qs.map dR)) ≤ 1
    rw [dR_depth]
    omega
theorem list_lay (qs : List Rat) : (PyData.list (qs.map dR)).canLay0 = true := lays qs
theorem list_shaped (qs : List Rat) : SeqAt.shaped (.list (qs.map dR)) = true := by
  unfold SeqAt.shaped
  rw [list_lay, Bool.true_and]
  refine decide_eq_true ?_
  have := deps qs
  show PyData.depthAll (qs.map dR) + 1 ≤ 64
  omega
theorem FrL.rev {K : PySem.W.Frag} {H : Hp} {refs : List V} {qs : List Rat} (h : FrL K H refs qs) : FrL K H refs.reverse qs.reverse := by
  refine ⟨by rw [List.length_reverse, List.length_reverse, h.len], fun i v e => ?_⟩
  have hi : i < refs.length := by
    have := (List.getElem?_eq_some_iff.mp e).1
    rw [List.length_reverse] at this
    exact this
  rw [List.getElem?_reverse hi] at e
  obtain ⟨a, q, e1, e2, e3, e4⟩ := h.at_ _ v e
  refine ⟨a, q, ?_, e2, e3, e4⟩
  rw [List.getElem?_reverse (by rw [← h.len]; exact hi), ← h.len]
  exact e1
theorem cut_mem {xs : List V} {lo hi : Option Int} {x : V} (h : x ∈ cutV xs lo hi) : x ∈ xs := List.mem_of_mem_drop (List.mem_of_mem_take h)
theorem FrL.mem {K : PySem.W.Frag} {H : Hp} {refs : List V} {qs : List Rat} {v : V} (h : FrL K H refs qs) (hv : v ∈ refs) : ∃ (a : Addr) (q : Rat), v = .ref a ∧ SqT K H a (rp q) ∧ Bd 100 q := by
  obtain ⟨i, hi, e⟩ := List.getElem_of_mem hv
  obtain ⟨a, q, _, e2, e3, e4⟩ := h.at_ i v (by rw [List.getElem?_eq_getElem hi, e])
  exact ⟨a, q, e2, e3, e4⟩
theorem int_of {ns : List Int} {x : V} {lo hi : Option Int} {z : Int} {i : Nat} (h : (cutV (ns.map V.int) lo hi ++ [V.int z])[i]? = some x) : ∃ c : Int, x = .int c := by
  have hm := List.mem_of_getElem? h
  rcases List.mem_append.mp hm with hm | hm
  · obtain ⟨c, _, e⟩ := List.mem_map.mp (cut_mem hm)
    exact ⟨c, e.symm⟩
  · exact ⟨z, by simpa using hm⟩
/-- an error of the class at S is what «except S» names -/
theorem exm_self {K : PySem.W.Frag} {S : Addr} (h1 : PySem.W.subIn K (.ref S) (.type "BaseException") = some true) (h2 : PySem.W.isClsIn K S = true) (h3 : PySem.W.typeIn K (.ref S) = some (.type "type")) (h4 : PySem.W.subIn K (.ref S) (.ref S) = some true) :
    PySem.W.exmOne K (.ref S) (.ref S) = some true := by
  have e1 : (PySem.W.subIn K (.ref S) (.type "BaseException") == some true) = true := by rw [h1] <;> rfl
  have e2 : ((PySem.W.clsIn K S).isSome && PySem.W.typeIn K (.ref S) == some (.type "type")) = true := by
    have h2' : (PySem.W.clsIn K S).isSome = true := h2
    rw [h2', h3] <;> rfl
  show (if (PySem.W.subIn K (.ref S) (.type "BaseException") == some true) = true then (if ((PySem.W.clsIn K S).isSome && PySem.W.typeIn K (.ref S) == some (.type "type")) = true then PySem.W.subIn K (.ref S) (.ref S) else none) else none) = some true
  rw [if_pos e1, if_pos e2]
  exact h4
end Co

set_option Elab.async false
set_option linter.all false
set_option maxRecDepth 100000
set_option maxHeartbeats 4000000
namespace EXB
open PySem PySem.Spec PyProof.Rows L2
/-- what the written part says of an own error class over B -/
structure ExC (K : PySem.W.Frag) (C : Addr) (newId : String) (bmB : List Value) : Prop where
  cls : ∃ nm q N bs sn sub ab col dd k0 k1 k2 k3 k5, K.lookup C = some (excClassObj nm q C N bs bmB true sn sub ab col dd k0 k1 k2 k3 k5 newId)
  exC : PySem.W.subIn K (.ref C) (.type "BaseException") = some true
  tyC : PySem.W.typeIn K (.ref C) = some (.type "type")
  kC : PySem.W.keepIn K (.ref C) = true
section
variable {X : Cx} {pins : List (Addr × Obj)} {σ : L2.St} {H : Hp} {s : Shared} {a C : Addr} {A : Around} {E : Value → Shared → Prop} {B newId initId : String} {bmB : List Value}
/-- B.__init__(self, ..): nothing of it is told -/
theorem einit_ok {us : List Value} {Q : Value → Shared → Prop} (Fb : ExcBaseFacts B newId initId bmB) (T : ExC X.K C newId bmB) (I : Inv X pins σ H s) (e : H a = some (exo a C none)) (hl : us.length ≤ sizeLine) (h : ∀ s', Inv X pins σ H s' → Q .none s') :
    wpAny (model X.prog X.w) A (call (.builtin initId) (.ref a :: us)) Q E s := by
  obtain ⟨nm, q, N, bs, sn, sub, ab, col, dd, k0, k1, k2, k3, k5, hC⟩ := T.cls
  obtain ⟨t1, ho⟩ := exo_at I.hok e
  obtain ⟨hp, g, d, t, os⟩ := s
  refine wpAny_call (PySem.HandSPX.init_base Fb (fun Y => rfl) (I.kIn _ _ hC) ho hl fun h' t2 k hx => ?_)
  have J := I.write (t' := t) (x := a) (e := a) (o := exo a C none) (by rw [e]; exact True.intro) (.inl rfl) k ⟨_, hx⟩ (exo_ok hx)
  have eu : upd H a (exo a C none) = H := by
    funext b
    by_cases hb : b = a
    · rw [hb, upd_same, e]
    · rw [upd_ne hb]
  rw [eu] at J
  exact h _ J
end
def tExI (K : PySem.W.Frag) (newId : String) (bmB : List Value) (ta : TA) : TE := fun σ H Q => ta σ H fun vs H1 => ∃ (a C : Addr) (ws : List V), vs = .ref a :: ws ∧ ws.length ≤ 1000 ∧ ExC K C newId bmB ∧ H1 a = some (exo a C none) ∧ Q .non H1
section
variable {X : Cx} {e : Expr} {es : List Expr} {ta : TA} {p p1 p2 pos : Pos} {B newId initId : String} {bmB : List Value}
theorem typ_ZD : typeOf (.type "ZeroDivisionError") = pure (.type "type") := by kernel_rfl
theorem pe_zdinit {pl : Sem Bool} (hg : Gl X "ZeroDivisionError") (hm : X.mg "ZeroDivisionError" = none) (vV : PySem.W.findCls X.K (.type "ZeroDivisionError") (.type "type") "__init__" = some (.val (.builtin "ZeroDivisionError.__init__"))) (ha : PA X (e :: es) ta)
    (hc : eval (.Call (.Attribute (.Name "ZeroDivisionError" p1) "__init__" p2) (e :: es) [] pos) X.env = (do
      let ov ← eval (.Name "ZeroDivisionError" p1) X.env
      standAt p2.atName
      let (f, first) ← holding [ov] (getMethod ov "__init__" pl)
      callWith pos f first (backTo pos (starEach (e :: es) X.env)) (backToKw pos (keywordEach [] X.env))) := by rfl)
    (he : starEach (e :: es) X.env = (false, eval e X.env) :: starEach es X.env := by rfl) (hpl : (backTo pos (starEach es X.env)).any (·.1) = false := by rfl) :
    PE X (.Call (.Attribute (.Name "ZeroDivisionError" p1) "__init__" p2) (e :: es) [] pos) (tExI X.K "ZeroDivisionError.__new__" [.type "ZeroDivisionError", .type "ArithmeticError", .type "Exception", .type "BaseException", .type "object"] ta) := by
  refine ⟨fun pins s σ H Q I h => ?_⟩
  refine PySem.W.methodCall_KW (ld_blt I hg hm PyProof.Rows.Boot.«ZeroDivisionError» ?_ (by decide) (by decide)) hc
  obtain ⟨m, fr⟩ := I.fr
  refine PySem.W.method_type fr I.ok.mod.kin typ_ZD (by decide +kernel) vV (by decide +kernel) ?_
  show wpAny _ _ (callWith pos (Value.builtin "ZeroDivisionError.__init__") [] (backTo pos (starEach (e :: es) X.env)) []) _ _ _
  refine PyProof.Rows.callWith_method1 (thn (ha.run pos pins _ σ H _ (I.tok _) h) fun us s1 ⟨vs, H1, I1, r1, a, C, ws, ev, hl, T, ea, q⟩ => ?_) he hpl
  subst ev
  cases r1 with
  | @cons _ u0 _ ur ra rw' =>
    obtain rfl : u0 = Value.ref a := ra
    have hlen : ur.length ≤ sizeLine := by
      rw [← Paired.length rw', sizeLine_eq]
      omega
    exact einit_ok PySem.F.excBase_ZeroDivisionError T I1 ea hlen fun s' J => ⟨.non, H1, J, rfl, q⟩
/-- the end of C(..), no field: the exception is let go -/
theorem mk_endN {pins : List (Addr × Obj)} {σ : L2.St} {H1 H2 : Hp} {Q : XK} {hp hp2 h2 : Heap} {g1 g2 : Array GenState} {d1 d2 : Drawn} {t1 t2 : Nat} {os1 os2 : OsState} {a C : Addr} (T : Raises X (.ref C)) (I1 : Inv X pins σ H1 ⟨hp, g1, d1, t1, os1⟩)
    (ha : hp.objs.size ≤ a) (k : ∀ b o, hp.get? b = some o → hp2.get? b = some o) (un : Un (frs X.stack) [] (upd H1 a (exo a C none)) H2 hp2 h2) (hok : HOk X.prog X.w H2 h2) (ho : os2 = os1) (hb : AllBare g2)
    (ea : H2 a = some (exo a C none)) (q : Q (.ref C) none (del H2 a)) : MkP X pins σ Q (.ref a) ⟨h2, g2, d2, t2, os2⟩ := by
  obtain ⟨t0, hoe⟩ := exo_at hok ea
  have hn : H1 a = none := I1.hok.fresh ha
  obtain ⟨G, g1', g2'⟩ := restrict h2 fun b => decide (b ≠ a)
  have gk : ∀ b, b ≠ a → G.get? b = h2.get? b := fun b hb => g1' b (decide_eq_true hb)
  have ge : G.get? a = none := g2' a (by simp)
  have nha : ∀ {b : Addr} {o : Obj}, hp.get? b = some o → b ≠ a := fun {b o} z => Nat.ne_of_lt (Nat.lt_of_lt_of_le (Heap.lt_size z) ha)
  have up : ∀ {b : Addr}, b ≠ a → H1 b = none → upd H1 a (exo a C none) b = none := fun {b} hb n => by rw [upd_ne hb]; exact n
  have U : Un (frs X.stack) [] H1 (del H2 a) hp G := {
    keep := fun b o z n hf hx => by
      rw [gk b (nha z)]
      exact un.keep b o (k b o z) (up (nha z) n) hf hx
    slot := fun b o z n hf hx => by
      rw [gk b (nha z)]
      exact un.slot b o (k b o z) (up (nha z) n) hf hx
    free := fun b o z n hx => by
      rw [del_ne (nha z)]
      exact un.free b o (k b o z) (up (nha z) n) hx
    there := fun b o z hx => by
      rw [gk b (nha z)]
      exact un.there b o (k b o z) hx
    tups := fun b xs z => by
      rw [del_ne (ne_of_none z hn)]
      exact un.tups b xs (by rw [upd_ne (ne_of_none z hn)]; exact z)
    frzs := fun b o v z => by
      rw [del_ne (ne_of_none z hn)]
      exact un.frzs b o v (by rw [upd_ne (ne_of_none z hn)]; exact z)
    tbls := fun b ps z => by
      rw [del_ne (ne_of_none z hn)]
      exact un.tbls b ps (by rw [upd_ne (ne_of_none z hn)]; exact z) }
  have hok3 : HOk X.prog X.w (del H2 a) G := fun b o z => by
    have hba : b ≠ a := fun e => by
      rw [e, del_same] at z
      cases z
    rw [del_ne hba] at z
    have noa : ∀ {c : Addr}, H2 c = some (.own b) → c ≠ a := fun {c} hc => at_ne ea hc exo_own
    exact (hok b o z).stay (fun c v hc y => by
        have hca : c ≠ a := by
          rcases hc with hc | hc
          · rw [hc]
            exact hba
          · exact noa hc
        rw [gk c hca]
        exact y)
      (fun c hc => by rw [del_ne (noa hc)]; exact hc) (fun c xs hc => by rw [del_ne (at_ne ea hc exo_tup)]; exact hc)
  have J : Inv X pins σ (del H2 a) ⟨G, g2, d2, t2, os2⟩ := I1.call' (ch := []) ho U hok3 hb (fun b z => absurd z (by simp))
  refine ⟨a, _, _, ⟨G, g2, d2, t2, os2⟩, _, .ref C, none, rfl, J, fun b o z => ?_, ge, hoe, ⟨rfl, rfl⟩, rfl, rfl, del_same, rfl, hb, T, q⟩
  by_cases hba : b = a
  · have z' : G.get? b = some o := z
    rw [hba, ge] at z'
    cases z'
  · exact (gk b hba).symm.trans z
/-- the promise of an __init__ that makes no field -/
def spEi (C : Addr) : Sp := fun vs H Q _ => ∃ a, vs = [.ref a] ∧ H a = some (exo a C none) ∧ Q .non H
/-- C(), C's __init__ making no field -/
theorem pmk_exN {x : Str} {C fI : Addr} {k : Nat} {fd : FuncData} {ps : List Str} (Fb : ExcBaseFacts B newId initId bmB) (T : ExC X.K C newId bmB) (iC : PySem.W.findIn X.K (.ref C) "__init__" = some (some (.ref fI))) (tI : PySem.W.typeIn X.K (.ref fI) = some (.type "function"))
    (F1 : FnOk X.prog X.w X.K X.mg X.base CX0 k fI fd ps (spEi C)) (hr : Room (k + 1) X.A) (hb : Binds X.K fd ps []) (hg : Gl X x) (hm : X.mg x = some (.ref C))
    (hdb : (x == ("__debug__" : Str)) = false := by decide) :
    PMk X (.Call (.Name x p) [] [] pos) (fun _ H Q => Q (.ref C) none H) := by
  intro pins s σ H Q I h
  obtain ⟨nm, q, N, bs, sn, sub, ab, col, dd, k0, k1, k2, k3, k5, hC⟩ := T.cls
  refine wpAny_Call_Name_kw (ld_glob I hg hm ?_ hdb)
  refine PySem.W.callWith_K0 I.kIn T.kC ?_
  show wpAny _ _ (call (.ref C) []) _ _ _
  obtain ⟨hp, g, dr, tk, os⟩ := s
  have hsz : hp.objs.size ≤ hp.objs.size + 1 := Nat.le_succ _
  have hn : H (hp.objs.size + 1) = none := I.hok.fresh hsz
  have kk : ∀ b o, hp.get? b = some o → ((hp.push (PySem.W.kdv_tup [])).push (PySem.HandSPX.excO C hp.objs.size)).get? b = some o := fun b o e => Heap.get?_push_of_some _ (Heap.get?_push_of_some _ e)
  have hget : ((hp.push (PySem.W.kdv_tup [])).push (PySem.HandSPX.excO C hp.objs.size)).get? (hp.objs.size + 1) = some (PySem.HandSPX.excO C hp.objs.size) := by heap_get
  have I2 : Inv X pins σ (upd H (hp.objs.size + 1) (exo (hp.objs.size + 1) C none)) ⟨(hp.push (PySem.W.kdv_tup [])).push (PySem.HandSPX.excO C hp.objs.size), g, dr, tk, os⟩ :=
    I.laid (t' := tk) (a := hp.objs.size + 1) (o := exo (hp.objs.size + 1) C none) (h' := (hp.push (PySem.W.kdv_tup [])).push (PySem.HandSPX.excO C hp.objs.size)) kk hsz (exo_ok hget)
  have r2 : Vals [V.ref (hp.objs.size + 1)] [Value.ref (hp.objs.size + 1)] := .cons rfl .nil
  have hq : spEi C [V.ref (hp.objs.size + 1)] (upd H (hp.objs.size + 1) (exo (hp.objs.size + 1) C none)) (fun v H2 => v = .non ∧ H2 = upd H (hp.objs.size + 1) (exo (hp.objs.size + 1) C none)) (fun _ _ _ => False) :=
    ⟨_, rfl, upd_same, rfl, rfl⟩
  have hl : ([Value.ref (hp.objs.size + 1)] ++ []).length = ps.length := by
    have e := r2.length
    rw [F1.len _ _ _ _ hq] at e
    exact e.symm
  refine wpAny_call (PySem.HandSPX.call_own Fb (fun Y => rfl) (I.kIn _ _ hC) (PySem.W.looks_findIn I.kIn iC) (fun self => PySem.W.bind_fn I.kIn self tI) (Nat.zero_le _)
    (codeAny_mono (F1.run _ X.stack _ _ ⟨[Value.ref (hp.objs.size + 1)], []⟩ [Value.ref (hp.objs.size + 1)] _ _ (fun _ _ _ => False) (hr.make C [] []) (I2.env0.make C [] []) (hb _ [Value.ref (hp.objs.size + 1)] I2.kIn hl) r2 hq) fun r s' hq' => ?_))
  cases r with
  | error er => exact False.elim hq'
  | ok fl =>
    cases fl with
    | ret u =>
      obtain ⟨v, H2, os2, bare2, un2, hok2, rv, ev, eH⟩ := hq'
      subst ev
      subst eH
      obtain ⟨h2, g2, d2, t2, os'⟩ := s'
      refine ⟨rv, mk_endN (raises_own T.exC T.tyC) I hsz kk un2 hok2 os2 bare2 upd_same ?_⟩
      have eD : del (upd H (hp.objs.size + 1) (exo (hp.objs.size + 1) C none)) (hp.objs.size + 1) = H := by
        funext b
        by_cases hb : b = hp.objs.size + 1
        · rw [hb, del_same]
          exact hn.symm
        · rw [del_ne hb, upd_ne hb]
      rw [eD]
      exact h
    | next => exact False.elim hq'
    | brk => exact False.elim hq'
    | cont => exact False.elim hq'
end
/-! ### an own error over ValueError with one field -/
/-- the promise of an __init__ that makes the field f -/
def spE1 (C : Addr) (f : Str) : Sp := fun vs H Q _ => ∃ a v, vs = [.ref a, v] ∧ H a = some (exo a C none) ∧ ∀ dx, H dx = none → dx ≠ a → Q .non (upd (upd H dx (exd dx [(f, v)])) a (exo a C (some dx)))
/-- the same of two fields -/
def spE2 (C : Addr) (f g : Str) : Sp := fun vs H Q _ => ∃ a v u, vs = [.ref a, v, u] ∧ H a = some (exo a C none) ∧ ∀ dx, H dx = none → dx ≠ a → Q .non (upd (upd H dx (exd dx [(g, u), (f, v)])) a (exo a C (some dx)))
theorem heap_out {H : Hp} {a dx C : Addr} {fs : List (Str × V)} (ha : H a = none) (hd : dx ≠ a) : upd (del (upd (upd (upd H a (exo a C none)) dx (exd dx fs)) a (exo a C (some dx))) a) dx (.xd fs) = upd H dx (.xd fs) := by
  funext b
  by_cases h1 : b = dx
  · rw [h1, upd_same, upd_same]
  · rw [upd_ne h1, upd_ne h1]
    by_cases h2 : b = a
    · rw [h2, del_same, ha]
    · rw [del_ne h2, upd_ne h2, upd_ne h1, upd_ne h2]
theorem mk1 {C : Addr} {f : Str} {H : Hp} {v : V} {Q : XK} (h : ∀ dx, H dx = none → Q (.ref C) (some dx) (upd H dx (.xd [(f, v)]))) :
    [v].length ≤ 1000 ∧ ∀ a, H a = none → spE1 C f (.ref a :: ([v] ++ [])) (upd H a (exo a C none)) (fun v H2 => v = .non ∧ ∃ (d : Addr) (fs : List (Str × V)), H2 a = some (exo a C (some d)) ∧ H2 d = some (exd d fs) ∧ H d = none ∧ Q (.ref C) (some d) (upd (del H2 a) d (.xd fs))) (fun _ _ _ => False) := by
  refine ⟨by show 1 ≤ 1000; decide, fun a ha => ⟨a, v, rfl, upd_same, fun dx hdx hne => ?_⟩⟩
  have h0 : H dx = none := by rw [upd_ne hne] at hdx; exact hdx
  refine ⟨rfl, dx, [(f, v)], upd_same, by rw [upd_ne hne, upd_same], h0, ?_⟩
  rw [heap_out ha hne]
  exact h dx h0
theorem mk2 {C : Addr} {f g : Str} {H : Hp} {v u : V} {Q : XK} (h : ∀ dx, H dx = none → Q (.ref C) (some dx) (upd H dx (.xd [(g, u), (f, v)]))) :
    [v, u].length ≤ 1000 ∧ ∀ a, H a = none → spE2 C f g (.ref a :: ([v, u] ++ [])) (upd H a (exo a C none)) (fun v H2 => v = .non ∧ ∃ (d : Addr) (fs : List (Str × V)), H2 a = some (exo a C (some d)) ∧ H2 d = some (exd d fs) ∧ H d = none ∧ Q (.ref C) (some d) (upd (del H2 a) d (.xd fs))) (fun _ _ _ => False) := by
  refine ⟨by show 2 ≤ 1000; decide, fun a ha => ⟨a, v, u, rfl, upd_same, fun dx hdx hne => ?_⟩⟩
  have h0 : H dx = none := by rw [upd_ne hne] at hdx; exact hdx
  refine ⟨rfl, dx, [(g, u), (f, v)], upd_same, by rw [upd_ne hne, upd_same], h0, ?_⟩
  rw [heap_out ha hne]
  exact h dx h0
end EXB

set_option Elab.async false
set_option linter.all false
set_option maxRecDepth 100000
set_option maxHeartbeats 4000000
namespace BX
open PySem PySem.Spec PyProof.Rows L2
section
variable {X : Cx} {CX : CXT} {k : Nat} {f : Addr} {fd : FuncData} {ps ks : List Str} {sp : Sp} {E : L2.St → XK} {x : Str} {p pos : Pos} {e : Expr} {es : List Expr} {kws : List Keyword} {t tk : TA} {ds : List Value} {dvs : List V}
/-- a call with any arguments, what it raises being wished for at the caller's slots -/
theorem run_any {pins : List (Addr × Obj)} {σ : L2.St} {H : Hp} {s : Shared} {Q : VK} {us bs : List Value} {kw : List (Str × Value)} {vs : List V} (F : FnOkG X.prog X.w X.K X.mg X.base CX k f fd ps sp) (hr : Room k X.A) (hgd : X.A.guards = some []) (hx : PassesAt CX X σ (E σ))
    (I : Inv X pins σ H s) (hb : BindsTo s fd ⟨us, kw⟩ (ps.zip bs)) (r : Vals vs bs) (h : sp vs H Q (E σ)) : wpAny (model X.prog X.w) X.A (call (.ref f) us kw) (EP X pins σ Q) X.xe s := by
  refine wpAny_call (codeAny_mono (F.run X.A X.stack s H ⟨us, kw⟩ bs vs Q (E σ) hr hgd I.env0 hb r h) fun r s' hq => ?_)
  cases r with
  | error e => exact hx pins H s e s' I hq
  | ok fl =>
    cases fl with
    | ret u => exact I.after hq
    | next => exact False.elim hq
    | brk => exact False.elim hq
    | cont => exact False.elim hq
def tCallD (sp : Sp) (dvs : List V) (E : L2.St → XK) (t : TA) : TE := fun σ H Q => t σ H fun vs H1 => sp (vs ++ dvs) H1 Q (E σ)
/-- f(e, ..), the defaults behind them -/
theorem pe_callD (F : FnOkG X.prog X.w X.K X.mg X.base CX k f fd ps sp) (hr : Room k X.A) (hgd : X.A.guards = some []) (hg : Gl X x) (hm : X.mg x = some (.ref f)) (hk : PySem.W.keepIn X.K (.ref f) = true) (hb : Binds X.K fd ps ds) (hd : Vals dvs ds) (hx : ∀ σ, PassesAt CX X σ (E σ))
    (ha : PA X (e :: es) t) (hdb : (x == ("__debug__" : Str)) = false := by decide) (he : starEach (e :: es) X.env = (false, eval e X.env) :: starEach es X.env := by rfl) (hpl : (backTo pos (starEach es X.env)).any (·.1) = false := by rfl) :
    PE X (.Call (.Name x p) (e :: es) [] pos) (tCallD sp dvs E t) := by
  refine ⟨fun pins s σ H Q I h => ?_⟩
  refine wpAny_Call_Name_kw (ld_glob I hg hm ?_ hdb)
  refine PySem.W.callWith_K (h₀ := X.base) I.ok.mod.kin hk (thn (ha.run pos pins s σ H _ I h) fun us s1 ⟨vs, H1, I1, r, q⟩ => ⟨I1.kIn, ?_⟩) he hpl
  have r2 : Vals (vs ++ dvs) (us ++ ds) := r.append hd
  exact run_any F hr hgd (hx σ) I1 (hb s1 us I1.kIn (by rw [← r2.length]; exact F.len _ _ _ _ q)) r2 q
def tCallW (sp : Sp) (E : L2.St → XK) (tk : TA) : TE := fun σ H Q => tk σ H fun zs H1 => sp zs H1 Q (E σ)
/-- f(k = v, ..), all parameters by their names, in their order -/
theorem pe_callW (F : FnOkG X.prog X.w X.K X.mg X.base CX k f fd ps sp) (hr : Room k X.A) (hgd : X.A.guards = some []) (hg : Gl X x) (hm : X.mg x = some (.ref f)) (hk : PySem.W.keepIn X.K (.ref f) = true)
    (hb : ∀ (s : Shared) (ws : List Value), X.K.In s.heap → ws.length = ps.length → BindsTo s fd ⟨[], ps.zip ws⟩ (ps.zip ws)) (hx : ∀ σ, PassesAt CX X σ (E σ))
    (hkw : PK X kws tk) (hall : (backToKw pos (keywordEach kws X.env)).all (·.1.isSome) = true := by rfl) (hks : (backToKw pos (keywordEach kws X.env)).filterMap (·.1) = ps := by rfl)
    (hdb : (x == ("__debug__" : Str)) = false := by decide) (hpl : ((backTo pos (starEach [] X.env)).any (·.1) || (backToKw pos (keywordEach kws X.env)).any (·.1.isNone)) = false := by rfl) :
    PE X (.Call (.Name x p) [] kws pos) (tCallW sp E tk) := by
  refine ⟨fun pins s σ H Q I h => ?_⟩
  refine wpAny_Call_Name_kw (ld_glob I hg hm ?_ hdb)
  refine PySem.W.callWith_KW0 (h₀ := X.base) I.ok.mod.kin hk hall (thn (hkw.run pos pins s σ H _ I h) fun ws s2 ⟨zs, H2, I2, rz, q2⟩ => ⟨I2.kIn, ?_⟩) hpl
  rw [hks]
  exact run_any F hr hgd (hx σ) I2 (hb s2 ws I2.kIn (by rw [← rz.length]; exact F.len _ _ _ _ q2)) rz q2
end
end BX

set_option Elab.async false
set_option linter.all false
set_option maxRecDepth 100000
set_option maxHeartbeats 4000000
namespace BX
open PySem PySem.Spec PyProof.Rows L2
/-- the law's call, of a promise that holds where nothing is being shown -/
theorem law_callG {P : Program} {w : World} {K : PySem.W.Frag} {mg mb : Str → Option Value} {CX : CXT} {k : Nat} {fa a : Addr} {fd : FuncData} {x : Str} {sp : Sp} {s₁ : Shared} {vs : List Value} {ns : List Int}
    (KX : K.In s₁.heap) (hns : s₁.heap.Ns mainGlobals mg) (hb : s₁.heap.Ns builtinsNs mb) (hbb : ∀ x : Str, x ≠ "__name__" → mb x = bootBuiltins x) (hlim : s₁.heap.NoLimit) (hg : s₁.gens = #[])
    (ha : s₁.heap.get? a = some { cls := .type "list", data := .seq vs.toArray }) (hi : IntsAre vs ns) (hl : ns.length ≤ sizeLine) (hr : Room k callerA)
    (F : ∀ base : Heap, K.In base → base.Ns mainGlobals mg → FnOkG P w K mg base CX k fa fd [x] sp) (hbind : ∀ (s : Shared) (u : Value), BindsTo s fd ⟨[u], []⟩ [(x, u)])
    (hsp : ∀ H : Hp, Only H → SqL K H a (ns.map V.int) → sp [.ref a] H (fun v _ => v = .bl true) fun _ _ _ => False)
    (hCX : ∀ H e s', CX [] H s₁ (fun _ _ _ => False) e s' → False) :
    codeAny (model P w) callerA (.call (.ref fa) ⟨[.ref a], []⟩) (fun r s' => r = .ok (.ret (.bool true)) ∧ OldK s₁.heap s'.heap ∧ s'.os = s₁.os ∧ AllBare s'.gens) s₁ := by
  have rv := vals_ints hi
  have lenV := hi.length
  have core : ∀ H : Hp, Only H → SqL K H a (ns.map V.int) → HOk P w H s₁.heap → (∀ b, H b ≠ none → b = a) → (H a ≠ none → K.lookup a = none) →
      codeAny (model P w) callerA (.call (.ref fa) ⟨[.ref a], []⟩) (fun r s' => r = .ok (.ret (.bool true)) ∧ OldK s₁.heap s'.heap ∧ s'.os = s₁.os ∧ AllBare s'.gens) s₁ := by
    intro H hO hS hok hA hK
    have noA : ∀ {b : Addr} {o : Obj} {es : Array DictEntry} {ep : Nat}, s₁.heap.get? b = some o → o.data = .dict es ep → H b = none := fun {b o es ep} e dd => by
      cases q : H b with
      | none => rfl
      | some u =>
        have e' : b = a := hA b (by rw [q]; simp)
        rw [e', ha] at e
        cases e
        cases dd
    have nsK : ∀ {b : Addr} {m : Str → Option Value}, s₁.heap.Ns b m → (hidT s₁.heap H).Ns b m := fun {b m} ⟨o, es, ep, e, dd, r⟩ => ⟨o, es, ep, hidT_get e (noA e dd), dd, r⟩
    have hKb : K.In (hidT s₁.heap H) := fun b o e => hidT_get (KX b o e) (by
      cases q : H b with
      | none => rfl
      | some u =>
        have e' : b = a := hA b (by rw [q]; simp)
        rw [e'] at e q
        rw [hK (by rw [q]; simp)] at e
        cases e)
    have hM : Mod K mg (hidT s₁.heap H) := ⟨hKb, nsK hns, ⟨mb, nsK hb, hbb⟩, let ⟨mc, h1, h2⟩ := hlim; ⟨mc, nsK h1, h2⟩⟩
    have e0 : Env0 P w K mg (hidT s₁.heap H) callerA [] s₁ H := ⟨rfl, hM, fun b o e => of_hidT e, Nat.le_of_eq (hidT_size _ _), trivial, fun b hb => absurd (show b ∈ ([] : List Addr) from hb) (by simp), hok, .of_eq hg⟩
    refine codeAny_mono ((F _ hKb (nsK hns)).run callerA [] s₁ H ⟨[.ref a], []⟩ [.ref a] [.ref a] _ _ hr rfl e0 (hbind s₁ (.ref a)) (.cons rfl .nil) (hsp H hO hS)) fun r s' h => ?_
    cases r with
    | error e => exact (hCX H e s' h).elim
    | ok fl =>
      cases fl with
      | next => exact False.elim h
      | brk => exact False.elim h
      | cont => exact False.elim h
      | ret u =>
        obtain ⟨v, H', os, bare, un, hok', r', q⟩ := h
        have q' : v = .bl true := q
        subst q'
        obtain rfl : u = Value.bool true := r'
        refine ⟨rfl, OldK.of_keep fun b o e => ?_, os, bare⟩
        cases q : H b with
        | none => exact un.keep b o e q (by intro z; exact absurd (show b ∈ ([] : List Addr) from z) (by simp)) (by simp)
        | some u =>
          rcases hO b with z | ⟨ob, xs, z⟩
          · rw [q] at z; cases z
          · obtain ⟨e1, _⟩ := hok b _ z
            obtain ⟨e2, _⟩ := hok' b _ (un.frzs b ob _ z)
            rw [e] at e1; cases e1
            exact e2
  cases hk : K.lookup a with
  | some o =>
    have e := KX a o hk
    rw [ha] at e
    cases e
    refine core (fun _ => none) (fun _ => .inl rfl) (.inr ⟨_, vs.toArray, _, hk, rfl, rfl, rfl, by rw [List.size_toArray, lenV]; exact hl, by simpa using rv⟩) (fun b u z => by have z' : (none : Option HO) = some u := z; cases z') (fun b z => absurd rfl z) fun z => absurd rfl z
  | none =>
    refine core (fun b => if b = a then some (.frz { cls := .type "list", data := .seq vs.toArray } (.lst (ns.map V.int))) else none) (fun b => ?_) (.inl (.inr ⟨{ cls := .type "list", data := .seq vs.toArray }, if_pos rfl⟩)) (fun b u z => ?_) (fun b z => ?_) fun _ => hk
    · by_cases hb : b = a
      · exact .inr ⟨_, _, if_pos hb⟩
      · exact .inl (if_neg hb)
    · by_cases hb : b = a
      · have z' := (if_pos hb).symm.trans z
        cases z'
        subst hb
        exact ⟨ha, by rw [List.length_map]; exact hl, vs, _, rv, ha⟩
      · have z' := (if_neg hb).symm.trans z
        cases z'
    · by_cases hb : b = a
      · exact hb
      · exact absurd (if_neg hb) z
theorem walk_ofG {l : PySem.W.OpenLaw} {n k : Nat} {q : Program} {loose : List Str} {XP : (Str → Option Value) → Heap → Prop} {YP : World → Heap → Prop} {d : DefRec} {K : Params → PySem.W.Frag} {CX : World → CXT} {sp : World → Sp} {x : Str}
    (hn : l.most = some n) (hn2 : n ≤ sizeLine) (hdf : d.params.defaults = []) (hr : Room k callerA) (hY : ∀ (w : World) (h : Heap), YP w h → (K w.params).In h)
    (F : ∀ (w : World) (mg : Str → Option Value) (fa : Addr) (h : Heap), (K w.params).In h → h.Ns mainGlobals mg → mg d.name = some (.ref fa) →
      ∃ fd : FuncData, (∀ (s : Shared) (u : Value), BindsTo s fd ⟨[u], []⟩ [(x, u)]) ∧
        ∀ base : Heap, (K w.params).In base → base.Ns mainGlobals mg → FnOkG l.prog w (K w.params) mg base (CX w) k fa fd [x] (sp w))
    (hsp : ∀ (w : World) (H : Hp) (a : Addr) (ns : List Int), ns.length ≤ n → Only H → SqL (K w.params) H a (ns.map V.int) → sp w [.ref a] H (fun v _ => v = .bl true) fun _ _ _ => False)
    (hCX : ∀ (w : World) (H : Hp) (s : Shared) (e : Value) (s' : Shared), CX w [] H s (fun _ _ _ => False) e s' → False) :
    PySem.W.WalkO q loose XP YP l.row.toRowW d [] (fun f vs => PySem.call f vs) := by
  refine Att.attach_call hn hdf fun w s₀ s₁ mg mb fa o pm cd doc a vs ns G Y ho hd hcd hmg hobj hints hlen hg => ?_
  have KX := hY w _ Y
  obtain ⟨fd, hb, hF⟩ := F w mg fa _ KX G.T.g hmg
  exact law_callG KX G.T.g G.T.b G.T.builtins G.T.nolimit hg hobj hints (Nat.le_trans hlen hn2) hr hF hb (fun H hO hS => hsp w H a ns hlen hO hS) fun H e s' => hCX w H s₁ e s'
end BX

set_option Elab.async false
set_option linter.all false
set_option maxRecDepth 100000
set_option maxHeartbeats 4000000
namespace K1
open PySem PySem.Spec PyProof.Rows L2 BX EXB Co
open Fr (Bd)
def topS (i : Nat) : Stmt := PySem.Challenge.pw_besttelling_k01_fractions_made.main.body.getD i (.Pass ⟨0, 0, 0, 0⟩)
abbrev sWhole : Stmt := topS 4
abbrev sIsR : Stmt := topS 5
abbrev sMade : Stmt := topS 6
abbrev sLowest : Stmt := topS 7
abbrev sDiv : Stmt := topS 8
abbrev sLeft : Stmt := topS 10
abbrev sDigit : Stmt := topS 11
abbrev sNum : Stmt := topS 12
abbrev sLWhole : Stmt := topS 13
abbrev sShared : Stmt := topS 14
abbrev sLIs : Stmt := topS 15
abbrev sAsked : Stmt := topS 16
abbrev sDue : Stmt := topS 17
abbrev sLaw : Stmt := topS 18
abbrev sNnInit : Stmt := inClass (topS 1) 0
abbrev sBnInit : Stmt := inClass (topS 2) 0
/-! ### the things that are handed in -/
/-- a whole number (none), or a thing that is none, as data -/
inductive Nm (K : PySem.W.Frag) (H : Hp) : V → Option PyData → Prop
  | int (i : Int) (h : i.natAbs < 2 ^ 100) : Nm K H (.int i) none
  | non : Nm K H .non (some .none)
  | bl (b : Bool) : Nm K H (.bl b) (some (.bool b))
  | str : Nm K H (.str "3") (some (.str "3"))
  | tup {a : Addr} (h : SqT K H a [.int 1, .int 1]) : Nm K H (.ref a) (some (.tuple [.int 1, .int 1]))
  | lst {a : Addr} (h : H a = some (.lst [.int 2])) : Nm K H (.ref a) (some (.list [.int 2]))
  | dct {a : Addr} (h : H a = some (.dK [])) : Nm K H (.ref a) (some (.dict []))
theorem Nm.same {K : PySem.W.Frag} {H H' : Hp} {v : V} {o : Option PyData} (h : Nm K H v o) (e : Same H H') : Nm K H' v o := by
  cases h with
  | int i h => exact .int i h
  | non => exact .non
  | bl b => exact .bl b
  | str => exact .str
  | tup h => exact .tup (seqT e h)
  | lst h => exact .lst (e _ _ h)
  | dct h => exact .dct (e _ _ h)
/-- all but l stays -/
theorem Nm.but {K : PySem.W.Frag} {H H' : Hp} {v : V} {o : Option PyData} {l : Addr} {n : Int} (h : Nm K H v o) (hl : H l = some (.lst [.int n])) (hv : v ≠ .ref l) (e : ∀ b u, b ≠ l → H b = some u → H' b = some u) : Nm K H' v o := by
  cases h with
  | int i h => exact .int i h
  | non => exact .non
  | bl b => exact .bl b
  | str => exact .str
  | @tup a h =>
    refine .tup ?_
    rcases h with (h | ⟨ob, h⟩) | h
    · exact .inl (.inl (e _ _ (ne_of h hl (by intro z; cases z)) h))
    · exact .inl (.inr ⟨ob, e _ _ (ne_of h hl (by intro z; cases z)) h⟩)
    · exact .inr h
  | @lst a h => exact .lst (e _ _ (fun z => hv (by rw [z])) h)
  | @dct a h => exact .dct (e _ _ (ne_of h hl (by intro z; cases z)) h)
/-- what is said of such data -/
structure OddOk (d : PyData) : Prop where
  sh : d.showable = true
  dp : d.depth ≤ 64
  sz : d.shown.length ≤ sizeLine
  tx : (PyData.str d.shown).canLay0 = true
theorem Nm.odd {K : PySem.W.Frag} {H : Hp} {v : V} {d : PyData} (h : Nm K H v (some d)) : OddOk d := by
  cases h with
  | non => exact ⟨rfl, by decide, by decide +kernel, by decide +kernel⟩
  | bl b => cases b <;> exact ⟨rfl, by decide, by decide +kernel, by decide +kernel⟩
  | str => exact ⟨rfl, by decide, by decide +kernel, by decide +kernel⟩
  | tup h => exact ⟨by decide +kernel, by decide +kernel, by decide +kernel, by decide +kernel⟩
  | lst h => exact ⟨by decide +kernel, by decide +kernel, by decide +kernel, by decide +kernel⟩
  | dct h => exact ⟨by decide +kernel, by decide +kernel, by decide +kernel, by decide +kernel⟩
theorem Nm.dq {K : PySem.W.Frag} {H : Hp} {v : V} {d : PyData} (h : Nm K H v (some d)) : Dq K H v d := by
  cases h with
  | non => exact .inl .non
  | bl b => exact .inl (.bl b)
  | str => exact .inl (.str _)
  | tup h => exact .inl (.tup h (.cons (.int _) (.cons (.int _) .nil)))
  | lst h => exact .inl (.lst (SqL.of h) (.cons (.int _) .nil))
  | dct h => exact .inr ⟨_, rfl, h, rfl⟩
theorem Nm.ints {K : PySem.W.Frag} {H : Hp} {v : V} (h : Nm K H v none) : ∃ i : Int, v = .int i ∧ i.natAbs < 2 ^ 100 := by
  cases h with
  | int i h => exact ⟨i, rfl, h⟩
theorem Nm.ty {K : PySem.W.Frag} {H : Hp} {v : V} {o : Option PyData} (h : Nm K H v o) : ∃ (n : String) (b1 b2 : Bool), TyX K H v (.type n) ∧ kitB n "int" = some b1 ∧ (b1 = true → kitB n "bool" = some b2) ∧ o.isNone = (b1 && !b2) := by
  cases h with
  | int i h => exact ⟨"int", true, false, .base (.int i), by decide +kernel, fun _ => by decide +kernel, rfl⟩
  | non => exact ⟨"NoneType", false, false, .base .non, by decide +kernel, fun z => Bool.noConfusion z, rfl⟩
  | bl b => exact ⟨"bool", true, true, .base (.bl b), by decide +kernel, fun _ => by decide +kernel, rfl⟩
  | str => exact ⟨"str", false, false, .base (.str _), by decide +kernel, fun z => Bool.noConfusion z, rfl⟩
  | tup h => exact ⟨"tuple", false, false, tyT h, by decide +kernel, fun z => Bool.noConfusion z, rfl⟩
  | lst h => exact ⟨"list", false, false, .base (.lst h), by decide +kernel, fun z => Bool.noConfusion z, rfl⟩
  | dct h => exact ⟨"dict", false, false, .base (.dK h), by decide +kernel, fun z => Bool.noConfusion z, rfl⟩
def spWhole (K : PySem.W.Frag) : Sp := fun vs H Q _ => ∃ (v : V) (o : Option PyData), vs = [v] ∧ Nm K H v o ∧ Q (.bl o.isNone) H
/-- of two things, whether they are a fraction -/
def pairB : V → V → Bool
  | .int t, .int b => decide (1 ≤ b) && decide (Int.gcd t b = 1)
  | _, _ => false
/-- a thing, and whether it is a fraction -/
inductive Thi (K : PySem.W.Frag) (H : Hp) : V → Bool → Prop
  | pair {a : Addr} {x y : V} {ox oy : Option PyData} (h : SqT K H a [x, y]) (hx : Nm K H x ox) (hy : Nm K H y oy) : Thi K H (.ref a) (pairB x y)
  | tupN {a : Addr} {xs : List V} (h : SqT K H a xs) (hl : xs.length ≠ 2) : Thi K H (.ref a) false
  | lst {a : Addr} {xs : List V} (h : H a = some (.lst xs)) : Thi K H (.ref a) false
  | dct {a : Addr} (h : H a = some (.dK [])) : Thi K H (.ref a) false
  | non : Thi K H .non false
  | bl (b : Bool) : Thi K H (.bl b) false
  | int (i : Int) : Thi K H (.int i) false
  | str (x : Str) : Thi K H (.str x) false
theorem Thi.same {K : PySem.W.Frag} {H H' : Hp} {v : V} {r : Bool} (h : Thi K H v r) (e : Same H H') : Thi K H' v r := by
  cases h with
  | pair h hx hy => exact .pair (seqT e h) (hx.same e) (hy.same e)
  | tupN h hl => exact .tupN (seqT e h) hl
  | lst h => exact .lst (e _ _ h)
  | dct h => exact .dct (e _ _ h)
  | non => exact .non
  | bl b => exact .bl b
  | int i => exact .int i
  | str x => exact .str x
/-- what is no tuple -/
theorem Thi.ty {K : PySem.W.Frag} {H : Hp} {v : V} {r : Bool} (h : Thi K H v r) : (∃ (a : Addr) (xs : List V), v = .ref a ∧ SqT K H a xs ∧ ((∃ x y ox oy, xs = [x, y] ∧ Nm K H x ox ∧ Nm K H y oy ∧ r = pairB x y) ∨ (xs.length ≠ 2 ∧ r = false))) ∨
    (r = false ∧ ∃ n : String, TyX K H v (.type n) ∧ kitB n "tuple" = some false) := by
  cases h with
  | @pair a x y ox oy h hx hy => exact .inl ⟨a, _, rfl, h, .inl ⟨x, y, ox, oy, rfl, hx, hy, rfl⟩⟩
  | @tupN a xs h hl => exact .inl ⟨a, xs, rfl, h, .inr ⟨hl, rfl⟩⟩
  | lst h => exact .inr ⟨rfl, "list", .base (.lst h), by decide +kernel⟩
  | dct h => exact .inr ⟨rfl, "dict", .base (.dK h), by decide +kernel⟩
  | non => exact .inr ⟨rfl, "NoneType", .base .non, by decide +kernel⟩
  | bl b => exact .inr ⟨rfl, "bool", .base (.bl b), by decide +kernel⟩
  | int i => exact .inr ⟨rfl, "int", .base (.int i), by decide +kernel⟩
  | str x => exact .inr ⟨rfl, "str", .base (.str x), by decide +kernel⟩
theorem Nm.thi {K : PySem.W.Frag} {H : Hp} {v : V} {o : Option PyData} (h : Nm K H v o) : ∃ r, Thi K H v r := by
  cases h with
  | int i h => exact ⟨_, .int i⟩
  | non => exact ⟨_, .non⟩
  | bl b => exact ⟨_, .bl b⟩
  | str => exact ⟨_, .str _⟩
  | tup h => exact ⟨_, .pair h (.int 1 (by decide)) (.int 1 (by decide))⟩
  | lst h => exact ⟨_, .lst h⟩
  | dct h => exact ⟨_, .dct h⟩
def spThi (K : PySem.W.Frag) : Sp := fun vs H Q _ => ∃ (v : V) (r : Bool), vs = [v] ∧ Thi K H v r ∧ Q (.bl r) H
section
variable {P : Program} {w : World} {K : PySem.W.Frag} {mg : Str → Option Value} {base : Heap}
theorem scDiv : FnScope ["one", "other"] ["one", "other"] (defScope sDiv) := ⟨rfl, rfl, rfl, by decide +kernel, rfl, by decide +kernel, by decide +kernel⟩
theorem ok_div {f : Addr} {fd : FuncData} {k : Nat} (F : Fun K "divisor" "divisor" sDiv f fd) (B : Blt mg) : FnOk P w K mg base CX0 (k + 1) f fd ["one", "other"] spDiv := by
  refine F.ok scDiv (fun vs H Q E h => ?_) (fun cdv A outer s H vs Q E hr h => ?_)
  · obtain ⟨a, b, rfl, _⟩ := h
    rfl
  · obtain ⟨a, b, rfl, q⟩ := h
    refine ⟨_, pss_cons (ps_while PassesOwn.never (pt_cmpR op_ne (pv 1) pe_int (nomark _))
        (pss_one (ps_par (i := 0) (j := 1) (by rfl) scDiv.nd rfl rfl (by decide) rfl rfl (pa_cons (pv 1) (pa_cons (pe_op op_modN (pv 0) (pv 1)) pa_nil)) (by rfl))))
      (pss_one (ps_ret (pe_callB call_abs (by rfl) B.abs_ (by decide +kernel) (pa_cons (pv 0) pa_nil)))), ?_⟩
    refine ⟨fun m σ H' => ∃ x y : Int, σ = [some (.int x), some (.int y)] ∧ m = y.natAbs ∧ Int.gcd x y = Int.gcd a b ∧ H' = H, ⟨_, a, b, rfl, rfl, rfl, rfl⟩, ?_⟩
    rintro m σ H' ⟨x, y, rfl, rfl, hg, rfl⟩
    refine ⟨.int y, rfl, rfl, _, rfl, ite2 (fun c => ?_) (fun c => ?_)⟩
    · have hy : y ≠ 0 := fun e => by
        subst e
        exact absurd c (by decide)
      refine ⟨fun σ' H'' => ∃ x' y' : Int, σ' = [some (.int x'), some (.int y')] ∧ y'.natAbs < y.natAbs ∧ Int.gcd x' y' = Int.gcd a b ∧ H'' = H', ?_, ?_⟩
      · rintro σ' H'' ⟨x', y', e1, e2, e3, e4⟩
        exact ⟨y'.natAbs, e2, x', y', e1, rfl, e3, e4⟩
      · refine ⟨.int y, rfl, .int x, rfl, .int y, rfl, x, y, rfl, rfl, hy, _, _, rfl, y, _, rfl, Fr.fmod_abs x hy, ?_, rfl⟩
        rw [Fr.gcd_step]
        exact hg
    · have hy : y = 0 := by
        by_cases e : y = 0
        · exact e
        · exact absurd (by simp [e]) c
      subst hy
      rw [Int.gcd_zero_right] at hg
      refine ⟨.int x, rfl, x, rfl, ?_⟩
      have e : (if x < 0 then -x else x) = (Int.gcd a b : Int) := by
        rw [← hg]
        split <;> omega
      rw [e]
      exact q
theorem scLowest : FnScope ["top", "bottom", "by"] ["top", "bottom"] (defScope sLowest) := ⟨rfl, rfl, rfl, by decide +kernel, rfl, by decide +kernel, by decide +kernel⟩
theorem ok_lowest {f fD : Addr} {fd fdD : FuncData} {k : Nat} (F : Fun K "lowest" "lowest" sLowest f fd) (GD : FnOk P w K mg base CX0 k fD fdD ["one", "other"] spDiv) (kD : PySem.W.keepIn K (.ref fD) = true) (bD : Binds K fdD ["one", "other"] []) (gD : mg "divisor" = some (.ref fD)) : FnOk P w K mg base CX0 (k + 1) f fd ["top", "bottom"] spLow := by
  refine F.ok scLowest (fun vs H Q E h => ?_) (fun cdv A outer s H vs Q E hr h => ?_)
  · obtain ⟨a, b, n, rfl, _⟩ := h
    rfl
  · obtain ⟨t, b, n, rfl, ht, hb, h0, hn, q⟩ := h
    refine ⟨_, pss_cons (ps_set (i := 2) scLowest.nd rfl (.inl rfl) (pe_call GD hr (by rfl) gD kD bD .nil pass0 (pa_cons (pv 0) (pa_cons (pv 1) pa_nil))))
      (pss_cons (ps_if (pt_cmpR op_lt (pv 1) pe_int (nomark _)) (pss_one (ps_set (i := 2) scLowest.nd rfl (.inl rfl) (pe_un un_neg (pv 2)))) pss_nil)
      (pss_one (ps_ret (pe_tup (pa_cons (pe_op op_fdivZ (pv 0) (pv 2)) (pa_cons (pe_op op_fdivZ (pv 1) (pv 2)) pa_nil)))))), ?_⟩
    have hg := Fr.gcd_pos (t := t) h0
    have hgb := gcd_bd (t := t) h0 hb
    have hn0 : 0 < n := by
      cases n with
      | zero => simp at hb; omega
      | succ n => omega
    refine ⟨_, rfl, _, rfl, t, b, rfl, ?_⟩
    refine ⟨_, rfl, b, 0, rfl, rfl, _, rfl, ite2 (fun c => ?_) (fun c => ?_)⟩
    · have hb0 : b < 0 := of_decide_eq_true c
      refine ⟨_, rfl, _, rfl, ?_⟩
      have d : ∀ i : Int, CDivZ i (-(Int.gcd t b : Int)) := fun i => divZ (n := n) (by omega) (by rw [Int.natAbs_neg]; exact hgb) hn0 (by omega)
      refine ⟨_, rfl, _, rfl, t, _, rfl, rfl, d _, _, rfl, _, rfl, b, _, rfl, rfl, d _, (by show 2 ≤ sizeLine; decide), fun p hp => ?_⟩
      have z := q p hp
      rw [rp, ← Fr.lowN_num hb0, ← Fr.lowN_den hb0] at z
      exact z
    · have hb0 : 0 < b := by
        have : ¬ b < 0 := of_decide_eq_false (Bool.eq_false_iff.mpr c)
        omega
      have d : ∀ i : Int, CDivZ i (Int.gcd t b : Int) := fun i => divZ (n := n) (by omega) hgb hn0 (by omega)
      refine ⟨_, rfl, _, rfl, t, _, rfl, rfl, d _, _, rfl, _, rfl, b, _, rfl, rfl, d _, (by show 2 ≤ sizeLine; decide), fun p hp => ?_⟩
      have z := q p hp
      rw [rp, ← Fr.low_num hb0, ← Fr.low_den hb0] at z
      exact z
theorem scLeft : FnScope ["_law_cell", "_law_left_here", "_law_number_here", "_law_turn"] ["_law_cell"] (defScope sLeft) := ⟨rfl, rfl, rfl, by decide +kernel, rfl, by decide +kernel, by decide +kernel⟩
theorem ok_left {f : Addr} {fd : FuncData} {k : Nat} (F : Fun K "_law_left" "_law_left" sLeft f fd) (B : Blt mg) : FnOk P w K mg base CX0 (k + 1) f fd ["_law_cell"] spLeft := by
  refine F.ok scLeft (fun vs H Q E h => ?_) (fun cdv A outer s H vs Q E hr h => ?_)
  · obtain ⟨c, rfl, _⟩ := h
    rfl
  · obtain ⟨c, rfl, q⟩ := h
    refine ⟨_, pss_cons (ps_set (i := 1) scLeft.nd rfl (.inl rfl) (pe_callB call_abs (by rfl) B.abs_ (by decide +kernel) (pa_cons (pv 0) pa_nil)))
      (pss_cons (ps_if (pt_cmpR op_lt (pv 1) (pe_op op_pow pe_int pe_int) (nomark _))
        (pss_cons (ps_set (i := 2) scLeft.nd rfl (.inl rfl) (pv 0))
        (pss_one (ps_for PassesOwn.never rfl (pi_range1 (by rfl) B.range_ (pa_cons pe_int pa_nil)) (pg_name (i := 3) scLeft.nd rfl (.inl rfl))
          (pss_cons (ps_set (i := 2) scLeft.nd rfl (.inl rfl) (pe_op op_mod (pe_op op_mul (pe_op op_add (pe_op op_mod (pv 2) pe_int) pe_int) pe_int) pe_int))
          (pss_cons (ps_set (i := 2) scLeft.nd rfl (.inl rfl) (pe_op op_add (pe_op op_mod (pe_op op_mul (pv 2) pe_int) pe_int) (pv 3)))
          (pss_one (ps_set (i := 1) scLeft.nd rfl (.inl rfl) (pe_op op_add (pe_op op_mul (pv 1) pe_int) (pv 2)))))))))
        pss_nil)
      (pss_one (ps_ret (pe_lst (pa_cons (pv 1) pa_nil))))), ?_⟩
    refine ⟨_, rfl, c, rfl, ?_⟩
    refine ⟨_, rfl, 10, 18, rfl, rfl, ⟨by decide, by decide, by decide⟩, _, _, rfl, rfl, _, rfl, ite2 (fun z => ?_) (fun z => ?_)⟩
    · refine ⟨_, rfl, 40, rfl, by decide, by decide, for_range (lo := 0) (n := 40) (fun i σ H' => ∃ (n m : Int) (y : Option V), σ = [some (.int c), some (.int n), some (.int m), y] ∧ H' = H) ⟨_, _, none, rfl, rfl⟩ ?_ ?_⟩
      · rintro i σ H' hi ⟨n, m, y, rfl, rfl⟩
        refine ⟨_, rfl, _, _, rfl, rfl, (by show (0 : Int) < 2147483629; decide), _, _, rfl, rfl, _, _, rfl, rfl, .inr ⟨by decide, by decide⟩, _, _, rfl, rfl, (by show (0 : Int) < 2147483629; decide), ?_⟩
        refine ⟨_, rfl, _, _, rfl, rfl, .inr ⟨by decide, by decide⟩, _, _, rfl, rfl, (by show (0 : Int) < 2147483647; decide), _, rfl, _, _, rfl, rfl, ?_⟩
        refine ⟨_, rfl, _, _, rfl, rfl, .inr ⟨by decide, by decide⟩, _, rfl, _, _, rfl, rfl, ?_⟩
        exact ⟨_, _, _, rfl, rfl⟩
      · rintro σ H' ⟨n, m, y, rfl, rfl⟩
        exact ⟨_, rfl, (by show 1 ≤ sizeLine; decide), fun p hp => q p n hp⟩
    · exact ⟨_, rfl, (by show 1 ≤ sizeLine; decide), fun p hp => q p _ hp⟩
theorem scDigit : FnScope ["_law_left_here", "_law_many", "_law_found"] ["_law_left_here", "_law_many"] (defScope sDigit) := ⟨rfl, rfl, rfl, by decide +kernel, rfl, by decide +kernel, by decide +kernel⟩
theorem ok_digit {f : Addr} {fd : FuncData} {k : Nat} (F : Fun K "_law_digit" "_law_digit" sDigit f fd) : FnOk P w K mg base CX0 (k + 1) f fd ["_law_left_here", "_law_many"] spDigit := by
  refine F.ok scDigit (fun vs H Q E h => ?_) (fun cdv A outer s H vs Q E hr h => ?_)
  · obtain ⟨l, n, m, rfl, _⟩ := h
    rfl
  · obtain ⟨l, n, m, rfl, hl, hm, hmb, q⟩ := h
    refine ⟨_, pss_cons (ps_set (i := 2) scDigit.nd rfl (.inl rfl) (pe_op op_mod (pe_ix ix_list (pv 0) pe_int (fun _ _ => rfl)) (pv 1)))
      (pss_cons (ps_asg (pe_op op_fdivW (pe_ix ix_list (pv 0) pe_int (fun _ _ => rfl)) (pv 1)) (pg_sub (pv 0) pe_int set_list))
      (pss_one (ps_ret (pv 2)))), ?_⟩
    refine ⟨_, rfl, l, _, 0, .int n, rfl, rfl, SqL.of hl, atI_nat (j := 0) rfl, _, rfl, _, _, rfl, rfl, hm, ?_⟩
    refine ⟨_, rfl, l, _, 0, .int n, rfl, rfl, SqL.of hl, atI_nat (j := 0) rfl, _, rfl, _, _, rfl, rfl, wide_div hm hmb (by decide) (by decide), ?_⟩
    refine ⟨_, rfl, l, _, 0, 0, rfl, rfl, hl, rfl, ?_⟩
    exact ⟨_, rfl, q _ _ (Int.emod_nonneg _ (by omega)) (Int.emod_lt_of_pos _ hm)⟩
theorem scWhole : FnScope ["thing"] ["thing"] (defScope sWhole) := ⟨rfl, rfl, rfl, by decide +kernel, rfl, by decide +kernel, by decide +kernel⟩
theorem ok_Whole {f : Addr} {fd : FuncData} {k : Nat} (F : Fun K "is_whole" "is_whole" sWhole f fd) (B : Blt mg) : FnOk P w K mg base CX0 (k + 1) f fd ["thing"] (spWhole K) := by
  refine F.ok scWhole (fun vs H Q E h => ?_) (fun cdv A outer s H vs Q E hr h => ?_)
  · obtain ⟨i, o, rfl, _⟩ := h
    rfl
  · obtain ⟨v, o, rfl, hv, q⟩ := h
    refine ⟨_, pss_one (ps_ret (pe_and (pe_callB call_isi (by rfl) B.isinstance_ (by decide +kernel) (pa_cons (pv 0) (pa_cons (pe_bltn (v := .ty "int") (by rfl) B.int_ (by decide +kernel) rfl) pa_nil)))
      (pe_one (pe_not (pe_callB call_isi (by rfl) B.isinstance_ (by decide +kernel) (pa_cons (pv 0) (pa_cons (pe_bltn (v := .ty "bool") (by rfl) B.bool_ (by decide +kernel) rfl) pa_nil))))))), ?_⟩
    obtain ⟨n, b1, b2, ht, h1, h2, e⟩ := hv.ty
    refine ⟨_, rfl, _, _, _, _, b1, rfl, .ty "int", ht, kit_ty h1, _, rfl, ?_⟩
    rw [e] at q
    cases b1 with
    | false => exact iteF q
    | true => exact iteT ⟨_, rfl, _, _, _, _, b2, rfl, .ty "bool", ht, kit_ty (h2 rfl), _, rfl, q⟩
theorem scLWhole : FnScope ["_law_thing"] ["_law_thing"] (defScope sLWhole) := ⟨rfl, rfl, rfl, by decide +kernel, rfl, by decide +kernel, by decide +kernel⟩
theorem ok_LWhole {f : Addr} {fd : FuncData} {k : Nat} (F : Fun K "_law_whole" "_law_whole" sLWhole f fd) (B : Blt mg) : FnOk P w K mg base CX0 (k + 1) f fd ["_law_thing"] (spWhole K) := by
  refine F.ok scLWhole (fun vs H Q E h => ?_) (fun cdv A outer s H vs Q E hr h => ?_)
  · obtain ⟨i, o, rfl, _⟩ := h
    rfl
  · obtain ⟨v, o, rfl, hv, q⟩ := h
    refine ⟨_, pss_one (ps_ret (pe_and (pe_callB call_isi (by rfl) B.isinstance_ (by decide +kernel) (pa_cons (pv 0) (pa_cons (pe_bltn (v := .ty "int") (by rfl) B.int_ (by decide +kernel) rfl) pa_nil)))
      (pe_one (pe_not (pe_callB call_isi (by rfl) B.isinstance_ (by decide +kernel) (pa_cons (pv 0) (pa_cons (pe_bltn (v := .ty "bool") (by rfl) B.bool_ (by decide +kernel) rfl) pa_nil))))))), ?_⟩
    obtain ⟨n, b1, b2, ht, h1, h2, e⟩ := hv.ty
    refine ⟨_, rfl, _, _, _, _, b1, rfl, .ty "int", ht, kit_ty h1, _, rfl, ?_⟩
    rw [e] at q
    cases b1 with
    | false => exact iteF q
    | true => exact iteT ⟨_, rfl, _, _, _, _, b2, rfl, .ty "bool", ht, kit_ty (h2 rfl), _, rfl, q⟩
theorem scIsR : FnScope ["thing", "top", "bottom"] ["thing"] (defScope sIsR) := ⟨rfl, rfl, rfl, by decide +kernel, rfl, by decide +kernel, by decide +kernel⟩
theorem ok_IsR {f fW fD : Addr} {fd fdW fdD : FuncData} {k : Nat} (F : Fun K "is_ratio" "is_ratio" sIsR f fd) (GW : FnOk P w K mg base CX0 k fW fdW ["thing"] (spWhole K)) (kW : PySem.W.keepIn K (.ref fW) = true) (bW : Binds K fdW ["thing"] []) (gW : mg "is_whole" = some (.ref fW))
    (GD : FnOk P w K mg base CX0 k fD fdD ["one", "other"] spDiv) (kD : PySem.W.keepIn K (.ref fD) = true) (bD : Binds K fdD ["one", "other"] []) (gD : mg "divisor" = some (.ref fD)) (B : Blt mg) : FnOk P w K mg base CX0 (k + 1) f fd ["thing"] (spThi K) := by
  refine F.ok scIsR (fun vs H Q E h => ?_) (fun cdv A outer s H vs Q E hr h => ?_)
  · obtain ⟨v, r, rfl, _⟩ := h
    rfl
  · obtain ⟨v, r, rfl, hv, q⟩ := h
    refine ⟨_, pss_cons (ps_if (PW.pt (pw_or (pt_not (pt_val (pe_callB call_isi (by rfl) B.isinstance_ (by decide +kernel) (pa_cons (pv 0) (pa_cons (pe_bltn (v := .ty "tuple") (by rfl) B.tuple_ (by decide +kernel) rfl) pa_nil)))))
          (pw_or1 (pt_cmpR op_ne (pe_callB call_len_seq (by rfl) B.len_ PySem.boot_len (pa_cons (pv 0) pa_nil)) pe_int (nomark _))))) (pss_one (ps_ret pe_bl)) pss_nil)
      (pss_cons (ps_asg (pv 0) (pg_tup (by rfl) (pgs_cons (pg_name (i := 1) scIsR.nd rfl (.inl rfl)) (pgs_cons (pg_name (i := 2) scIsR.nd rfl (.inl rfl)) pgs_nil))))
      (pss_cons (ps_if (PW.pt (pw_or (pt_not (pt_val (pe_call GW hr (by rfl) gW kW bW .nil pass0 (pa_cons (pv 1) pa_nil))))
          (pw_or1 (pt_not (pt_val (pe_call GW hr (by rfl) gW kW bW .nil pass0 (pa_cons (pv 2) pa_nil))))))) (pss_one (ps_ret pe_bl)) pss_nil)
      (pss_one (ps_ret (pe_and (pe_cmpR op_ge (pv 2) pe_int (nomark _)) (pe_one (pe_cmpR op_eq (pe_call GD hr (by rfl) gD kD bD .nil pass0 (pa_cons (pv 1) (pa_cons (pv 2) pa_nil))) pe_int (nomark _)))))))), ?_⟩
    rcases hv.ty with ⟨a, xs, rfl, ha, hp⟩ | ⟨rfl, n, ht, hn⟩
    · refine ⟨_, rfl, _, _, _, _, true, rfl, .ty "tuple", tyT ha, kit_ty (by decide +kernel), _, rfl, iteF ?_⟩
      refine ⟨_, rfl, a, xs, rfl, .inr ha, rfl, _, rfl, ?_⟩
      rcases hp with ⟨x, y, ox, oy, rfl, hx, hy, rfl⟩ | ⟨hl, rfl⟩
      · refine iteF ?_
        refine ⟨_, rfl, a, [x, y], rfl, ha, rfl, _, _, rfl, _, _, rfl, rfl, ?_⟩
        refine ⟨_, rfl, x, ox, rfl, hx, _, rfl, ?_⟩
        cases ox with
        | some d =>
          refine iteT (iteT ?_)
          have e : pairB x y = false := by cases hx <;> rfl
          rw [e] at q
          exact q
        | none =>
          refine iteF ⟨_, rfl, y, oy, rfl, hy, _, rfl, ?_⟩
          obtain ⟨t, rfl, ht⟩ := hx.ints
          cases oy with
          | some d =>
            refine iteT ?_
            have e : pairB (.int t) y = false := by cases hy <;> rfl
            rw [e] at q
            exact q
          | none =>
            obtain ⟨b, rfl, hb⟩ := hy.ints
            refine iteF ?_
            refine ⟨_, rfl, _, _, rfl, rfl, _, rfl, ?_⟩
            have q' : Q (.bl (decide (1 ≤ b) && decide (Int.gcd t b = 1))) H := q
            by_cases h1 : 1 ≤ b
            · rw [decide_eq_true h1] at q' ⊢
              refine iteT ⟨_, rfl, _, rfl, _, _, rfl, rfl, ?_⟩
              rw [Bool.true_and] at q'
              have e : decide (V.int (Int.gcd t b : Int) = V.int 1) = decide (Int.gcd t b = 1) := by
                rw [Bool.eq_iff_iff, decide_eq_true_iff, decide_eq_true_iff]
                exact ⟨fun z => by have := V.int.inj z; omega, fun z => by rw [z]; rfl⟩
              rw [e]
              exact q'
            · rw [decide_eq_false h1] at q' ⊢
              exact iteF q'
      · have e : (!decide (V.int ((xs.length : Nat) : Int) = V.int 2)) = true := by
          rw [decide_eq_false (fun z => hl (by have := V.int.inj z; omega))]
          rfl
        rw [e]
        exact iteT q
    · exact ⟨_, rfl, _, _, _, _, false, rfl, .ty "tuple", ht, kit_ty hn, _, rfl, iteT (iteT q)⟩
theorem scShared : FnScope ["_law_one", "_law_other"] ["_law_one", "_law_other"] (defScope sShared) := ⟨rfl, rfl, rfl, by decide +kernel, rfl, by decide +kernel, by decide +kernel⟩
theorem ok_Shared {f : Addr} {fd : FuncData} {k : Nat} (F : Fun K "_law_shared" "_law_shared" sShared f fd) (B : Blt mg) : FnOk P w K mg base CX0 (k + 1) f fd ["_law_one", "_law_other"] spDiv := by
  refine F.ok scShared (fun vs H Q E h => ?_) (fun cdv A outer s H vs Q E hr h => ?_)
  · obtain ⟨a, b, rfl, _⟩ := h
    rfl
  · obtain ⟨t, b, rfl, q⟩ := h
    refine ⟨_, pss_cons (ps_set (i := 0) scShared.nd rfl (.inl rfl) (pe_callB call_abs (by rfl) B.abs_ (by decide +kernel) (pa_cons (pv 0) pa_nil)))
      (pss_cons (ps_set (i := 1) scShared.nd rfl (.inl rfl) (pe_callB call_abs (by rfl) B.abs_ (by decide +kernel) (pa_cons (pv 1) pa_nil)))
      (pss_cons (ps_while PassesOwn.never (pt_cmpR op_gt (pv 1) pe_int (nomark _))
        (pss_one (ps_par (i := 0) (j := 1) (by rfl) scShared.nd rfl rfl (by decide) rfl rfl (pa_cons (pv 1) (pa_cons (pe_op op_modN (pv 0) (pv 1)) pa_nil)) (by rfl))))
      (pss_one (ps_ret (pv 0))))), ?_⟩
    refine ⟨_, rfl, t, rfl, ?_⟩
    refine ⟨_, rfl, b, rfl, ?_⟩
    rw [abs_eq, abs_eq]
    refine ⟨fun m σ H' => ∃ x y : Int, σ = [some (.int x), some (.int y)] ∧ 0 ≤ x ∧ 0 ≤ y ∧ m = y.natAbs ∧ Int.gcd x y = Int.gcd t b ∧ H' = H,
      ⟨_, (t.natAbs : Int), (b.natAbs : Int), rfl, by omega, by omega, rfl, ?_, rfl⟩, ?_⟩
    · rw [Int.gcd, Int.gcd, Int.natAbs_natCast, Int.natAbs_natCast]
    rintro m σ H' ⟨x, y, rfl, hx, hy, rfl, hgg, rfl⟩
    refine ⟨_, rfl, y, 0, rfl, rfl, _, rfl, ite2 (fun c => ?_) (fun c => ?_)⟩
    · have hy0 : 0 < y := of_decide_eq_true c
      refine ⟨fun σ' H'' => ∃ x' y' : Int, σ' = [some (.int x'), some (.int y')] ∧ 0 ≤ x' ∧ 0 ≤ y' ∧ y'.natAbs < y.natAbs ∧ Int.gcd x' y' = Int.gcd t b ∧ H'' = H', ?_, ?_⟩
      · rintro σ' H'' ⟨x', y', e1, e2, e3, e4, e5, e6⟩
        exact ⟨y'.natAbs, e4, x', y', e1, e2, e3, rfl, e5, e6⟩
      · refine ⟨.int y, rfl, .int x, rfl, .int y, rfl, x, y, rfl, rfl, (by omega : y ≠ 0), _, _, rfl, y, _, rfl, hy, Int.fmod_nonneg_of_pos x hy0, Fr.fmod_abs x (by omega), ?_, rfl⟩
        rw [Fr.gcd_step]
        exact hgg
    · have hy0 : y = 0 := by
        have : ¬ 0 < y := of_decide_eq_false (Bool.eq_false_iff.mpr c)
        omega
      subst hy0
      rw [Int.gcd_zero_right] at hgg
      have ex : x = (Int.gcd t b : Int) := by omega
      subst ex
      exact ⟨_, rfl, q⟩
theorem scLIs : FnScope ["_law_thing"] ["_law_thing"] (defScope sLIs) := ⟨rfl, rfl, rfl, by decide +kernel, rfl, by decide +kernel, by decide +kernel⟩
theorem ok_LIs {f fW fD : Addr} {fd fdW fdD : FuncData} {k : Nat} (F : Fun K "_law_is" "_law_is" sLIs f fd) (GW : FnOk P w K mg base CX0 k fW fdW ["_law_thing"] (spWhole K)) (kW : PySem.W.keepIn K (.ref fW) = true) (bW : Binds K fdW ["_law_thing"] []) (gW : mg "_law_whole" = some (.ref fW))
    (GD : FnOk P w K mg base CX0 k fD fdD ["_law_one", "_law_other"] spDiv) (kD : PySem.W.keepIn K (.ref fD) = true) (bD : Binds K fdD ["_law_one", "_law_other"] []) (gD : mg "_law_shared" = some (.ref fD)) (B : Blt mg) : FnOk P w K mg base CX0 (k + 1) f fd ["_law_thing"] (spThi K) := by
  refine F.ok scLIs (fun vs H Q E h => ?_) (fun cdv A outer s H vs Q E hr h => ?_)
  · obtain ⟨v, r, rfl, _⟩ := h
    rfl
  · obtain ⟨v, r, rfl, hv, q⟩ := h
    refine ⟨_, pss_cons (ps_if (PW.pt (pw_or (pt_not (pt_val (pe_callB call_isi (by rfl) B.isinstance_ (by decide +kernel) (pa_cons (pv 0) (pa_cons (pe_bltn (v := .ty "tuple") (by rfl) B.tuple_ (by decide +kernel) rfl) pa_nil)))))
          (pw_or (pt_cmpR op_ne (pe_callB call_len_seq (by rfl) B.len_ PySem.boot_len (pa_cons (pv 0) pa_nil)) pe_int (nomark _))
          (pw_or (pt_not (pt_val (pe_call GW hr (by rfl) gW kW bW .nil pass0 (pa_cons (pe_ix ix_tup (pv 0) pe_int (fun _ _ => rfl)) pa_nil))))
          (pw_or1 (pt_not (pt_val (pe_call GW hr (by rfl) gW kW bW .nil pass0 (pa_cons (pe_ix ix_tup (pv 0) pe_int (fun _ _ => rfl)) pa_nil))))))))) (pss_one (ps_ret pe_bl)) pss_nil)
      (pss_one (ps_ret (pe_and (pe_cmpR op_gt (pe_ix ix_tup (pv 0) pe_int (fun _ _ => rfl)) pe_int (nomark _)) (pe_one (pe_cmpR op_eq (pe_call GD hr (by rfl) gD kD bD .nil pass0 (pa_cons (pe_ix ix_tup (pv 0) pe_int (fun _ _ => rfl)) (pa_cons (pe_ix ix_tup (pv 0) pe_int (fun _ _ => rfl)) pa_nil))) pe_int (nomark _)))))), ?_⟩
    rcases hv.ty with ⟨a, xs, rfl, ha, hp⟩ | ⟨rfl, n, ht, hn⟩
    · refine ⟨_, rfl, _, _, _, _, true, rfl, .ty "tuple", tyT ha, kit_ty (by decide +kernel), _, rfl, iteF ?_⟩
      refine ⟨_, rfl, a, xs, rfl, .inr ha, rfl, _, rfl, ?_⟩
      rcases hp with ⟨x, y, ox, oy, rfl, hx, hy, rfl⟩ | ⟨hl, rfl⟩
      · refine iteF ?_
        refine ⟨_, rfl, a, [x, y], 0, x, rfl, rfl, ha, atI_nat (j := 0) rfl, x, ox, rfl, hx, _, rfl, ?_⟩
        cases ox with
        | some d =>
          refine iteT (iteT ?_)
          have e : pairB x y = false := by cases hx <;> rfl
          rw [e] at q
          exact q
        | none =>
          refine iteF ⟨_, rfl, a, [x, y], 1, y, rfl, rfl, ha, atI_nat (j := 1) rfl, y, oy, rfl, hy, _, rfl, ?_⟩
          obtain ⟨t, rfl, ht⟩ := hx.ints
          cases oy with
          | some d =>
            refine iteT ?_
            have e : pairB (.int t) y = false := by cases hy <;> rfl
            rw [e] at q
            exact q
          | none =>
            obtain ⟨b, rfl, hb⟩ := hy.ints
            refine iteF ?_
            refine ⟨_, rfl, a, [.int t, .int b], 1, .int b, rfl, rfl, ha, atI_nat (j := 1) rfl, _, _, rfl, rfl, _, rfl, ?_⟩
            have q' : Q (.bl (decide (1 ≤ b) && decide (Int.gcd t b = 1))) H := q
            by_cases h1 : 1 ≤ b
            · rw [decide_eq_true h1] at q'
              rw [decide_eq_true (show (0 : Int) < b by omega)]
              refine iteT ⟨_, rfl, a, [.int t, .int b], 0, .int t, rfl, rfl, ha, atI_nat (j := 0) rfl, _, rfl, a, [.int t, .int b], 1, .int b, rfl, rfl, ha, atI_nat (j := 1) rfl, _, _, rfl, rfl, ?_⟩
              rw [Bool.true_and] at q'
              have e : decide (V.int (Int.gcd t b : Int) = V.int 1) = decide (Int.gcd t b = 1) := by
                rw [Bool.eq_iff_iff, decide_eq_true_iff, decide_eq_true_iff]
                exact ⟨fun z => by have := V.int.inj z; omega, fun z => by rw [z]; rfl⟩
              rw [e]
              exact q'
            · rw [decide_eq_false h1] at q'
              rw [decide_eq_false (show ¬ (0 : Int) < b by omega)]
              exact iteF q'
      · have e : (!decide (V.int ((xs.length : Nat) : Int) = V.int 2)) = true := by
          rw [decide_eq_false (fun z => hl (by have := V.int.inj z; omega))]
          rfl
        rw [e]
        exact iteT (iteT q)
    · exact ⟨_, rfl, _, _, _, _, false, rfl, .ty "tuple", ht, kit_ty hn, _, rfl, iteT (iteT q)⟩
end
end K1

set_option Elab.async false
set_option linter.all false
set_option maxRecDepth 100000
set_option maxHeartbeats 4000000
namespace K1
open PySem PySem.Spec PyProof.Rows L2 BX EXB Co
open Fr (Bd)
abbrev zdTail : List Value := [.type "ZeroDivisionError", .type "ArithmeticError", .type "Exception", .type "BaseException", .type "object"]
/-- what the top has written of the two errors -/
structure ErT (K : PySem.W.Frag) (mg : Str → Option Value) (CN fN CB fB : Addr) : Prop where
  oex : OexC K CN
  gN : mg "NoNumber" = some (.ref CN)
  iN : PySem.W.findIn K (.ref CN) "__init__" = some (some (.ref fN))
  tN : PySem.W.typeIn K (.ref fN) = some (.type "function")
  noN : PySem.W.findIn K (.ref CN) "number" = some none
  xfN : XfC K CN
  exN : ExcC K CN
  vN : PySem.W.findCls K (.type "ValueError") (.type "type") "__init__" = some (.val (.builtin "ValueError.__init__"))
  cl : ExC K CB "ZeroDivisionError.__new__" zdTail
  gB : mg "ByNought" = some (.ref CB)
  iB : PySem.W.findIn K (.ref CB) "__init__" = some (some (.ref fB))
  tB : PySem.W.typeIn K (.ref fB) = some (.type "function")
  exB : ExcC K CB
  vB : PySem.W.findCls K (.type "ZeroDivisionError") (.type "type") "__init__" = some (.val (.builtin "ZeroDivisionError.__init__"))
  nn : PySem.W.exmOne K (.ref CN) (.ref CN) = some true
  bn : PySem.W.exmOne K (.ref CB) (.ref CN) = some false
  bb : PySem.W.exmOne K (.ref CB) (.ref CB) = some true
  isNV : PySem.W.kitOne K (.ref CN) (.type "ValueError") = some true
  isNB : PySem.W.kitOne K (.ref CN) (.ref CB) = some false
  isBZ : PySem.W.kitOne K (.ref CB) (.type "ZeroDivisionError") = some true
  isBN : PySem.W.kitOne K (.ref CB) (.ref CN) = some false
/-- what is told of two things -/
inductive Rs
  | odd (d : PyData)
  | nought
  | frac (q : Rat)
def Rs.vals : Rs → List V
  | .odd d => [.str "none", .str d.shown, .bl true]
  | .nought => [.str "nought", .str "", .bl true]
  | .frac q => rp q
def Rs.dat : Rs → PyData
  | .odd d => .tuple [.str "none", .str d.shown, .bool true]
  | .nought => .tuple [.str "nought", .str "", .bool true]
  | .frac q => dR q
def res : V → V → Option PyData → Option PyData → Rs
  | _, _, some d, _ => .odd d
  | _, _, none, some d => .odd d
  | .int t, .int b, none, none => if b = 0 then .nought else .frac (Rat.divInt t b)
  | _, _, none, none => .nought
def Rs.ok : Rs → Prop
  | .odd d => OddOk d
  | _ => True
theorem res_ok {K : PySem.W.Frag} {H : Hp} {x y : V} {ox oy : Option PyData} (hx : Nm K H x ox) (hy : Nm K H y oy) : (res x y ox oy).ok := by
  cases ox with
  | some d => exact hx.odd
  | none =>
    cases oy with
    | some d => exact hy.odd
    | none =>
      obtain ⟨t, rfl, _⟩ := hx.ints
      obtain ⟨b, rfl, _⟩ := hy.ints
      show (if b = 0 then Rs.nought else Rs.frac (Rat.divInt t b)).ok
      split <;> trivial
theorem dp_rs {K : PySem.W.Frag} {H : Hp} {a : Addr} {r : Rs} (h : SqT K H a r.vals) : Dp K H (.ref a) r.dat := by
  cases r with
  | odd d => exact .tup h (.cons (.str _) (.cons (.str _) (.cons (.bl _) .nil)))
  | nought => exact .tup h (.cons (.str _) (.cons (.str _) (.cons (.bl _) .nil)))
  | frac q => exact dp_r h
theorem rs_lay {r : Rs} (h : r.ok) : r.dat.canLay0 = true := by
  cases r with
  | odd d =>
    have e : (PyData.str d.shown).canLay0 = true := OddOk.tx h
    show ((PyData.str "none").canLay0 && ((PyData.str d.shown).canLay0 && ((PyData.bool true).canLay0 && true))) = true
    rw [e]
    decide +kernel
  | nought => decide +kernel
  | frac q => rfl
theorem rs_shaped {r : Rs} (h : r.ok) : SeqAt.shaped r.dat = true := by
  unfold SeqAt.shaped
  rw [rs_lay h, Bool.true_and]
  cases r with
  | odd d => rfl
  | nought => rfl
  | frac q => rfl
def spMade (K : PySem.W.Frag) (CN CB : Addr) : Sp := fun vs H Q E => ∃ (x y : V) (ox oy : Option PyData), vs = [x, y] ∧ Nm K H x ox ∧ Nm K H y oy ∧
  (∀ v d, (ox = some d ∧ v = x) ∨ (ox = none ∧ oy = some d ∧ v = y) → ∀ H' dx, Same H H' → H' dx = some (.xd [("number", v)]) → E (.ref CN) (some dx) H') ∧
  (ox = none → y = .int 0 → ∀ H', Same H H' → E (.ref CB) none H') ∧
  (∀ t b : Int, x = .int t → y = .int b → b ≠ 0 → ∀ p H', Same H H' → SqT K H' p (rp (Rat.divInt t b)) → Q (.ref p) H')
def spNum (K : PySem.W.Frag) : Sp := fun vs H Q _ => ∃ (l : Addr) (n : Int), vs = [.ref l] ∧ H l = some (.lst [.int n]) ∧
  ∀ v o n' H', (∀ b u, b ≠ l → H b = some u → H' b = some u) → H' l = some (.lst [.int n']) → Nm K H' v o → v ≠ .ref l → Q v H'
def spDue (K : PySem.W.Frag) : Sp := fun vs H Q _ => ∃ (x y : V) (ox oy : Option PyData), vs = [x, y] ∧ Nm K H x ox ∧ Nm K H y oy ∧ ∀ r H', Same H H' → SqT K H' r (res x y ox oy).vals → Q (.ref r) H'
def spAsked (K : PySem.W.Frag) : Sp := fun vs H Q _ => ∃ (x y : V) (ox oy : Option PyData) (way : Int), vs = [x, y, .int way] ∧ Nm K H x ox ∧ Nm K H y oy ∧ (way = 0 ∨ way = 1 ∨ (way = 2 ∧ y = .int 1)) ∧ ∀ r H', Same H H' → SqT K H' r (res x y ox oy).vals → Q (.ref r) H'
section
variable {P : Program} {w : World} {K : PySem.W.Frag} {mg : Str → Option Value} {base : Heap} {CN fN CB fB : Addr}
theorem scNnInit : FnScope ["self", "number"] ["self", "number"] (defScope sNnInit) := ⟨rfl, rfl, rfl, by decide +kernel, rfl, by decide +kernel, by decide +kernel⟩
theorem ok_nn {fd : FuncData} {k : Nat} (F : Fun K "__init__" "NoNumber.__init__" sNnInit fN fd) (T : ErT K mg CN fN CB fB) (B : Blt mg) : FnOk P w K mg base CX0 (k + 1) fN fd ["self", "number"] (spE1 CN "number") := by
  refine F.ok scNnInit (fun vs H Q E h => ?_) (fun cdv A outer s H vs Q E hr h => ?_)
  · obtain ⟨a, v, rfl, _⟩ := h
    rfl
  · obtain ⟨a, v, rfl, ha, q⟩ := h
    refine ⟨_, pss_cons (ps_expr (pe_veinit (by rfl) B.ValueError_ T.vN (pa_cons (pv 0) (pa_cons pe_str pa_nil)))) (pss_one (ps_ost (pv 0) (pv 1))), ?_⟩
    refine ⟨_, rfl, a, CN, _, rfl, (by show 1 ≤ 1000; decide), T.oex, ha, ?_⟩
    exact ⟨_, rfl, _, rfl, a, CN, rfl, T.oex, T.noN, .inl ⟨ha, q⟩⟩
theorem scBnInit : FnScope ["self"] ["self"] (defScope sBnInit) := ⟨rfl, rfl, rfl, by decide +kernel, rfl, by decide +kernel, by decide +kernel⟩
theorem ok_bn {fd : FuncData} {k : Nat} (F : Fun K "__init__" "ByNought.__init__" sBnInit fB fd) (T : ErT K mg CN fN CB fB) (B : Blt mg) : FnOk P w K mg base CX0 (k + 1) fB fd ["self"] (spEi CB) := by
  refine F.ok scBnInit (fun vs H Q E h => ?_) (fun cdv A outer s H vs Q E hr h => ?_)
  · obtain ⟨a, rfl, _⟩ := h
    rfl
  · obtain ⟨a, rfl, ha, q⟩ := h
    refine ⟨_, pss_one (ps_expr (pe_zdinit (by rfl) B.ZeroDivisionError_ T.vB (pa_cons (pv 0) (pa_cons pe_str pa_nil)))), ?_⟩
    exact ⟨_, rfl, a, CB, _, rfl, (by show 1 ≤ 1000; decide), T.cl, ha, q⟩
theorem scMade : FnScope ["top", "bottom", "thing"] ["top", "bottom"] (defScope sMade) := ⟨rfl, rfl, rfl, by decide +kernel, rfl, by decide +kernel, by decide +kernel⟩
theorem ok_Made {f fL fW : Addr} {fd fdL fdW fdN fdB : FuncData} {k : Nat} (F : FunD K "made" "made" (defArgs sMade) (defBody sMade) (defScope sMade) [.int 1] [] f fd) (T : ErT K mg CN fN CB fB)
    (GN : FnOk P w K mg base CX0 k fN fdN ["self", "number"] (spE1 CN "number")) (bN : Binds K fdN ["self", "number"] []) (GB : FnOk P w K mg base CX0 k fB fdB ["self"] (spEi CB)) (bB : Binds K fdB ["self"] [])
    (GW : FnOk P w K mg base CX0 k fW fdW ["thing"] (spWhole K)) (kW : PySem.W.keepIn K (.ref fW) = true) (bW : Binds K fdW ["thing"] []) (gW : mg "is_whole" = some (.ref fW))
    (GL : FnOk P w K mg base CX0 k fL fdL ["top", "bottom"] spLow) (kL : PySem.W.keepIn K (.ref fL) = true) (bL : Binds K fdL ["top", "bottom"] []) (gL : mg "lowest" = some (.ref fL)) :
    FnOk P w K mg base (L2.CX P w) (k + 2) f fd ["top", "bottom"] (spMade K CN CB) := by
  refine F.ok scMade (fun vs H Q E h => ?_) (fun cdv A outer s H vs Q E hr h => ?_)
  · obtain ⟨x, y, ox, oy, rfl, _⟩ := h
    rfl
  · obtain ⟨x, y, ox, oy, rfl, hx, hy, qN, qB, q⟩ := h
    refine ⟨_, pss_cons (ps_for (passes_of rfl) rfl (pi_tup (pe_tup (pa_cons (pv 0) (pa_cons (pv 1) pa_nil)))) (pg_name (i := 2) scMade.nd rfl (.inl rfl))
        (pss_one (ps_if (pt_not (pt_val (pe_call GW (hr.mono (by omega)) (by rfl) gW kW bW .nil pass0 (pa_cons (pv 2) pa_nil))))
          (pss_one (ps_raise (W := fun cls d _ H' => E cls d H') rfl (takes_of rfl rfl rfl rfl) (pmk_oex T.oex T.iN T.tN GN hr bN .nil pass0 (by rfl) T.gN (pa_cons (pv 2) pa_nil)))) pss_nil)))
      (pss_cons (ps_if (pt_cmpR op_eq (pv 1) pe_int (nomark _)) (pss_one (ps_raise (W := fun cls d _ H' => E cls d H') rfl (takes_of rfl rfl rfl rfl) (pmk_exN PySem.F.excBase_ZeroDivisionError T.cl T.iB T.tB GB hr bB (by rfl) T.gB))) pss_nil)
      (PSs.nox (pss_one (ps_ret (pe_call GL (hr.mono (by omega)) (by rfl) gL kL bL .nil pass0 (pa_cons (pv 0) (pa_cons (pv 1) pa_nil))))))), ?_⟩
    refine ⟨_, rfl, _, rfl, (by show 2 ≤ sizeLine; decide), fun p hp => ?_⟩
    have s1 := same_new hp (.tup [x, y])
    refine ⟨p, rfl, ⟨_, SqT.of upd_same⟩, for_tup (K := K) (a := p) (xs := [x, y]) (fun i σ H' => ∃ z : Option V, σ = [some x, some y, z] ∧ H' = upd H p (.tup [x, y]) ∧ (1 ≤ i → ox = none) ∧ (2 ≤ i → oy = none))
      ⟨none, rfl, rfl, fun z => by omega, fun z => by omega⟩ (fun i σ H' _ ⟨_, _, e, _⟩ => by rw [e]; exact SqT.of upd_same) ?_ ?_⟩
    · rintro i v σ H' hi ⟨z, rfl, rfl, h1, h2⟩
      have hv : (i = 0 ∧ v = x) ∨ (i = 1 ∧ v = y) := by
        match i, hi with
        | 0, hi => exact .inl ⟨rfl, (Option.some.inj hi).symm⟩
        | 1, hi => exact .inr ⟨rfl, (Option.some.inj hi).symm⟩
        | i + 2, hi => simp at hi
      obtain ⟨o, hvo, hwh, hgo⟩ : ∃ o, Nm K H v o ∧ (∀ d, o = some d → (ox = some d ∧ v = x) ∨ (ox = none ∧ oy = some d ∧ v = y)) ∧ (o = none → (1 ≤ i + 1 → ox = none) ∧ (2 ≤ i + 1 → oy = none)) := by
        rcases hv with ⟨rfl, rfl⟩ | ⟨rfl, rfl⟩
        · exact ⟨ox, hx, fun d e => .inl ⟨e, rfl⟩, fun e => ⟨fun _ => e, fun z => by omega⟩⟩
        · exact ⟨oy, hy, fun d e => .inr ⟨h1 (by omega), e, rfl⟩, fun e => ⟨fun _ => h1 (by omega), fun _ => e⟩⟩
      refine ⟨_, rfl, v, o, rfl, hvo.same s1, _, rfl, ?_⟩
      cases o with
      | none =>
        refine iteF ?_
        exact ⟨_, rfl, rfl, (hgo rfl).1, (hgo rfl).2⟩
      | some d =>
        refine iteT ⟨_, rfl, mk1 fun dx hdx => ?_⟩
        exact qN v d (hwh d rfl) _ dx (s1.trans (same_new hdx _)) upd_same
    · rintro σ H' ⟨z, rfl, rfl, h1, h2⟩
      have ex : ox = none := h1 (by show 1 ≤ 2; decide)
      have ey : oy = none := h2 (Nat.le_refl 2)
      subst ex ey
      obtain ⟨t, rfl, ht⟩ := hx.ints
      obtain ⟨b, rfl, hb⟩ := hy.ints
      refine ⟨_, rfl, rfl, _, rfl, ite2 (fun c => ?_) (fun c => ?_)⟩
      · have h0 : b = 0 := V.int.inj (of_decide_eq_true c)
        exact qB rfl (by rw [h0]) _ s1
      · have h0 : b ≠ 0 := fun e => c (decide_eq_true (congrArg V.int e))
        exact ⟨_, rfl, _, rfl, t, b, 100, rfl, ht, hb, h0, by decide, fun pp hpp => q t b rfl rfl h0 pp _ (s1.trans (same_new hpp _)) (SqT.of upd_same)⟩
theorem scNum : FnScope ["_law_left_here", "_law_way", "_law_number_here"] ["_law_left_here"] (defScope sNum) := ⟨rfl, rfl, rfl, by decide +kernel, rfl, by decide +kernel, by decide +kernel⟩
theorem size_at {d : Int} (h0 : 0 ≤ d) (h5 : d < 10) : ∃ v : Int, atI [V.int 13, V.int 13, V.int 13, V.int 13, V.int 100, V.int (10 ^ (6 : Int).toNat), V.int (10 ^ (15 : Int).toNat), V.int (10 ^ (30 : Int).toNat), V.int 13, V.int 13] d = some (V.int v) ∧ 0 < v ∧ v ≤ 10 ^ 30 := by
  have : d = 0 ∨ d = 1 ∨ d = 2 ∨ d = 3 ∨ d = 4 ∨ d = 5 ∨ d = 6 ∨ d = 7 ∨ d = 8 ∨ d = 9 := by omega
  rcases this with rfl | rfl | rfl | rfl | rfl | rfl | rfl | rfl | rfl | rfl
  · exact ⟨_, atI_nat (j := 0) rfl, by decide, by decide⟩
  · exact ⟨_, atI_nat (j := 1) rfl, by decide, by decide⟩
  · exact ⟨_, atI_nat (j := 2) rfl, by decide, by decide⟩
  · exact ⟨_, atI_nat (j := 3) rfl, by decide, by decide⟩
  · exact ⟨_, atI_nat (j := 4) rfl, by decide, by decide⟩
  · exact ⟨_, atI_nat (j := 5) rfl, by decide, by decide⟩
  · exact ⟨_, atI_nat (j := 6) rfl, by decide, by decide⟩
  · exact ⟨_, atI_nat (j := 7) rfl, by decide, by decide⟩
  · exact ⟨_, atI_nat (j := 8) rfl, by decide, by decide⟩
  · exact ⟨_, atI_nat (j := 9) rfl, by decide, by decide⟩
theorem ok_Num {f fD : Addr} {fd fdD : FuncData} {k : Nat} (F : Fun K "_law_number" "_law_number" sNum f fd) (GD : FnOk P w K mg base CX0 k fD fdD ["_law_left_here", "_law_many"] spDigit) (kD : PySem.W.keepIn K (.ref fD) = true) (bD : Binds K fdD ["_law_left_here", "_law_many"] []) (gD : mg "_law_digit" = some (.ref fD)) : FnOk P w K mg base CX0 (k + 1) f fd ["_law_left_here"] (spNum K) := by
  refine F.ok scNum (fun vs H Q E h => ?_) (fun cdv A outer s H vs Q E hr h => ?_)
  · obtain ⟨l, n, rfl, _⟩ := h
    rfl
  · obtain ⟨l, n, rfl, hl, q⟩ := h
    refine ⟨_, pss_cons (ps_set (i := 1) scNum.nd rfl (.inl rfl) (pe_call GD hr (by rfl) gD kD bD .nil pass0 (pa_cons (pv 0) (pa_cons pe_int pa_nil))))
      (pss_cons (ps_set (i := 2) scNum.nd rfl (.inl rfl) (pe_call GD hr (by rfl) gD kD bD .nil pass0 (pa_cons (pv 0) (pa_cons (pe_ix ix_list (pe_lst (pa_cons pe_int (pa_cons pe_int (pa_cons pe_int (pa_cons pe_int (pa_cons pe_int (pa_cons (pe_op op_pow pe_int pe_int) (pa_cons (pe_op op_pow pe_int pe_int) (pa_cons (pe_op op_pow pe_int pe_int) (pa_cons pe_int (pa_cons pe_int pa_nil))))))))))) (pv 1) (fun _ _ => rfl)) pa_nil))))
      (pss_cons (ps_if (pt_cmpR op_gt (pv 1) pe_int (nomark _))
        (pss_one (ps_ret (pe_ix ix_list (pe_lst (pa_cons pe_non (pa_cons pe_bl (pa_cons pe_bl (pa_cons pe_str (pa_cons (pe_tup (pa_cons pe_int (pa_cons pe_int pa_nil))) (pa_cons (pe_lst (pa_cons pe_int pa_nil)) (pa_cons pe_dnewK pa_nil)))))))) (pe_call GD hr (by rfl) gD kD bD .nil pass0 (pa_cons (pv 0) (pa_cons pe_int pa_nil))) (fun _ _ => rfl)))) pss_nil)
      (pss_one (ps_ret (pe_op op_mul (pv 2) (pe_op op_sub pe_int (pe_op op_mul pe_int (pe_call GD hr (by rfl) gD kD bD .nil pass0 (pa_cons (pv 0) (pa_cons pe_int pa_nil)))))))))), ?_⟩
    refine ⟨_, rfl, l, n, 10, rfl, hl, by decide, by decide, fun way n1 w0 w1 => ?_⟩
    refine ⟨_, rfl, 10, 6, rfl, rfl, ⟨by decide, by decide, by decide⟩, 10, 15, rfl, rfl, ⟨by decide, by decide, by decide⟩, 10, 30, rfl, rfl, ⟨by decide, by decide, by decide⟩, (by show 10 ≤ sizeLine; decide), fun p1 hp1 => ?_⟩
    obtain ⟨v, ev, v0, v1⟩ := size_at w0 w1
    have hp1l : l ≠ p1 := fun e => by
      rw [← e, upd_same] at hp1
      cases hp1
    refine ⟨_, rfl, p1, _, way, .int v, rfl, rfl, SqL.of upd_same, ev, l, n1, v, rfl, by rw [upd_ne hp1l, upd_same], v0, ?_, fun num n2 u0 u1 => ?_⟩
    · have : v.natAbs ≤ 10 ^ 30 := by omega
      exact Nat.lt_of_le_of_lt this (by decide)
    have sb : ∀ {H1 : Hp} (m : Int), (∀ b u, b ≠ l → H b = some u → H1 b = some u) → ∀ b u, b ≠ l → H b = some u → (upd H1 l (.lst [.int m])) b = some u := fun {H1} m h b u hb e => by
      rw [upd_ne hb]
      exact h b u hb e
    have sn : ∀ {H1 : Hp} {pp : Addr} {o : HO}, (∀ b u, b ≠ l → H b = some u → H1 b = some u) → H1 pp = none → ∀ b u, b ≠ l → H b = some u → (upd H1 pp o) b = some u := fun {H1 pp o} h hp b u hb e => same_new hp o _ _ (h b u hb e)
    have e1 := sb (H1 := H) n1 (fun b u _ e => e)
    have e2 := sn (o := .lst [V.int 13, V.int 13, V.int 13, V.int 13, V.int 100, V.int (10 ^ (6 : Int).toNat), V.int (10 ^ (15 : Int).toNat), V.int (10 ^ (30 : Int).toNat), V.int 13, V.int 13]) e1 hp1
    have e3 := sb n2 e2
    refine ⟨_, rfl, _, _, rfl, rfl, _, rfl, ite2 (fun c => ?_) (fun c => ?_)⟩
    · -- an odd thing
      refine ⟨(by show 2 ≤ sizeLine; decide), fun pt hpt => ⟨(by show 1 ≤ sizeLine; decide), fun pl hpl => ?_⟩⟩
      intro pd hpd
      refine ⟨(by show 7 ≤ sizeLine; decide), fun pz hpz => ?_⟩
      have e4 := sn (o := .tup [V.int 1, V.int 1]) e3 hpt
      have e5 := sn (o := .lst [V.int 2]) e4 hpl
      have e6 := sn (o := .dK []) e5 hpd
      have e7 := sn (o := .lst [V.non, V.bl true, V.bl false, V.str "3", V.ref pt, V.ref pl, V.ref pd]) e6 hpz
      have t4 := same_new hpt (.tup [V.int 1, V.int 1])
      have t5 := same_new hpl (.lst [V.int 2])
      have t6 := same_new hpd (.dK [])
      have t7 := same_new hpz (.lst [V.non, V.bl true, V.bl false, V.str "3", V.ref pt, V.ref pl, V.ref pd])
      have hl7 := ((t4.trans t5).trans (t6.trans t7)) _ _ (upd_same (a := l) (o := .lst [.int n2]))
      have hpt' : pt ≠ l := fun e => by
        rw [e, upd_same] at hpt
        cases hpt
      have hpl' : pl ≠ l := fun e => by
        rw [e, upd_ne (Ne.symm hpt'), upd_same] at hpl
        cases hpl
      have hpd' : pd ≠ l := fun e => by
        rw [e, upd_ne (Ne.symm hpl'), upd_ne (Ne.symm hpt'), upd_same] at hpd
        cases hpd
      have hpz' : pz ≠ l := fun e => by
        rw [e, upd_ne (Ne.symm hpd'), upd_ne (Ne.symm hpl'), upd_ne (Ne.symm hpt'), upd_same] at hpz
        cases hpz
      refine ⟨_, rfl, l, n2, 7, rfl, hl7, by decide, by decide, fun d n3 d0 d7 => ?_⟩
      have at_ : ∀ {b : Addr} {u : HO}, b ≠ l → ∀ {H1 : Hp}, H1 b = some u → (upd H1 l (.lst [.int n3])) b = some u := fun {b u} hb {H1} e => by rw [upd_ne hb]; exact e
      have dd : d = 0 ∨ d = 1 ∨ d = 2 ∨ d = 3 ∨ d = 4 ∨ d = 5 ∨ d = 6 := by omega
      have fin := sb n3 e7
      rcases dd with rfl | rfl | rfl | rfl | rfl | rfl | rfl
      · exact ⟨pz, _, 0, _, rfl, rfl, SqL.of (at_ hpz' upd_same), atI_nat (j := 0) rfl, q _ _ n3 _ fin upd_same .non (fun z => nomatch z)⟩
      · exact ⟨pz, _, 1, _, rfl, rfl, SqL.of (at_ hpz' upd_same), atI_nat (j := 1) rfl, q _ _ n3 _ fin upd_same (.bl true) (fun z => nomatch z)⟩
      · exact ⟨pz, _, 2, _, rfl, rfl, SqL.of (at_ hpz' upd_same), atI_nat (j := 2) rfl, q _ _ n3 _ fin upd_same (.bl false) (fun z => nomatch z)⟩
      · exact ⟨pz, _, 3, _, rfl, rfl, SqL.of (at_ hpz' upd_same), atI_nat (j := 3) rfl, q _ _ n3 _ fin upd_same .str (fun z => nomatch z)⟩
      · exact ⟨pz, _, 4, _, rfl, rfl, SqL.of (at_ hpz' upd_same), atI_nat (j := 4) rfl, q _ _ n3 _ fin upd_same (.tup (SqT.of (at_ hpt' ((t5.trans (t6.trans t7)) _ _ upd_same)))) (fun z => hpt' (V.ref.inj z))⟩
      · exact ⟨pz, _, 5, _, rfl, rfl, SqL.of (at_ hpz' upd_same), atI_nat (j := 5) rfl, q _ _ n3 _ fin upd_same (.lst (at_ hpl' ((t6.trans t7) _ _ upd_same))) (fun z => hpl' (V.ref.inj z))⟩
      · exact ⟨pz, _, 6, _, rfl, rfl, SqL.of (at_ hpz' upd_same), atI_nat (j := 6) rfl, q _ _ n3 _ fin upd_same (.dct (at_ hpd' (t7 _ _ upd_same))) (fun z => hpd' (V.ref.inj z))⟩
    · refine ⟨_, rfl, _, rfl, l, n2, 2, rfl, upd_same, by decide, by decide, fun d n3 d0 d2 => ?_⟩
      refine ⟨2, d, rfl, rfl, .inl ⟨by decide, by decide⟩, 1, _, rfl, rfl, num, _, rfl, rfl, .inr ⟨by omega, by omega⟩, ?_⟩
      refine q _ none n3 _ (sb n3 e3) upd_same (.int _ ?_) (fun z => nomatch z)
      have hn : num.natAbs < 2 ^ 100 := by
        have : num.natAbs ≤ 10 ^ 30 := by omega
        exact Nat.lt_of_le_of_lt this (by decide)
      have : d = 0 ∨ d = 1 := by omega
      rcases this with rfl | rfl
      · rw [show (1 : Int) - 2 * 0 = 1 by decide, Int.mul_one]
        exact hn
      · rw [show (1 : Int) - 2 * 1 = -1 by decide, Int.mul_neg, Int.mul_one, Int.natAbs_neg]
        exact hn
end
end K1

set_option Elab.async false
set_option linter.all false
set_option maxRecDepth 100000
set_option maxHeartbeats 8000000
namespace K1
open PySem PySem.Spec PyProof.Rows L2 BX EXB Co
open Fr (Bd)
section
variable {P : Program} {w : World} {K : PySem.W.Frag} {mg : Str → Option Value} {base : Heap} {CN fN CB fB : Addr}
theorem scAsked : FnScope ["_law_first", "_law_second", "_law_way", "_law_told", "e"] ["_law_first", "_law_second", "_law_way"] (defScope sAsked) := ⟨rfl, rfl, rfl, by decide +kernel, rfl, by decide +kernel, by decide +kernel⟩
theorem ok_Asked {f fM : Addr} {fd fdM : FuncData} {k : Nat} (F : Fun K "_law_asked" "_law_asked" sAsked f fd) (T : ErT K mg CN fN CB fB) (GM : FnOk P w K mg base (L2.CX P w) k fM fdM ["top", "bottom"] (spMade K CN CB)) (kM : PySem.W.keepIn K (.ref fM) = true) (bM : Binds K fdM ["top", "bottom"] []) (bM1 : ∃ ds, Vals [V.int 1] ds ∧ Binds K fdM ["top", "bottom"] ds)
    (bMk : ∀ (s : Shared) (ws : List Value), K.In s.heap → ws.length = (["top", "bottom"] : List Str).length → BindsTo s fdM ⟨[], (["top", "bottom"] : List Str).zip ws⟩ ((["top", "bottom"] : List Str).zip ws)) (gM : mg "made" = some (.ref fM)) (B : Blt mg) :
    FnOkG P w K mg base CX0 (k + 1) f fd ["_law_first", "_law_second", "_law_way"] (spAsked K) := by
  obtain ⟨ds, vd, bMd⟩ := bM1
  refine okG F scAsked (fun vs H Q E h => ?_) (fun cdv A outer s H vs Q E hr hgd h => ?_)
  · obtain ⟨x, y, ox, oy, way, rfl, _⟩ := h
    rfl
  · obtain ⟨x, y, ox, oy, way, rfl, hx, hy, hw, q⟩ := h
    have hu : (A.deeper (envOfC "_law_asked" (defScope sAsked) s.heap.objs.size f cdv)).units + 80 < cLine := by have := hr.un; omega
    refine ⟨_, pss_cons (ps_set (i := 3) scAsked.nd rfl (.inl rfl) pe_non)
      (pss_cons (ps_try_clauses
        (tb := fun W => tIfS (tTest (tOp rEq (tVar 2) (tC (.int 0)))) (tAsg (tCallD (spMade K CN CB) [] (WE W) (tCons (tVar 0) (tCons (tVar 1) tNil))) (gName 3)) (tIfS (tTest (tOp rEq (tVar 2) (tC (.int 1)))) (tAsg (tCallW (spMade K CN CB) (WE W) (tCons (tVar 0) (tCons (tVar 1) tNil))) (gName 3)) (tAsg (tCallD (spMade K CN CB) [.int 1] (WE W) (tCons (tVar 0) tNil)) (gName 3))))
        (Wout := fun _ _ _ _ => False) rfl rfl scAsked.nd takes0
        (fun W pn xe tk _ => pss_one (ps_if (by exact (pt_cmpR op_eq (pv 2) pe_int (nomark _)))
          (pss_one (ps_set (i := 3) scAsked.nd rfl (.inl rfl) (by exact (pe_callD (.of GM) hr hgd (by rfl) gM kM bM .nil (fun σ => passAt tk σ) (by exact (pa_cons (pv 0) (pa_cons (pv 1) pa_nil)))))))
          (pss_one (ps_if (by exact (pt_cmpR op_eq (pv 2) pe_int (nomark _)))
            (pss_one (ps_set (i := 3) scAsked.nd rfl (.inl rfl) (by exact (pe_callW (.of GM) hr hgd (by rfl) gM kM bMk (fun σ => passAt tk σ) (by exact (pk_cons (pv 0) (pk_cons (pv 1) pk_nil)))))))
            (pss_one (ps_set (i := 3) scAsked.nd rfl (.inl rfl) (by exact (pe_callD (.of GM) hr hgd (by rfl) gM kM bMd vd (fun σ => passAt tk σ) (by exact (pa_cons (pv 0) pa_nil))))))))))
        (ClausesOk.cons (ts := fun a cls d => tRet (tTup (tCons (tC (.str "none")) (tCons (tCB (rRepr K) (tCons (tXf a cls d CN "number" (tVar 4)) tNil)) (tCons (tAndV (tCB (rIsX K CN a cls d) (tCons (tVar 4) (tCons (tC (.ty "ValueError")) tNil))) (tNotV (tCB (rIsX K CN a cls d) (tCons (tVar 4) (tCons (tC (.ref CB)) tNil))))) tNil))))) (i := 4) rfl rfl ⟨rfl, by decide, .inl T.gN⟩ (fun a oe cls d pn hz hf => by exact (pss_one (ps_ret (pe_tup (pa_cons pe_str (pa_cons (pe_callB (call_reprD hgd hu) (by rfl) B.repr_ (by decide +kernel) (pa_cons (pe_xf T.xfN T.noN hz hf (pv 4)) pa_nil)) (pa_cons (pe_and (pe_callB (call_isX T.exN hz hf) (by rfl) B.isinstance_ (by decide +kernel) (pa_cons (pv 4) (pa_cons (pe_bltn (v := .ty "ValueError") (by rfl) B.ValueError_ (by decide +kernel) rfl) pa_nil))) (pe_one (pe_not (pe_callB (call_isX T.exN hz hf) (by rfl) B.isinstance_ (by decide +kernel) (pa_cons (pv 4) (pa_cons (pe_glob (v := .ref CB) (by rfl) T.gB rfl) pa_nil)))))) pa_nil)))))))
          (ClausesOk.cons (ts := fun a cls d => tRet (tTup (tCons (tC (.str "nought")) (tCons (tC (.str "")) (tCons (tAndV (tCB (rIsX K CB a cls d) (tCons (tVar 4) (tCons (tC (.ty "ZeroDivisionError")) tNil))) (tNotV (tCB (rIsX K CB a cls d) (tCons (tVar 4) (tCons (tC (.ref CN)) tNil))))) tNil))))) (i := 4) rfl rfl ⟨rfl, by decide, .inl T.gB⟩ (fun a oe cls d pn hz hf => by exact (pss_one (ps_ret (pe_tup (pa_cons pe_str (pa_cons pe_str (pa_cons (pe_and (pe_callB (call_isX T.exB hz hf) (by rfl) B.isinstance_ (by decide +kernel) (pa_cons (pv 4) (pa_cons (pe_bltn (v := .ty "ZeroDivisionError") (by rfl) B.ZeroDivisionError_ (by decide +kernel) rfl) pa_nil))) (pe_one (pe_not (pe_callB (call_isX T.exB hz hf) (by rfl) B.isinstance_ (by decide +kernel) (pa_cons (pv 4) (pa_cons (pe_glob (v := .ref CN) (by rfl) T.gN rfl) pa_nil)))))) pa_nil))))))) ClausesOk.nil)))
      (pss_one (ps_ret (pv 3)))), ?_⟩
    have rV : ∀ v d, (ox = some d ∧ v = x) ∨ (ox = none ∧ oy = some d ∧ v = y) → (res x y ox oy).vals = [.str "none", .str d.shown, .bl true] ∧ Nm K H v (some d) := by
      intro v d hd
      rcases hd with ⟨rfl, rfl⟩ | ⟨rfl, rfl, rfl⟩
      · exact ⟨rfl, hx⟩
      · exact ⟨by cases x <;> rfl, hy⟩
    have rB : ox = none → y = .int 0 → (res x y ox oy).vals = [.str "nought", .str "", .bl true] := by
      intro e1 e2
      subst e1 e2
      obtain ⟨t, rfl, _⟩ := hx.ints
      cases hy
      rfl
    have rF : ∀ t b : Int, x = .int t → y = .int b → b ≠ 0 → (res x y ox oy).vals = rp (Rat.divInt t b) := by
      intro t b e1 e2 h0
      subst e1 e2
      cases hx
      cases hy
      show (if b = 0 then Rs.nought else Rs.frac (Rat.divInt t b)).vals = _
      rw [if_neg h0]
      rfl
    rcases hw with rfl | rfl | ⟨rfl, rfl⟩
    · refine ⟨_, rfl, rfl, _, rfl, iteT ?_⟩
      refine ⟨_, rfl, _, rfl, x, y, ox, oy, rfl, hx, hy, (fun v d hvd H' dx s' hxd => ?_), (fun e1 e2 H' s' => ?_), (fun t b e1 e2 h0 p H' s' hp => ?_)⟩
      · obtain ⟨er, hv⟩ := rV v d hvd
        have ok := hv.odd
        refine ⟨true, T.nn, fun _ a0 _ => ?_, fun z => Bool.noConfusion z⟩
        refine ⟨_, rfl, rfl, rfl, dx, _, v, rfl, hxd, rfl, v, d, rfl, (hv.same s').dq, ok.sh, ok.dp, ok.sz, ?_⟩
        refine ⟨_, rfl, .ty "ValueError", _, true, rfl, rfl, fun _ z => z, .inr ⟨dx, _, rfl, hxd⟩, T.isNV, _, rfl, iteT ?_⟩
        refine ⟨_, rfl, .ref CB, _, false, rfl, rfl, fun _ z => z, .inr ⟨dx, _, rfl, hxd⟩, T.isNB, _, rfl, (by show 3 ≤ sizeLine; decide), fun p hp => ?_⟩
        exact q p _ (s'.trans (same_new hp _)) (by rw [er]; exact SqT.of upd_same)
      · refine ⟨false, T.bn, fun z => Bool.noConfusion z, fun _ => ⟨true, T.bb, fun _ a0 _ => ?_, fun z => Bool.noConfusion z⟩⟩
        refine ⟨_, rfl, .ty "ZeroDivisionError", _, true, rfl, rfl, fun _ z => z, .inl rfl, T.isBZ, _, rfl, iteT ?_⟩
        refine ⟨_, rfl, .ref CN, _, false, rfl, rfl, fun _ z => z, .inl rfl, T.isBN, _, rfl, (by show 3 ≤ sizeLine; decide), fun p hp => ?_⟩
        exact q p _ (s'.trans (same_new hp _)) (by rw [rB e1 e2]; exact SqT.of upd_same)
      · exact ⟨_, rfl, q p H' s' (by rw [rF t b e1 e2 h0]; exact hp)⟩
    · refine ⟨_, rfl, rfl, _, rfl, iteF ?_⟩
      refine ⟨_, rfl, rfl, _, rfl, iteT ?_⟩
      refine ⟨_, rfl, _, rfl, x, y, ox, oy, rfl, hx, hy, (fun v d hvd H' dx s' hxd => ?_), (fun e1 e2 H' s' => ?_), (fun t b e1 e2 h0 p H' s' hp => ?_)⟩
      · obtain ⟨er, hv⟩ := rV v d hvd
        have ok := hv.odd
        refine ⟨true, T.nn, fun _ a0 _ => ?_, fun z => Bool.noConfusion z⟩
        refine ⟨_, rfl, rfl, rfl, dx, _, v, rfl, hxd, rfl, v, d, rfl, (hv.same s').dq, ok.sh, ok.dp, ok.sz, ?_⟩
        refine ⟨_, rfl, .ty "ValueError", _, true, rfl, rfl, fun _ z => z, .inr ⟨dx, _, rfl, hxd⟩, T.isNV, _, rfl, iteT ?_⟩
        refine ⟨_, rfl, .ref CB, _, false, rfl, rfl, fun _ z => z, .inr ⟨dx, _, rfl, hxd⟩, T.isNB, _, rfl, (by show 3 ≤ sizeLine; decide), fun p hp => ?_⟩
        exact q p _ (s'.trans (same_new hp _)) (by rw [er]; exact SqT.of upd_same)
      · refine ⟨false, T.bn, fun z => Bool.noConfusion z, fun _ => ⟨true, T.bb, fun _ a0 _ => ?_, fun z => Bool.noConfusion z⟩⟩
        refine ⟨_, rfl, .ty "ZeroDivisionError", _, true, rfl, rfl, fun _ z => z, .inl rfl, T.isBZ, _, rfl, iteT ?_⟩
        refine ⟨_, rfl, .ref CN, _, false, rfl, rfl, fun _ z => z, .inl rfl, T.isBN, _, rfl, (by show 3 ≤ sizeLine; decide), fun p hp => ?_⟩
        exact q p _ (s'.trans (same_new hp _)) (by rw [rB e1 e2]; exact SqT.of upd_same)
      · exact ⟨_, rfl, q p H' s' (by rw [rF t b e1 e2 h0]; exact hp)⟩
    · refine ⟨_, rfl, rfl, _, rfl, iteF ?_⟩
      refine ⟨_, rfl, rfl, _, rfl, iteF ?_⟩
      refine ⟨_, rfl, x, .int 1, ox, oy, rfl, hx, hy, (fun v d hvd H' dx s' hxd => ?_), (fun e1 e2 H' s' => ?_), (fun t b e1 e2 h0 p H' s' hp => ?_)⟩
      · obtain ⟨er, hv⟩ := rV v d hvd
        have ok := hv.odd
        refine ⟨true, T.nn, fun _ a0 _ => ?_, fun z => Bool.noConfusion z⟩
        refine ⟨_, rfl, rfl, rfl, dx, _, v, rfl, hxd, rfl, v, d, rfl, (hv.same s').dq, ok.sh, ok.dp, ok.sz, ?_⟩
        refine ⟨_, rfl, .ty "ValueError", _, true, rfl, rfl, fun _ z => z, .inr ⟨dx, _, rfl, hxd⟩, T.isNV, _, rfl, iteT ?_⟩
        refine ⟨_, rfl, .ref CB, _, false, rfl, rfl, fun _ z => z, .inr ⟨dx, _, rfl, hxd⟩, T.isNB, _, rfl, (by show 3 ≤ sizeLine; decide), fun p hp => ?_⟩
        exact q p _ (s'.trans (same_new hp _)) (by rw [er]; exact SqT.of upd_same)
      · refine ⟨false, T.bn, fun z => Bool.noConfusion z, fun _ => ⟨true, T.bb, fun _ a0 _ => ?_, fun z => Bool.noConfusion z⟩⟩
        refine ⟨_, rfl, .ty "ZeroDivisionError", _, true, rfl, rfl, fun _ z => z, .inl rfl, T.isBZ, _, rfl, iteT ?_⟩
        refine ⟨_, rfl, .ref CN, _, false, rfl, rfl, fun _ z => z, .inl rfl, T.isBN, _, rfl, (by show 3 ≤ sizeLine; decide), fun p hp => ?_⟩
        exact q p _ (s'.trans (same_new hp _)) (by rw [rB e1 e2]; exact SqT.of upd_same)
      · exact ⟨_, rfl, q p H' s' (by rw [rF t b e1 e2 h0]; exact hp)⟩
theorem scDue : FnScope ["_law_first", "_law_second", "_law_number_here", "_law_share"] ["_law_first", "_law_second"] (defScope sDue) := ⟨rfl, rfl, rfl, by decide +kernel, rfl, by decide +kernel, by decide +kernel⟩
theorem ok_Due {f fW fD : Addr} {fd fdW fdD : FuncData} {k : Nat} (F : Fun K "_law_due" "_law_due" sDue f fd) (GW : FnOk P w K mg base CX0 k fW fdW ["_law_thing"] (spWhole K)) (kW : PySem.W.keepIn K (.ref fW) = true) (bW : Binds K fdW ["_law_thing"] []) (gW : mg "_law_whole" = some (.ref fW))
    (GD : FnOk P w K mg base CX0 k fD fdD ["_law_one", "_law_other"] spDiv) (kD : PySem.W.keepIn K (.ref fD) = true) (bD : Binds K fdD ["_law_one", "_law_other"] []) (gD : mg "_law_shared" = some (.ref fD)) (B : Blt mg) : FnOkG P w K mg base CX0 (k + 1) f fd ["_law_first", "_law_second"] (spDue K) := by
  refine okG F scDue (fun vs H Q E h => ?_) (fun cdv A outer s H vs Q E hr hgd h => ?_)
  · obtain ⟨x, y, ox, oy, rfl, _⟩ := h
    rfl
  · obtain ⟨x, y, ox, oy, rfl, hx, hy, q⟩ := h
    have hu : (A.deeper (envOfC "_law_due" (defScope sDue) s.heap.objs.size f cdv)).units + 80 < cLine := by have := hr.un; omega
    refine ⟨_, pss_cons (ps_for PassesOwn.never rfl (pi_tup (pe_tup (pa_cons (pv 0) (pa_cons (pv 1) pa_nil)))) (pg_name (i := 2) scDue.nd rfl (.inl rfl))
        (pss_one (ps_if (pt_not (pt_val (pe_call GW hr (by rfl) gW kW bW .nil pass0 (pa_cons (pv 2) pa_nil))))
          (pss_one (ps_ret (pe_tup (pa_cons pe_str (pa_cons (pe_callB (call_reprD hgd hu) (by rfl) B.repr_ (by decide +kernel) (pa_cons (pv 2) pa_nil)) (pa_cons pe_bl pa_nil)))))) pss_nil)))
      (pss_cons (ps_if (pt_cmpR op_eq (pv 1) pe_int (nomark _)) (pss_one (ps_ret (pe_tup (pa_cons pe_str (pa_cons pe_str (pa_cons pe_bl pa_nil)))))) pss_nil)
      (pss_cons (ps_set (i := 3) scDue.nd rfl (.inl rfl) (pe_call GD hr (by rfl) gD kD bD .nil pass0 (pa_cons (pv 0) (pa_cons (pv 1) pa_nil))))
      (pss_cons (ps_if (pt_cmpR op_lt (pv 1) pe_int (nomark _)) (pss_one (ps_set (i := 3) scDue.nd rfl (.inl rfl) (pe_op op_sub pe_int (pv 3)))) pss_nil)
      (pss_one (ps_ret (pe_tup (pa_cons (pe_op op_fdivZ (pv 0) (pv 3)) (pa_cons (pe_op op_fdivZ (pv 1) (pv 3)) pa_nil)))))))), ?_⟩
    refine ⟨_, rfl, _, rfl, (by show 2 ≤ sizeLine; decide), fun p hp => ?_⟩
    have s1 := same_new hp (.tup [x, y])
    refine ⟨p, rfl, ⟨_, SqT.of upd_same⟩, for_tup (K := K) (a := p) (xs := [x, y]) (fun i σ H' => ∃ z : Option V, σ = [some x, some y, z, none] ∧ H' = upd H p (.tup [x, y]) ∧ (1 ≤ i → ox = none) ∧ (2 ≤ i → oy = none))
      ⟨none, rfl, rfl, fun z => by omega, fun z => by omega⟩ (fun i σ H' _ ⟨_, _, e, _⟩ => by rw [e]; exact SqT.of upd_same) ?_ ?_⟩
    · rintro i v σ H' hi ⟨z, rfl, rfl, h1, h2⟩
      have hv : (i = 0 ∧ v = x) ∨ (i = 1 ∧ v = y) := by
        match i, hi with
        | 0, hi => exact .inl ⟨rfl, (Option.some.inj hi).symm⟩
        | 1, hi => exact .inr ⟨rfl, (Option.some.inj hi).symm⟩
        | i + 2, hi => simp at hi
      obtain ⟨o, hvo, hwh, hgo⟩ : ∃ o, Nm K H v o ∧ (∀ d, o = some d → (res x y ox oy).vals = [.str "none", .str d.shown, .bl true]) ∧ (o = none → (1 ≤ i + 1 → ox = none) ∧ (2 ≤ i + 1 → oy = none)) := by
        rcases hv with ⟨rfl, rfl⟩ | ⟨rfl, rfl⟩
        · refine ⟨ox, hx, fun d e => ?_, fun e => ⟨fun _ => e, fun z => by omega⟩⟩
          subst e
          rfl
        · refine ⟨oy, hy, fun d e => ?_, fun e => ⟨fun _ => h1 (by omega), fun _ => e⟩⟩
          subst e
          rw [h1 (by omega)]
          cases x <;> rfl
      refine ⟨_, rfl, v, o, rfl, hvo.same s1, _, rfl, ?_⟩
      cases o with
      | none =>
        refine iteF ?_
        exact ⟨_, rfl, rfl, (hgo rfl).1, (hgo rfl).2⟩
      | some d =>
        have ok := hvo.odd
        refine iteT ⟨_, rfl, v, d, rfl, (hvo.same s1).dq, ok.sh, ok.dp, ok.sz, (by show 3 ≤ sizeLine; decide), fun pp hpp => ?_⟩
        exact q pp _ (s1.trans (same_new hpp _)) (by rw [hwh d rfl]; exact SqT.of upd_same)
    · rintro σ H' ⟨z, rfl, rfl, h1, h2⟩
      have ex : ox = none := h1 (by show 1 ≤ 2; decide)
      have ey : oy = none := h2 (Nat.le_refl 2)
      subst ex ey
      obtain ⟨t, rfl, ht⟩ := hx.ints
      obtain ⟨b, rfl, hb⟩ := hy.ints
      have er : (res (.int t) (.int b) none none) = if b = 0 then Rs.nought else Rs.frac (Rat.divInt t b) := rfl
      rw [er] at q
      refine ⟨_, rfl, rfl, _, rfl, ite2 (fun c => ?_) (fun c => ?_)⟩
      · have h0 : b = 0 := V.int.inj (of_decide_eq_true c)
        rw [if_pos h0] at q
        exact ⟨(by show 3 ≤ sizeLine; decide), fun pp hpp => q pp _ (s1.trans (same_new hpp _)) (SqT.of upd_same)⟩
      · have h0 : b ≠ 0 := fun e => c (decide_eq_true (congrArg V.int e))
        rw [if_neg h0] at q
        have hg := Fr.gcd_pos (t := t) h0
        have hgb := gcd_bd (t := t) h0 hb
        refine ⟨_, rfl, _, rfl, t, b, rfl, ?_⟩
        refine ⟨_, rfl, b, 0, rfl, rfl, _, rfl, ite2 (fun c2 => ?_) (fun c2 => ?_)⟩
        · have hb0 : b < 0 := of_decide_eq_true c2
          refine ⟨_, rfl, 0, _, rfl, rfl, ?_⟩
          have d : ∀ i : Int, CDivZ i (0 - (Int.gcd t b : Int)) := fun i => divZ (n := 100) (by omega) (by rw [Int.zero_sub, Int.natAbs_neg]; exact hgb) (by decide) (by decide)
          refine ⟨_, rfl, _, rfl, t, _, rfl, rfl, d _, _, rfl, _, rfl, b, _, rfl, rfl, d _, (by show 2 ≤ sizeLine; decide), fun pp hpp => ?_⟩
          refine q pp _ (s1.trans (same_new hpp _)) ?_
          show SqT K _ pp (rp (Rat.divInt t b))
          rw [rp, ← Fr.lowN_num hb0, ← Fr.lowN_den hb0, Int.zero_sub]
          exact SqT.of upd_same
        · have hb0 : 0 < b := by
            have : ¬ b < 0 := of_decide_eq_false (Bool.eq_false_iff.mpr c2)
            omega
          have d : ∀ i : Int, CDivZ i (Int.gcd t b : Int) := fun i => divZ (n := 100) (by omega) hgb (by decide) (by decide)
          refine ⟨_, rfl, _, rfl, t, _, rfl, rfl, d _, _, rfl, _, rfl, b, _, rfl, rfl, d _, (by show 2 ≤ sizeLine; decide), fun pp hpp => ?_⟩
          refine q pp _ (s1.trans (same_new hpp _)) ?_
          show SqT K _ pp (rp (Rat.divInt t b))
          rw [rp, ← Fr.low_num hb0, ← Fr.low_den hb0]
          exact SqT.of upd_same
end
end K1

set_option Elab.async false
set_option linter.all false
set_option maxRecDepth 100000
set_option maxHeartbeats 8000000
namespace K1
open PySem PySem.Spec PyProof.Rows L2 BX EXB Co
open Fr (Bd)
theorem rs_len {r : Rs} : (∃ q, r = .frac q) ∨ r.vals.length = 3 := by
  cases r with
  | odd d => exact .inr rfl
  | nought => exact .inr rfl
  | frac q => exact .inl ⟨q, rfl⟩
theorem res_bd {K : PySem.W.Frag} {H : Hp} {x y : V} {ox oy : Option PyData} (hx : Nm K H x ox) (hy : Nm K H y oy) {q : Rat} (h : res x y ox oy = .frac q) : q.num.natAbs < 2 ^ 100 ∧ (q.den : Int).natAbs < 2 ^ 100 := by
  cases ox with
  | some d => cases x <;> cases h
  | none =>
    cases oy with
    | some d => cases x <;> cases h
    | none =>
      obtain ⟨t, rfl, ht⟩ := hx.ints
      obtain ⟨b, rfl, hb⟩ := hy.ints
      have h' : (if b = 0 then Rs.nought else Rs.frac (Rat.divInt t b)) = .frac q := h
      by_cases h0 : b = 0
      · rw [if_pos h0] at h'
        cases h'
      · rw [if_neg h0] at h'
        cases h'
        have := Fr.bd_low ht hb h0
        exact ⟨this.1, this.dn⟩
theorem thi_rs {K : PySem.W.Frag} {H H0 : Hp} {a : Addr} {x y : V} {ox oy : Option PyData} (hx : Nm K H0 x ox) (hy : Nm K H0 y oy) (h : SqT K H a (res x y ox oy).vals) : ∃ r, Thi K H (.ref a) r := by
  rcases rs_len (r := res x y ox oy) with ⟨q, e⟩ | e
  · have hb := res_bd hx hy e
    rw [e] at h
    exact ⟨_, .pair h (.int _ hb.1) (.int _ hb.2)⟩
  · exact ⟨_, .tupN h (by omega)⟩
theorem in_heap {K : PySem.W.Frag} {H : Hp} {x : V} {o : Option PyData} (_ : Nm K H x o) (items : List V) (h : ∀ v ∈ items, ∃ b, Thi K H v b) : ∀ v ∈ items, ∃ b, Thi K H v b := h
def spLaw (K : PySem.W.Frag) : Sp := fun vs H Q _ => ∃ (a : Addr) (ns : List Int), vs = [.ref a] ∧ SqL K H a (ns.map V.int) ∧ ns.length ≤ 63 ∧ ∀ H', Q (.bl true) H'
section
variable {P : Program} {w : World} {K : PySem.W.Frag} {mg : Str → Option Value} {base : Heap} {CN fN CB fB : Addr}
structure Defs (P : Program) (w : World) (K : PySem.W.Frag) (mg : Str → Option Value) (base : Heap) (k : Nat) : Prop where
  left : ∃ f fd, FnOk P w K mg base CX0 k f fd ["_law_cell"] spLeft ∧ PySem.W.keepIn K (.ref f) = true ∧ Binds K fd ["_law_cell"] [] ∧ mg "_law_left" = some (.ref f)
  num : ∃ f fd, FnOk P w K mg base CX0 k f fd ["_law_left_here"] (spNum K) ∧ PySem.W.keepIn K (.ref f) = true ∧ Binds K fd ["_law_left_here"] [] ∧ mg "_law_number" = some (.ref f)
  asked : ∃ f fd, FnOkG P w K mg base CX0 k f fd ["_law_first", "_law_second", "_law_way"] (spAsked K) ∧ PySem.W.keepIn K (.ref f) = true ∧ Binds K fd ["_law_first", "_law_second", "_law_way"] [] ∧ mg "_law_asked" = some (.ref f)
  due : ∃ f fd, FnOkG P w K mg base CX0 k f fd ["_law_first", "_law_second"] (spDue K) ∧ PySem.W.keepIn K (.ref f) = true ∧ Binds K fd ["_law_first", "_law_second"] [] ∧ mg "_law_due" = some (.ref f)
  isr : ∃ f fd, FnOk P w K mg base CX0 k f fd ["thing"] (spThi K) ∧ PySem.W.keepIn K (.ref f) = true ∧ Binds K fd ["thing"] [] ∧ mg "is_ratio" = some (.ref f)
  lis : ∃ f fd, FnOk P w K mg base CX0 k f fd ["_law_thing"] (spThi K) ∧ PySem.W.keepIn K (.ref f) = true ∧ Binds K fd ["_law_thing"] [] ∧ mg "_law_is" = some (.ref f)
theorem scLaw : FnScope ["_law_script", "_law_cell", "_law_left_here", "_law_first", "_law_second", "_law_way", "_law_some", "_law_thing", "_law_found"] ["_law_script"] (defScope sLaw) := ⟨rfl, rfl, rfl, by decide +kernel, rfl, by decide +kernel, by decide +kernel⟩
theorem ok_Law {f : Addr} {fd : FuncData} {k : Nat} (F : Fun K "law" "law" sLaw f fd) (D : Defs P w K mg base k) (B : Blt mg) : FnOkG P w K mg base CX0 (k + 1) f fd ["_law_script"] (spLaw K) := by
  obtain ⟨f1, fd1, G1, k1, b1, g1⟩ := D.left
  obtain ⟨f2, fd2, G2, k2, b2, g2⟩ := D.num
  obtain ⟨f3, fd3, G3, k3, b3, g3⟩ := D.asked
  obtain ⟨f4, fd4, G4, k4, b4, g4⟩ := D.due
  obtain ⟨f5, fd5, G5, k5, b5, g5⟩ := D.isr
  obtain ⟨f6, fd6, G6, k6, b6, g6⟩ := D.lis
  refine okG F scLaw (fun vs H Q E h => ?_) (fun cdv A outer s H vs Q E hr hgd h => ?_)
  · obtain ⟨a, ns, rfl, _⟩ := h
    rfl
  · obtain ⟨a, ns, rfl, hS, hlen, q⟩ := h
    refine ⟨_, (pss_cons (ps_for PassesOwn.never rfl (pi_list (pe_op op_cat (pe_slice sl_list (pv 0) po_none (po_some pe_int)) (pe_lst (pa_cons pe_int pa_nil)))) (pg_name (i := 1) scLaw.nd rfl (.inl rfl)) (pss_cons (ps_set (i := 2) scLaw.nd rfl (.inl rfl) (pe_call G1 hr (by rfl) g1 k1 b1 .nil pass0 (pa_cons (pv 1) pa_nil)))
        (pss_cons (ps_set (i := 3) scLaw.nd rfl (.inl rfl) (pe_call G2 hr (by rfl) g2 k2 b2 .nil pass0 (pa_cons (pv 2) pa_nil)))
        (pss_cons (ps_set (i := 4) scLaw.nd rfl (.inl rfl) (pe_call G2 hr (by rfl) g2 k2 b2 .nil pass0 (pa_cons (pv 2) pa_nil)))
        (pss_cons (ps_for PassesOwn.never rfl (pi_range1 (by rfl) B.range_ (pa_cons pe_int pa_nil)) (pg_name (i := 5) scLaw.nd rfl (.inl rfl)) (pss_one (ps_if (pt_cmpR (op_neD hr.units) (pe_callG G3 hr hgd (by rfl) g3 k3 b3 .nil pass0 (pa_cons (pv 3) (pa_cons (pv 4) (pa_cons (pv 5) pa_nil)))) (pe_callG G4 hr hgd (by rfl) g4 k4 b4 .nil pass0 (pa_cons (pv 3) (pa_cons (pv 4) pa_nil))) (nomark _)) (pss_one (ps_ret pe_bl)) pss_nil)))
        (pss_cons (ps_if (pt_cmpR (op_neD hr.units) (pe_callG G3 hr hgd (by rfl) g3 k3 b3 .nil pass0 (pa_cons (pv 3) (pa_cons pe_int (pa_cons pe_int pa_nil)))) (pe_callG G4 hr hgd (by rfl) g4 k4 b4 .nil pass0 (pa_cons (pv 3) (pa_cons pe_int pa_nil))) (nomark _)) (pss_one (ps_ret pe_bl)) pss_nil)
        (pss_cons (ps_set (i := 6) scLaw.nd rfl (.inl rfl) (pe_lst (pa_cons (pe_tup (pa_cons (pv 3) (pa_cons (pv 4) pa_nil))) (pa_cons (pe_lst (pa_cons (pv 3) (pa_cons (pv 4) pa_nil))) (pa_cons (pe_tup (pa_cons (pv 3) (pa_cons (pv 4) (pa_cons pe_int pa_nil)))) (pa_cons (pe_tup (pa_cons (pv 3) pa_nil)) (pa_cons (pv 3) (pa_cons (pe_callG G4 hr hgd (by rfl) g4 k4 b4 .nil pass0 (pa_cons (pv 3) (pa_cons (pv 4) pa_nil))) pa_nil))))))))
        (pss_cons (ps_set (i := 6) scLaw.nd rfl (.inl rfl) (pe_op op_cat (pv 6) (pe_lst (pa_cons pe_dnewK (pa_cons pe_non (pa_cons (pe_tup pa_nil) (pa_cons pe_str pa_nil)))))))
        (pss_one (ps_for PassesOwn.never rfl (pi_list (pe_op op_cat (pv 6) (pe_lst (pa_cons (pe_tup (pa_cons pe_int (pa_cons pe_int pa_nil))) (pa_cons (pe_tup (pa_cons pe_int (pa_cons pe_int pa_nil))) (pa_cons (pe_tup (pa_cons pe_int (pa_cons pe_int pa_nil))) (pa_cons (pe_tup (pa_cons (pe_un un_neg pe_int) (pa_cons pe_int pa_nil))) (pa_cons (pe_tup (pa_cons pe_int (pa_cons (pe_un un_neg pe_int) pa_nil))) (pa_cons (pe_tup (pa_cons pe_bl (pa_cons pe_int pa_nil))) (pa_cons (pe_tup (pa_cons pe_int (pa_cons pe_bl pa_nil))) (pa_cons (pe_tup (pa_cons pe_int (pa_cons pe_int pa_nil))) pa_nil))))))))))) (pg_name (i := 7) scLaw.nd rfl (.inl rfl)) (pss_cons (ps_set (i := 8) scLaw.nd rfl (.inl rfl) (pe_call G5 hr (by rfl) g5 k5 b5 .nil pass0 (pa_cons (pv 7) pa_nil)))
        (pss_one (ps_if (PW.pt (pw_or (pt_not (pt_val (pe_callB call_isi (by rfl) B.isinstance_ (by decide +kernel) (pa_cons (pv 8) (pa_cons (pe_bltn (v := .ty "bool") (by rfl) B.bool_ (by decide +kernel) rfl) pa_nil))))) (pw_or1 (pt_cmpR op_ne (pv 8) (pe_call G6 hr (by rfl) g6 k6 b6 .nil pass0 (pa_cons (pv 7) pa_nil)) (nomark _))))) (pss_one (ps_ret pe_bl)) pss_nil)))))))))))))
        (pss_one (ps_ret pe_bl))), ?_⟩
    refine ⟨.ref a, rfl, 20, rfl, a, ns.map V.int, rfl, hS, fun p8 n8 => ?_⟩
    have z8 := same_new n8 (.lst (cutV (ns.map V.int) none (some 20)))
    refine ⟨(by show 1 ≤ sizeLine; decide), fun p9 n9 => ?_⟩
    have z9 := same_new n9 (.lst [V.int 3])
    refine ⟨p8, p9, _, _, rfl, rfl, z9 _ _ upd_same, upd_same, ?_, fun L nL => ?_⟩
    · have h1 := cutV_length (ns.map V.int) none (some 20)
      rw [List.length_map] at h1
      rw [List.length_singleton]
      exact Nat.le_of_lt (small1000 (by omega))
    refine ⟨L, rfl, ⟨_, SqL.of upd_same⟩, for_list (K := K) (a := L) (xs := cutV (ns.map V.int) none (some 20) ++ [V.int 3]) (fun i σ H' => ∃ y1 y2 y3 y4 y5 y6 y7 y8 : Option V, σ = [some (.ref a), y1, y2, y3, y4, y5, y6, y7, y8] ∧ H' L = some (.lst (cutV (ns.map V.int) none (some 20) ++ [V.int 3])))
      ⟨none, none, none, none, none, none, none, none, rfl, upd_same⟩ (fun i σ H' _ ⟨_, _, _, _, _, _, _, _, _, e⟩ => SqL.of e) ?_ ?_⟩
    · rintro i xx σ H0 hi ⟨y1, y2, y3, y4, y5, y6, y7, y8, rfl, hL⟩
      obtain ⟨c, rfl⟩ := int_of hi
      refine ⟨_, rfl, c, rfl, fun l n nl => ?_⟩
      have hLl : L ≠ l := ne_of_none hL nl
      refine ⟨_, rfl, l, n, rfl, upd_same, fun x ox n1 H1 sb1 hl1 hx1 nx => ?_⟩
      refine ⟨_, rfl, l, n1, rfl, hl1, fun y oy n2 H2 sb2 hl2 hy ny => ?_⟩
      have hx := hx1.but hl1 nx sb2
      have hL2 := sb2 L _ hLl (sb1 L _ hLl (by rw [upd_ne hLl]; exact hL))
      -- both ways
      refine ⟨2, rfl, by decide, by decide, for_range (lo := 0) (n := 2) (fun i σ H' => ∃ y5 y6 y7 y8 : Option V, σ = [some (.ref a), some (.int c), some (.ref l), some x, some y, y5, y6, y7, y8] ∧ Same H2 H') ⟨_, _, _, _, rfl, Same.refl _⟩ ?_ ?_⟩
      · rintro j σ H3 hj ⟨y5, y6, y7, y8, rfl, s3⟩
        refine ⟨_, rfl, _, rfl, _, rfl, x, y, ox, oy, _, rfl, hx.same s3, hy.same s3, by omega, fun r1 H4 s4 e4 => ?_⟩
        refine ⟨_, rfl, _, rfl, x, y, ox, oy, rfl, hx.same (s3.trans s4), hy.same (s3.trans s4), fun r2 H5 s5 e5 => ?_⟩
        have ok := res_ok hx hy
        refine ⟨_, _, dp_rs (seqT s5 e4), dp_rs e5, rs_shaped ok, rs_shaped ok, _, rfl, ?_⟩
        rw [SeqAt.eqv_refl _ (rs_lay ok)]
        refine iteF ?_
        exact ⟨_, _, _, _, rfl, s3.trans (s4.trans s5)⟩
      · rintro σ H3 ⟨y5, y6, y7, y8, rfl, s3⟩
        have h1 : Nm K H2 (.int 1) none := .int 1 (by decide)
        refine ⟨_, rfl, x, .int 1, ox, none, 2, rfl, hx.same s3, h1.same s3, .inr (.inr ⟨rfl, rfl⟩), fun r1 H4 s4 e4 => ?_⟩
        refine ⟨_, rfl, x, .int 1, ox, none, rfl, hx.same (s3.trans s4), h1.same (s3.trans s4), fun r2 H5 s5 e5 => ?_⟩
        have ok := res_ok hx h1
        refine ⟨_, _, dp_rs (seqT s5 e4), dp_rs e5, rs_shaped ok, rs_shaped ok, _, rfl, ?_⟩
        rw [SeqAt.eqv_refl _ (rs_lay ok)]
        refine iteF ?_
        have hxA := hx.same (s3.trans (s4.trans s5))
        have hyA := hy.same (s3.trans (s4.trans s5))
        have hLA := (s3.trans (s4.trans s5)) _ _ hL2
        -- the things, one behind the other
        refine ⟨_, rfl, _, rfl, (by show 2 ≤ sizeLine; decide), fun u1 m1 => ?_⟩
        have w1 := same_new m1 (.tup [x, y])
        replace hxA := hxA.same w1
        replace hyA := hyA.same w1
        replace hLA := w1 _ _ hLA
        refine ⟨_, rfl, _, rfl, (by show 2 ≤ sizeLine; decide), fun u2 m2 => ?_⟩
        have w2 := same_new m2 (.lst [x, y])
        replace hxA := hxA.same w2
        replace hyA := hyA.same w2
        replace hLA := w2 _ _ hLA
        refine ⟨_, rfl, _, rfl, (by show 3 ≤ sizeLine; decide), fun u3 m3 => ?_⟩
        have w3 := same_new m3 (.tup [x, y, V.int 1])
        replace hxA := hxA.same w3
        replace hyA := hyA.same w3
        replace hLA := w3 _ _ hLA
        refine ⟨_, rfl, (by show 1 ≤ sizeLine; decide), fun u4 m4 => ?_⟩
        have w4 := same_new m4 (.tup [x])
        replace hxA := hxA.same w4
        replace hyA := hyA.same w4
        replace hLA := w4 _ _ hLA
        refine ⟨_, rfl, ?_⟩
        refine ⟨_, rfl, _, rfl, x, y, ox, oy, rfl, hxA, hyA, fun r H6 wd e6 => ?_⟩
        replace hxA := hxA.same wd
        replace hyA := hyA.same wd
        replace hLA := wd _ _ hLA
        refine ⟨(by show 6 ≤ sizeLine; decide), fun u5 m5 => ?_⟩
        have w5 := same_new m5 (.lst [.ref u1, .ref u2, .ref u3, .ref u4, x, .ref r])
        replace hxA := hxA.same w5
        replace hyA := hyA.same w5
        replace hLA := w5 _ _ hLA
        refine ⟨_, rfl, ?_⟩
        intro u6 m6
        have w6 := same_new m6 (.dK [])
        replace hxA := hxA.same w6
        replace hyA := hyA.same w6
        replace hLA := w6 _ _ hLA
        refine ⟨Nat.zero_le _, fun u7 m7 => ?_⟩
        have w7 := same_new m7 (.tup [])
        replace hxA := hxA.same w7
        replace hyA := hyA.same w7
        replace hLA := w7 _ _ hLA
        refine ⟨(by show 4 ≤ sizeLine; decide), fun u8 m8 => ?_⟩
        have w8 := same_new m8 (.lst [.ref u6, .non, .ref u7, .str "1/2"])
        replace hxA := hxA.same w8
        replace hyA := hyA.same w8
        replace hLA := w8 _ _ hLA
        refine ⟨u5, u8, _, _, rfl, rfl, (w6.trans (w7.trans w8)) _ _ upd_same, upd_same, (by show 6 + 4 ≤ sizeLine; decide), fun u9 m9 => ?_⟩
        have w9 := same_new m9 (.lst ([.ref u1, .ref u2, .ref u3, .ref u4, x, .ref r] ++ [.ref u6, .non, .ref u7, .str "1/2"]))
        replace hxA := hxA.same w9
        replace hyA := hyA.same w9
        replace hLA := w9 _ _ hLA
        refine ⟨_, rfl, ?_⟩
        refine ⟨(by show 2 ≤ sizeLine; decide), fun u10 m10 => ?_⟩
        have w10 := same_new m10 (.tup [V.int (0), V.int (1)])
        replace hxA := hxA.same w10
        replace hyA := hyA.same w10
        replace hLA := w10 _ _ hLA
        refine ⟨(by show 2 ≤ sizeLine; decide), fun u11 m11 => ?_⟩
        have w11 := same_new m11 (.tup [V.int (0), V.int (2)])
        replace hxA := hxA.same w11
        replace hyA := hyA.same w11
        replace hLA := w11 _ _ hLA
        refine ⟨(by show 2 ≤ sizeLine; decide), fun u12 m12 => ?_⟩
        have w12 := same_new m12 (.tup [V.int (2), V.int (4)])
        replace hxA := hxA.same w12
        replace hyA := hyA.same w12
        replace hLA := w12 _ _ hLA
        refine ⟨1, rfl, (by show 2 ≤ sizeLine; decide), fun u13 m13 => ?_⟩
        have w13 := same_new m13 (.tup [V.int (-1), V.int (2)])
        replace hxA := hxA.same w13
        replace hyA := hyA.same w13
        replace hLA := w13 _ _ hLA
        refine ⟨2, rfl, (by show 2 ≤ sizeLine; decide), fun u14 m14 => ?_⟩
        have w14 := same_new m14 (.tup [V.int (1), V.int (-2)])
        replace hxA := hxA.same w14
        replace hyA := hyA.same w14
        replace hLA := w14 _ _ hLA
        refine ⟨(by show 2 ≤ sizeLine; decide), fun u15 m15 => ?_⟩
        have w15 := same_new m15 (.tup [V.bl true, V.int (1)])
        replace hxA := hxA.same w15
        replace hyA := hyA.same w15
        replace hLA := w15 _ _ hLA
        refine ⟨(by show 2 ≤ sizeLine; decide), fun u16 m16 => ?_⟩
        have w16 := same_new m16 (.tup [V.int (1), V.bl true])
        replace hxA := hxA.same w16
        replace hyA := hyA.same w16
        replace hLA := w16 _ _ hLA
        refine ⟨(by show 2 ≤ sizeLine; decide), fun u17 m17 => ?_⟩
        have w17 := same_new m17 (.tup [V.int (3), V.int (1)])
        replace hxA := hxA.same w17
        replace hyA := hyA.same w17
        replace hLA := w17 _ _ hLA
        refine ⟨(by show 8 ≤ sizeLine; decide), fun u18 m18 => ?_⟩
        have w18 := same_new m18 (.lst [.ref u10, .ref u11, .ref u12, .ref u13, .ref u14, .ref u15, .ref u16, .ref u17])
        replace hxA := hxA.same w18
        replace hyA := hyA.same w18
        replace hLA := w18 _ _ hLA
        refine ⟨u9, u18, _, _, rfl, rfl, (w10.trans (w11.trans (w12.trans (w13.trans (w14.trans (w15.trans (w16.trans (w17.trans w18)))))))) _ _ upd_same, upd_same, (by show 10 + 8 ≤ sizeLine; decide), fun u19 m19 => ?_⟩
        have w19 := same_new m19 (.lst ([.ref u1, .ref u2, .ref u3, .ref u4, x, .ref r] ++ [.ref u6, .non, .ref u7, .str "1/2"] ++ [.ref u10, .ref u11, .ref u12, .ref u13, .ref u14, .ref u15, .ref u16, .ref u17]))
        replace hxA := hxA.same w19
        replace hyA := hyA.same w19
        replace hLA := w19 _ _ hLA
        have t_w19 := w19
        have t_w18 := w18.trans t_w19
        have t_w17 := w17.trans t_w18
        have t_w16 := w16.trans t_w17
        have t_w15 := w15.trans t_w16
        have t_w14 := w14.trans t_w15
        have t_w13 := w13.trans t_w14
        have t_w12 := w12.trans t_w13
        have t_w11 := w11.trans t_w12
        have t_w10 := w10.trans t_w11
        have t_w9 := w9.trans t_w10
        have t_w8 := w8.trans t_w9
        have t_w7 := w7.trans t_w8
        have t_w6 := w6.trans t_w7
        have t_w5 := w5.trans t_w6
        have t_wd := wd.trans t_w5
        have t_w4 := w4.trans t_wd
        have t_w3 := w3.trans t_w4
        have t_w2 := w2.trans t_w3
        have t_w1 := w1.trans t_w2
        have all_ := in_heap hxA ([.ref u1, .ref u2, .ref u3, .ref u4, x, .ref r] ++ [.ref u6, .non, .ref u7, .str "1/2"] ++ [.ref u10, .ref u11, .ref u12, .ref u13, .ref u14, .ref u15, .ref u16, .ref u17]) (by
          intro v hv
          simp only [List.cons_append, List.nil_append, List.mem_cons, List.not_mem_nil, or_false] at hv
          rcases hv with rfl | rfl | rfl | rfl | rfl | rfl | rfl | rfl | rfl | rfl | rfl | rfl | rfl | rfl | rfl | rfl | rfl | rfl
          · exact ⟨_, .pair (SqT.of (t_w2 _ _ upd_same)) hxA hyA⟩
          · exact ⟨_, .lst (t_w3 _ _ upd_same)⟩
          · exact ⟨_, .tupN (SqT.of (t_w4 _ _ upd_same)) (by show 3 ≠ 2; decide)⟩
          · exact ⟨_, .tupN (SqT.of (t_wd _ _ upd_same)) (by show 1 ≠ 2; decide)⟩
          · exact hxA.thi
          · exact thi_rs hx hy (seqT t_w5 e6)
          · exact ⟨_, .dct (t_w7 _ _ upd_same)⟩
          · exact ⟨_, .non⟩
          · exact ⟨_, .tupN (SqT.of (t_w8 _ _ upd_same)) (by show 0 ≠ 2; decide)⟩
          · exact ⟨_, .str _⟩
          · exact ⟨_, .pair (SqT.of (t_w11 _ _ upd_same)) (.int (0) (by decide)) (.int (1) (by decide))⟩
          · exact ⟨_, .pair (SqT.of (t_w12 _ _ upd_same)) (.int (0) (by decide)) (.int (2) (by decide))⟩
          · exact ⟨_, .pair (SqT.of (t_w13 _ _ upd_same)) (.int (2) (by decide)) (.int (4) (by decide))⟩
          · exact ⟨_, .pair (SqT.of (t_w14 _ _ upd_same)) (.int (-1) (by decide)) (.int (2) (by decide))⟩
          · exact ⟨_, .pair (SqT.of (t_w15 _ _ upd_same)) (.int (1) (by decide)) (.int (-2) (by decide))⟩
          · exact ⟨_, .pair (SqT.of (t_w16 _ _ upd_same)) (.bl true) (.int (1) (by decide))⟩
          · exact ⟨_, .pair (SqT.of (t_w17 _ _ upd_same)) (.int (1) (by decide)) (.bl true)⟩
          · exact ⟨_, .pair (SqT.of (t_w18 _ _ upd_same)) (.int (3) (by decide)) (.int (1) (by decide))⟩)
        refine ⟨u19, rfl, ⟨_, SqL.of upd_same⟩, for_list (K := K) (a := u19) (xs := ([.ref u1, .ref u2, .ref u3, .ref u4, x, .ref r] ++ [.ref u6, .non, .ref u7, .str "1/2"] ++ [.ref u10, .ref u11, .ref u12, .ref u13, .ref u14, .ref u15, .ref u16, .ref u17])) (fun i σ H' => ∃ y7 y8 : Option V, σ = [some (.ref a), some (.int c), some (.ref l), some x, some y, y5, some (.ref u9), y7, y8] ∧ H' = _) ⟨_, _, rfl, rfl⟩ (fun i σ H' _ ⟨_, _, _, e⟩ => by rw [e]; exact SqL.of upd_same) ?_ ?_⟩
        · rintro j v σ H' hj ⟨y7, y8, rfl, rfl⟩
          obtain ⟨b, hb⟩ := all_ v (List.mem_of_getElem? hj)
          refine ⟨_, rfl, v, b, rfl, hb, ?_⟩
          refine ⟨_, rfl, _, _, _, _, true, rfl, .ty "bool", .base (.bl b), kit_ty (by decide +kernel), _, rfl, iteF ?_⟩
          refine ⟨_, rfl, _, rfl, v, b, rfl, hb, rfl, _, rfl, ?_⟩
          rw [decide_eq_true rfl]
          refine iteF ?_
          exact ⟨_, _, rfl, rfl⟩
        · rintro σ H' ⟨y7, y8, rfl, rfl⟩
          exact ⟨_, _, _, _, _, _, _, _, rfl, hLA⟩
    · rintro σ H' _
      exact q H'
end
end K1

set_option Elab.async false
set_option linter.all false
set_option maxRecDepth 100000
set_option maxHeartbeats 8000000
namespace K1
open PySem PySem.Spec PyProof.Rows L2 BX EXB Co
theorem all_mk {l : PySem.W.OpenLaw} {w : World} {K : PySem.W.Frag} {h : Heap} {mg : Str → Option Value} {fa C_N f_i_N C_B f_i_B f_d_is_whole f_d_is_ratio f_d_lowest f_d_divisor f_d_law_left f_d_law_digit f_d_law_number f_d_law_whole f_d_law_shared f_d_law_is f_d_law_asked f_d_law_due f_d_law f_d_made T_d_made : Addr} (X : K.In h) (G : h.Ns mainGlobals mg) (hfa : mg "law" = some (.ref fa)) {nm_N q_N : Str} {N_N : Addr} {bs_N : List Value} {sn_N : List Str} {su_N : List Value} {ab_N : Bool} {co_N : Option Bool} {dd_N : Option Addr} {m0_N m1_N m2_N m3_N m5_N : Option Value} {nm_B q_B : Str} {N_B : Addr} {bs_B : List Value} {sn_B : List Str} {su_B : List Value} {ab_B : Bool} {co_B : Option Bool} {dd_B : Option Addr} {m0_B m1_B m2_B m3_B m5_B : Option Value} {oT_d_made : Obj} {nT_d_made : Nat} {k_one : Tok}
    {od_i_N an_i_N : Option Addr} {sl_i_N : Array (Option Value)} {oc_i_N kV_i_N dc_i_N pm_i_N cd_i_N ct_i_N : Value}
    {od_i_B an_i_B : Option Addr} {sl_i_B : Array (Option Value)} {oc_i_B kV_i_B dc_i_B pm_i_B cd_i_B ct_i_B : Value}
    {od_d_is_whole an_d_is_whole : Option Addr} {sl_d_is_whole : Array (Option Value)} {oc_d_is_whole kV_d_is_whole dc_d_is_whole pm_d_is_whole cd_d_is_whole ct_d_is_whole : Value}
    {od_d_is_ratio an_d_is_ratio : Option Addr} {sl_d_is_ratio : Array (Option Value)} {oc_d_is_ratio kV_d_is_ratio dc_d_is_ratio pm_d_is_ratio cd_d_is_ratio ct_d_is_ratio : Value}
    {od_d_lowest an_d_lowest : Option Addr} {sl_d_lowest : Array (Option Value)} {oc_d_lowest kV_d_lowest dc_d_lowest pm_d_lowest cd_d_lowest ct_d_lowest : Value}
    {od_d_divisor an_d_divisor : Option Addr} {sl_d_divisor : Array (Option Value)} {oc_d_divisor kV_d_divisor dc_d_divisor pm_d_divisor cd_d_divisor ct_d_divisor : Value}
    {od_d_law_left an_d_law_left : Option Addr} {sl_d_law_left : Array (Option Value)} {oc_d_law_left kV_d_law_left dc_d_law_left pm_d_law_left cd_d_law_left ct_d_law_left : Value}
    {od_d_law_digit an_d_law_digit : Option Addr} {sl_d_law_digit : Array (Option Value)} {oc_d_law_digit kV_d_law_digit dc_d_law_digit pm_d_law_digit cd_d_law_digit ct_d_law_digit : Value}
    {od_d_law_number an_d_law_number : Option Addr} {sl_d_law_number : Array (Option Value)} {oc_d_law_number kV_d_law_number dc_d_law_number pm_d_law_number cd_d_law_number ct_d_law_number : Value}
    {od_d_law_whole an_d_law_whole : Option Addr} {sl_d_law_whole : Array (Option Value)} {oc_d_law_whole kV_d_law_whole dc_d_law_whole pm_d_law_whole cd_d_law_whole ct_d_law_whole : Value}
    {od_d_law_shared an_d_law_shared : Option Addr} {sl_d_law_shared : Array (Option Value)} {oc_d_law_shared kV_d_law_shared dc_d_law_shared pm_d_law_shared cd_d_law_shared ct_d_law_shared : Value}
    {od_d_law_is an_d_law_is : Option Addr} {sl_d_law_is : Array (Option Value)} {oc_d_law_is kV_d_law_is dc_d_law_is pm_d_law_is cd_d_law_is ct_d_law_is : Value}
    {od_d_law_asked an_d_law_asked : Option Addr} {sl_d_law_asked : Array (Option Value)} {oc_d_law_asked kV_d_law_asked dc_d_law_asked pm_d_law_asked cd_d_law_asked ct_d_law_asked : Value}
    {od_d_law_due an_d_law_due : Option Addr} {sl_d_law_due : Array (Option Value)} {oc_d_law_due kV_d_law_due dc_d_law_due pm_d_law_due cd_d_law_due ct_d_law_due : Value}
    {od_d_law an_d_law : Option Addr} {sl_d_law : Array (Option Value)} {oc_d_law kV_d_law dc_d_law pm_d_law cd_d_law ct_d_law : Value}
    {od_d_made an_d_made : Option Addr} {sl_d_made : Array (Option Value)} {oc_d_made kV_d_made dc_d_made pm_d_made cd_d_made ct_d_made : Value}
    (aC_N : PySem.W.nsIn K mainGlobals "NoNumber" = some (some (.ref C_N)))
    (xC_N : K.lookup C_N = some (excClassObj nm_N q_N C_N N_N bs_N [.type "ValueError", .type "Exception", .type "BaseException", .type "object"] true sn_N su_N ab_N co_N dd_N m0_N m1_N m2_N m3_N m5_N "ValueError.__new__"))
    (sa_N : PySem.W.findIn K (.ref C_N) "__setattr__" = some (some (.builtin "object.__setattr__")))
    (ga_N : PySem.W.findIn K (.ref C_N) "__getattribute__" = some (some (.builtin "BaseException.__getattribute__")))
    (gg_N : PySem.W.findIn K (.ref C_N) "__getattr__" = some none)
    (cl_N : PySem.W.findIn K (.ref C_N) "__class__" = some (some (.builtin "object.__class__")))
    (mo_N : PySem.W.mroIn K C_N (.type "object") = some true)
    (kC_N : PySem.W.keepIn K (.ref C_N) = true)
    (eC_N : PySem.W.subIn K (.ref C_N) (.type "BaseException") = some true)
    (tC_N : PySem.W.typeIn K (.ref C_N) = some (.type "type"))
    (hd_N : PySem.W.hasDictIn K C_N = true)
    (vV_N : PySem.W.findCls K (.type "ValueError") (.type "type") "__init__" = some (.val (.builtin "ValueError.__init__")))
    (sp_ : PySem.W.specialIn K (.builtin "object.__class__") "__get__" = some (some (.builtin "getset_descriptor.__get__")))
    (tk_ : PySem.W.takesIn K (.builtin "object.__class__") = some true)
    (i_i_N : PySem.W.findIn K (.ref C_N) "__init__" = some (some (.ref f_i_N)))
    (ty_i_N : PySem.W.typeIn K (.ref f_i_N) = some (.type "function"))
    (l_i_N : K.lookup f_i_N = some ⟨oc_i_N, od_i_N, .func (PySem.W.fnOf "__init__" "NoNumber.__init__" (defArgs sNnInit) (defBody sNnInit) (defScope sNnInit) .none kV_i_N dc_i_N pm_i_N an_i_N cd_i_N ct_i_N), sl_i_N⟩)
    (c_i_N : PySem.W.codeIn K cd_i_N "NoNumber.__init__" = true)
    (k_i_N : PySem.W.keepIn K (.ref f_i_N) = true)
    (no_N_number : PySem.W.findIn K (.ref C_N) "number" = some none)
    (aC_B : PySem.W.nsIn K mainGlobals "ByNought" = some (some (.ref C_B)))
    (xC_B : K.lookup C_B = some (excClassObj nm_B q_B C_B N_B bs_B [.type "ZeroDivisionError", .type "ArithmeticError", .type "Exception", .type "BaseException", .type "object"] true sn_B su_B ab_B co_B dd_B m0_B m1_B m2_B m3_B m5_B "ZeroDivisionError.__new__"))
    (sa_B : PySem.W.findIn K (.ref C_B) "__setattr__" = some (some (.builtin "object.__setattr__")))
    (ga_B : PySem.W.findIn K (.ref C_B) "__getattribute__" = some (some (.builtin "BaseException.__getattribute__")))
    (gg_B : PySem.W.findIn K (.ref C_B) "__getattr__" = some none)
    (cl_B : PySem.W.findIn K (.ref C_B) "__class__" = some (some (.builtin "object.__class__")))
    (mo_B : PySem.W.mroIn K C_B (.type "object") = some true)
    (kC_B : PySem.W.keepIn K (.ref C_B) = true)
    (eC_B : PySem.W.subIn K (.ref C_B) (.type "BaseException") = some true)
    (tC_B : PySem.W.typeIn K (.ref C_B) = some (.type "type"))
    (hd_B : PySem.W.hasDictIn K C_B = true)
    (vV_B : PySem.W.findCls K (.type "ZeroDivisionError") (.type "type") "__init__" = some (.val (.builtin "ZeroDivisionError.__init__")))
    (i_i_B : PySem.W.findIn K (.ref C_B) "__init__" = some (some (.ref f_i_B)))
    (ty_i_B : PySem.W.typeIn K (.ref f_i_B) = some (.type "function"))
    (l_i_B : K.lookup f_i_B = some ⟨oc_i_B, od_i_B, .func (PySem.W.fnOf "__init__" "ByNought.__init__" (defArgs sBnInit) (defBody sBnInit) (defScope sBnInit) .none kV_i_B dc_i_B pm_i_B an_i_B cd_i_B ct_i_B), sl_i_B⟩)
    (c_i_B : PySem.W.codeIn K cd_i_B "ByNought.__init__" = true)
    (k_i_B : PySem.W.keepIn K (.ref f_i_B) = true)
    (sb_N_N : PySem.W.subIn K (.ref C_N) (.ref C_N) = some true)
    (sb_B_N : PySem.W.subIn K (.ref C_B) (.ref C_N) = some false)
    (sb_B_B : PySem.W.subIn K (.ref C_B) (.ref C_B) = some true)
    (kt_N_ValueError : PySem.W.kitOne K (.ref C_N) (.type "ValueError") = some true)
    (kt_N_B : PySem.W.kitOne K (.ref C_N) (.ref C_B) = some false)
    (kt_B_ZeroDivisionError : PySem.W.kitOne K (.ref C_B) (.type "ZeroDivisionError") = some true)
    (kt_B_N : PySem.W.kitOne K (.ref C_B) (.ref C_N) = some false)
    (a_d_is_whole : PySem.W.nsIn K mainGlobals "is_whole" = some (some (.ref f_d_is_whole)))
    (l_d_is_whole : K.lookup f_d_is_whole = some ⟨oc_d_is_whole, od_d_is_whole, .func (PySem.W.fnOf "is_whole" "is_whole" (defArgs sWhole) (defBody sWhole) (defScope sWhole) .none kV_d_is_whole dc_d_is_whole pm_d_is_whole an_d_is_whole cd_d_is_whole ct_d_is_whole), sl_d_is_whole⟩)
    (c_d_is_whole : PySem.W.codeIn K cd_d_is_whole "is_whole" = true)
    (k_d_is_whole : PySem.W.keepIn K (.ref f_d_is_whole) = true)
    (a_d_is_ratio : PySem.W.nsIn K mainGlobals "is_ratio" = some (some (.ref f_d_is_ratio)))
    (l_d_is_ratio : K.lookup f_d_is_ratio = some ⟨oc_d_is_ratio, od_d_is_ratio, .func (PySem.W.fnOf "is_ratio" "is_ratio" (defArgs sIsR) (defBody sIsR) (defScope sIsR) .none kV_d_is_ratio dc_d_is_ratio pm_d_is_ratio an_d_is_ratio cd_d_is_ratio ct_d_is_ratio), sl_d_is_ratio⟩)
    (c_d_is_ratio : PySem.W.codeIn K cd_d_is_ratio "is_ratio" = true)
    (k_d_is_ratio : PySem.W.keepIn K (.ref f_d_is_ratio) = true)
    (a_d_lowest : PySem.W.nsIn K mainGlobals "lowest" = some (some (.ref f_d_lowest)))
    (l_d_lowest : K.lookup f_d_lowest = some ⟨oc_d_lowest, od_d_lowest, .func (PySem.W.fnOf "lowest" "lowest" (defArgs sLowest) (defBody sLowest) (defScope sLowest) .none kV_d_lowest dc_d_lowest pm_d_lowest an_d_lowest cd_d_lowest ct_d_lowest), sl_d_lowest⟩)
    (c_d_lowest : PySem.W.codeIn K cd_d_lowest "lowest" = true)
    (k_d_lowest : PySem.W.keepIn K (.ref f_d_lowest) = true)
    (a_d_divisor : PySem.W.nsIn K mainGlobals "divisor" = some (some (.ref f_d_divisor)))
    (l_d_divisor : K.lookup f_d_divisor = some ⟨oc_d_divisor, od_d_divisor, .func (PySem.W.fnOf "divisor" "divisor" (defArgs sDiv) (defBody sDiv) (defScope sDiv) .none kV_d_divisor dc_d_divisor pm_d_divisor an_d_divisor cd_d_divisor ct_d_divisor), sl_d_divisor⟩)
    (c_d_divisor : PySem.W.codeIn K cd_d_divisor "divisor" = true)
    (k_d_divisor : PySem.W.keepIn K (.ref f_d_divisor) = true)
    (a_d_law_left : PySem.W.nsIn K mainGlobals "_law_left" = some (some (.ref f_d_law_left)))
    (l_d_law_left : K.lookup f_d_law_left = some ⟨oc_d_law_left, od_d_law_left, .func (PySem.W.fnOf "_law_left" "_law_left" (defArgs sLeft) (defBody sLeft) (defScope sLeft) .none kV_d_law_left dc_d_law_left pm_d_law_left an_d_law_left cd_d_law_left ct_d_law_left), sl_d_law_left⟩)
    (c_d_law_left : PySem.W.codeIn K cd_d_law_left "_law_left" = true)
    (k_d_law_left : PySem.W.keepIn K (.ref f_d_law_left) = true)
    (a_d_law_digit : PySem.W.nsIn K mainGlobals "_law_digit" = some (some (.ref f_d_law_digit)))
    (l_d_law_digit : K.lookup f_d_law_digit = some ⟨oc_d_law_digit, od_d_law_digit, .func (PySem.W.fnOf "_law_digit" "_law_digit" (defArgs sDigit) (defBody sDigit) (defScope sDigit) .none kV_d_law_digit dc_d_law_digit pm_d_law_digit an_d_law_digit cd_d_law_digit ct_d_law_digit), sl_d_law_digit⟩)
    (c_d_law_digit : PySem.W.codeIn K cd_d_law_digit "_law_digit" = true)
    (k_d_law_digit : PySem.W.keepIn K (.ref f_d_law_digit) = true)
    (a_d_law_number : PySem.W.nsIn K mainGlobals "_law_number" = some (some (.ref f_d_law_number)))
    (l_d_law_number : K.lookup f_d_law_number = some ⟨oc_d_law_number, od_d_law_number, .func (PySem.W.fnOf "_law_number" "_law_number" (defArgs sNum) (defBody sNum) (defScope sNum) .none kV_d_law_number dc_d_law_number pm_d_law_number an_d_law_number cd_d_law_number ct_d_law_number), sl_d_law_number⟩)
    (c_d_law_number : PySem.W.codeIn K cd_d_law_number "_law_number" = true)
    (k_d_law_number : PySem.W.keepIn K (.ref f_d_law_number) = true)
    (a_d_law_whole : PySem.W.nsIn K mainGlobals "_law_whole" = some (some (.ref f_d_law_whole)))
    (l_d_law_whole : K.lookup f_d_law_whole = some ⟨oc_d_law_whole, od_d_law_whole, .func (PySem.W.fnOf "_law_whole" "_law_whole" (defArgs sLWhole) (defBody sLWhole) (defScope sLWhole) .none kV_d_law_whole dc_d_law_whole pm_d_law_whole an_d_law_whole cd_d_law_whole ct_d_law_whole), sl_d_law_whole⟩)
    (c_d_law_whole : PySem.W.codeIn K cd_d_law_whole "_law_whole" = true)
    (k_d_law_whole : PySem.W.keepIn K (.ref f_d_law_whole) = true)
    (a_d_law_shared : PySem.W.nsIn K mainGlobals "_law_shared" = some (some (.ref f_d_law_shared)))
    (l_d_law_shared : K.lookup f_d_law_shared = some ⟨oc_d_law_shared, od_d_law_shared, .func (PySem.W.fnOf "_law_shared" "_law_shared" (defArgs sShared) (defBody sShared) (defScope sShared) .none kV_d_law_shared dc_d_law_shared pm_d_law_shared an_d_law_shared cd_d_law_shared ct_d_law_shared), sl_d_law_shared⟩)
    (c_d_law_shared : PySem.W.codeIn K cd_d_law_shared "_law_shared" = true)
    (k_d_law_shared : PySem.W.keepIn K (.ref f_d_law_shared) = true)
    (a_d_law_is : PySem.W.nsIn K mainGlobals "_law_is" = some (some (.ref f_d_law_is)))
    (l_d_law_is : K.lookup f_d_law_is = some ⟨oc_d_law_is, od_d_law_is, .func (PySem.W.fnOf "_law_is" "_law_is" (defArgs sLIs) (defBody sLIs) (defScope sLIs) .none kV_d_law_is dc_d_law_is pm_d_law_is an_d_law_is cd_d_law_is ct_d_law_is), sl_d_law_is⟩)
    (c_d_law_is : PySem.W.codeIn K cd_d_law_is "_law_is" = true)
    (k_d_law_is : PySem.W.keepIn K (.ref f_d_law_is) = true)
    (a_d_law_asked : PySem.W.nsIn K mainGlobals "_law_asked" = some (some (.ref f_d_law_asked)))
    (l_d_law_asked : K.lookup f_d_law_asked = some ⟨oc_d_law_asked, od_d_law_asked, .func (PySem.W.fnOf "_law_asked" "_law_asked" (defArgs sAsked) (defBody sAsked) (defScope sAsked) .none kV_d_law_asked dc_d_law_asked pm_d_law_asked an_d_law_asked cd_d_law_asked ct_d_law_asked), sl_d_law_asked⟩)
    (c_d_law_asked : PySem.W.codeIn K cd_d_law_asked "_law_asked" = true)
    (k_d_law_asked : PySem.W.keepIn K (.ref f_d_law_asked) = true)
    (a_d_law_due : PySem.W.nsIn K mainGlobals "_law_due" = some (some (.ref f_d_law_due)))
    (l_d_law_due : K.lookup f_d_law_due = some ⟨oc_d_law_due, od_d_law_due, .func (PySem.W.fnOf "_law_due" "_law_due" (defArgs sDue) (defBody sDue) (defScope sDue) .none kV_d_law_due dc_d_law_due pm_d_law_due an_d_law_due cd_d_law_due ct_d_law_due), sl_d_law_due⟩)
    (c_d_law_due : PySem.W.codeIn K cd_d_law_due "_law_due" = true)
    (k_d_law_due : PySem.W.keepIn K (.ref f_d_law_due) = true)
    (a_d_law : PySem.W.nsIn K mainGlobals "law" = some (some (.ref f_d_law)))
    (l_d_law : K.lookup f_d_law = some ⟨oc_d_law, od_d_law, .func (PySem.W.fnOf "law" "law" (defArgs sLaw) (defBody sLaw) (defScope sLaw) .none kV_d_law dc_d_law pm_d_law an_d_law cd_d_law ct_d_law), sl_d_law⟩)
    (c_d_law : PySem.W.codeIn K cd_d_law "law" = true)
    (k_d_law : PySem.W.keepIn K (.ref f_d_law) = true)
    (a_d_made : PySem.W.nsIn K mainGlobals "made" = some (some (.ref f_d_made)))
    (l_d_made : K.lookup f_d_made = some ⟨oc_d_made, od_d_made, .func (PySem.W.fnOf "made" "made" (defArgs sMade) (defBody sMade) (defScope sMade) (.ref T_d_made) kV_d_made dc_d_made pm_d_made an_d_made cd_d_made ct_d_made), sl_d_made⟩)
    (c_d_made : PySem.W.codeIn K cd_d_made "made" = true)
    (k_d_made : PySem.W.keepIn K (.ref f_d_made) = true)
    (t_d_made : K.lookup T_d_made = some oT_d_made)
    (e_d_made : oT_d_made.data = .seq [Value.int 1 k_one].toArray nT_d_made)
    (z_abs : PySem.W.nsIn K mainGlobals "abs" = some none)
    (z_isinstance : PySem.W.nsIn K mainGlobals "isinstance" = some none)
    (z_int : PySem.W.nsIn K mainGlobals "int" = some none)
    (z_bool : PySem.W.nsIn K mainGlobals "bool" = some none)
    (z_tuple : PySem.W.nsIn K mainGlobals "tuple" = some none)
    (z_list : PySem.W.nsIn K mainGlobals "list" = some none)
    (z_len : PySem.W.nsIn K mainGlobals "len" = some none)
    (z_range : PySem.W.nsIn K mainGlobals "range" = some none)
    (z_str : PySem.W.nsIn K mainGlobals "str" = some none)
    (z_repr : PySem.W.nsIn K mainGlobals "repr" = some none)
    (z_sum : PySem.W.nsIn K mainGlobals "sum" = some none)
    (z_all : PySem.W.nsIn K mainGlobals "all" = some none)
    (z_any : PySem.W.nsIn K mainGlobals "any" = some none)
    (z_enumerate : PySem.W.nsIn K mainGlobals "enumerate" = some none)
    (z_zip : PySem.W.nsIn K mainGlobals "zip" = some none)
    (z_min : PySem.W.nsIn K mainGlobals "min" = some none)
    (z_max : PySem.W.nsIn K mainGlobals "max" = some none)
    (z_sorted : PySem.W.nsIn K mainGlobals "sorted" = some none)
    (z_ValueError : PySem.W.nsIn K mainGlobals "ValueError" = some none)
    (z_ZeroDivisionError : PySem.W.nsIn K mainGlobals "ZeroDivisionError" = some none)
    (z_OverflowError : PySem.W.nsIn K mainGlobals "OverflowError" = some none)
    (z_IndexError : PySem.W.nsIn K mainGlobals "IndexError" = some none)
    (z_LookupError : PySem.W.nsIn K mainGlobals "LookupError" = some none)
    (z_ArithmeticError : PySem.W.nsIn K mainGlobals "ArithmeticError" = some none)
    (z_KeyError : PySem.W.nsIn K mainGlobals "KeyError" = some none)
    (z_RuntimeError : PySem.W.nsIn K mainGlobals "RuntimeError" = some none) :
    ∃ fd : FuncData, (∀ (s : Shared) (v : Value), BindsTo s fd ⟨[v], []⟩ [("_law_script", v)]) ∧ ∀ base : Heap, K.In base → base.Ns mainGlobals mg → FnOkG l.prog w K mg base CX0 10 fa fd ["_law_script"] (spLaw K) := by
  have e := hfa.symm.trans (PySem.W.mg_of X G a_d_law)
  cases e
  have B : Blt mg := ⟨PySem.W.mg_none_of X G z_abs, PySem.W.mg_none_of X G z_isinstance, PySem.W.mg_none_of X G z_int, PySem.W.mg_none_of X G z_bool, PySem.W.mg_none_of X G z_tuple, PySem.W.mg_none_of X G z_list, PySem.W.mg_none_of X G z_len, PySem.W.mg_none_of X G z_range, PySem.W.mg_none_of X G z_str, PySem.W.mg_none_of X G z_repr, PySem.W.mg_none_of X G z_sum, PySem.W.mg_none_of X G z_all, PySem.W.mg_none_of X G z_any, PySem.W.mg_none_of X G z_enumerate, PySem.W.mg_none_of X G z_zip, PySem.W.mg_none_of X G z_min, PySem.W.mg_none_of X G z_max, PySem.W.mg_none_of X G z_sorted, PySem.W.mg_none_of X G z_ValueError, PySem.W.mg_none_of X G z_ZeroDivisionError, PySem.W.mg_none_of X G z_OverflowError, PySem.W.mg_none_of X G z_IndexError, PySem.W.mg_none_of X G z_LookupError, PySem.W.mg_none_of X G z_ArithmeticError, PySem.W.mg_none_of X G z_KeyError, PySem.W.mg_none_of X G z_RuntimeError⟩
  have ex_N : ExcC K C_N := ⟨ga_N, gg_N, eC_N, hd_N, cl_N, sp_, tk_, mo_N⟩
  have xf_N : XfC K C_N := ⟨ga_N, gg_N, eC_N, hd_N⟩
  have gC_N := PySem.W.mg_of X G aC_N
  have oex_N : OexC K C_N := ⟨⟨nm_N, q_N, N_N, bs_N, _, sn_N, su_N, ab_N, co_N, dd_N, m0_N, m1_N, m2_N, m3_N, m5_N, xC_N, by decide +kernel⟩, sa_N, eC_N, tC_N, kC_N⟩
  have exc_N : ExC K C_N "ValueError.__new__" [.type "ValueError", .type "Exception", .type "BaseException", .type "object"] := ⟨⟨nm_N, q_N, N_N, bs_N, sn_N, su_N, ab_N, co_N, dd_N, m0_N, m1_N, m2_N, m3_N, m5_N, xC_N⟩, eC_N, tC_N, kC_N⟩
  have F_i_N := fun_mk (st := sNnInit) l_i_N c_i_N k_i_N
  have b_i_N := F_i_N.binds (ps := ["self", "number"]) fun _ _ _ _ _ _ us hl => match us, hl with | [_, _], _ => rfl
  have ex_B : ExcC K C_B := ⟨ga_B, gg_B, eC_B, hd_B, cl_B, sp_, tk_, mo_B⟩
  have xf_B : XfC K C_B := ⟨ga_B, gg_B, eC_B, hd_B⟩
  have gC_B := PySem.W.mg_of X G aC_B
  have exc_B : ExC K C_B "ZeroDivisionError.__new__" [.type "ZeroDivisionError", .type "ArithmeticError", .type "Exception", .type "BaseException", .type "object"] := ⟨⟨nm_B, q_B, N_B, bs_B, sn_B, su_B, ab_B, co_B, dd_B, m0_B, m1_B, m2_B, m3_B, m5_B, xC_B⟩, eC_B, tC_B, kC_B⟩
  have F_i_B := fun_mk (st := sBnInit) l_i_B c_i_B k_i_B
  have b_i_B := F_i_B.binds (ps := ["self"]) fun _ _ _ _ _ _ us hl => match us, hl with | [_], _ => rfl
  have em_N_N := PySem.W.exm_ref eC_N hd_N tC_N sb_N_N
  have em_B_N := PySem.W.exm_ref eC_N hd_N tC_N sb_B_N
  have em_B_B := PySem.W.exm_ref eC_B hd_B tC_B sb_B_B
  have F_d_is_whole := fun_mk (st := sWhole) l_d_is_whole c_d_is_whole k_d_is_whole
  have b_d_is_whole := F_d_is_whole.binds (ps := ["thing"]) fun _ _ _ _ _ _ us hl => match us, hl with | [_], _ => rfl
  have g_d_is_whole := PySem.W.mg_of X G a_d_is_whole
  have F_d_is_ratio := fun_mk (st := sIsR) l_d_is_ratio c_d_is_ratio k_d_is_ratio
  have b_d_is_ratio := F_d_is_ratio.binds (ps := ["thing"]) fun _ _ _ _ _ _ us hl => match us, hl with | [_], _ => rfl
  have g_d_is_ratio := PySem.W.mg_of X G a_d_is_ratio
  have F_d_lowest := fun_mk (st := sLowest) l_d_lowest c_d_lowest k_d_lowest
  have b_d_lowest := F_d_lowest.binds (ps := ["top", "bottom"]) fun _ _ _ _ _ _ us hl => match us, hl with | [_, _], _ => rfl
  have g_d_lowest := PySem.W.mg_of X G a_d_lowest
  have F_d_divisor := fun_mk (st := sDiv) l_d_divisor c_d_divisor k_d_divisor
  have b_d_divisor := F_d_divisor.binds (ps := ["one", "other"]) fun _ _ _ _ _ _ us hl => match us, hl with | [_, _], _ => rfl
  have g_d_divisor := PySem.W.mg_of X G a_d_divisor
  have F_d_law_left := fun_mk (st := sLeft) l_d_law_left c_d_law_left k_d_law_left
  have b_d_law_left := F_d_law_left.binds (ps := ["_law_cell"]) fun _ _ _ _ _ _ us hl => match us, hl with | [_], _ => rfl
  have g_d_law_left := PySem.W.mg_of X G a_d_law_left
  have F_d_law_digit := fun_mk (st := sDigit) l_d_law_digit c_d_law_digit k_d_law_digit
  have b_d_law_digit := F_d_law_digit.binds (ps := ["_law_left_here", "_law_many"]) fun _ _ _ _ _ _ us hl => match us, hl with | [_, _], _ => rfl
  have g_d_law_digit := PySem.W.mg_of X G a_d_law_digit
  have F_d_law_number := fun_mk (st := sNum) l_d_law_number c_d_law_number k_d_law_number
  have b_d_law_number := F_d_law_number.binds (ps := ["_law_left_here"]) fun _ _ _ _ _ _ us hl => match us, hl with | [_], _ => rfl
  have g_d_law_number := PySem.W.mg_of X G a_d_law_number
  have F_d_law_whole := fun_mk (st := sLWhole) l_d_law_whole c_d_law_whole k_d_law_whole
  have b_d_law_whole := F_d_law_whole.binds (ps := ["_law_thing"]) fun _ _ _ _ _ _ us hl => match us, hl with | [_], _ => rfl
  have g_d_law_whole := PySem.W.mg_of X G a_d_law_whole
  have F_d_law_shared := fun_mk (st := sShared) l_d_law_shared c_d_law_shared k_d_law_shared
  have b_d_law_shared := F_d_law_shared.binds (ps := ["_law_one", "_law_other"]) fun _ _ _ _ _ _ us hl => match us, hl with | [_, _], _ => rfl
  have g_d_law_shared := PySem.W.mg_of X G a_d_law_shared
  have F_d_law_is := fun_mk (st := sLIs) l_d_law_is c_d_law_is k_d_law_is
  have b_d_law_is := F_d_law_is.binds (ps := ["_law_thing"]) fun _ _ _ _ _ _ us hl => match us, hl with | [_], _ => rfl
  have g_d_law_is := PySem.W.mg_of X G a_d_law_is
  have F_d_law_asked := fun_mk (st := sAsked) l_d_law_asked c_d_law_asked k_d_law_asked
  have b_d_law_asked := F_d_law_asked.binds (ps := ["_law_first", "_law_second", "_law_way"]) fun _ _ _ _ _ _ us hl => match us, hl with | [_, _, _], _ => rfl
  have g_d_law_asked := PySem.W.mg_of X G a_d_law_asked
  have F_d_law_due := fun_mk (st := sDue) l_d_law_due c_d_law_due k_d_law_due
  have b_d_law_due := F_d_law_due.binds (ps := ["_law_first", "_law_second"]) fun _ _ _ _ _ _ us hl => match us, hl with | [_, _], _ => rfl
  have g_d_law_due := PySem.W.mg_of X G a_d_law_due
  have F_d_law := fun_mk (st := sLaw) l_d_law c_d_law k_d_law
  have g_d_law := PySem.W.mg_of X G a_d_law
  have g_d_made := PySem.W.mg_of X G a_d_made
  have FM : FunD K "made" "made" (defArgs sMade) (defBody sMade) (defScope sMade) [V.int 1] [] f_d_made (PySem.W.fnOf "made" "made" (defArgs sMade) (defBody sMade) (defScope sMade) (.ref T_d_made) kV_d_made dc_d_made pm_d_made an_d_made cd_d_made ct_d_made) := ⟨⟨_, _, _, _, _, _, _, _, _, _, rfl, l_d_made, c_d_made, .inr ⟨by simp, T_d_made, oT_d_made, [Value.int 1 k_one], nT_d_made, rfl, t_d_made, e_d_made, .cons ⟨_, rfl⟩ .nil⟩, .inl rfl⟩, k_d_made⟩
  have bM1 := FM.binds1 (ps := ["top", "bottom"]) 1 0 (by simp) rfl fun T kV doc pm an cdv ct us its hl hi => match us, its, hl, hi with | [_], [_], _, _ => ⟨_, rfl, rfl⟩
  obtain ⟨ds2, vd2, bM2⟩ := FM.binds1 (ps := ["top", "bottom"]) 2 1 (by simp) rfl fun T kV doc pm an cdv ct us its hl hi => match us, its, hl, hi with | [_, _], [_], _, _ => ⟨_, rfl, rfl⟩
  cases vd2
  have bMk : ∀ (s : Shared) (ws : List Value), K.In s.heap → ws.length = (["top", "bottom"] : List Str).length → BindsTo s (PySem.W.fnOf "made" "made" (defArgs sMade) (defBody sMade) (defScope sMade) (.ref T_d_made) kV_d_made dc_d_made pm_d_made an_d_made cd_d_made ct_d_made) ⟨[], (["top", "bottom"] : List Str).zip ws⟩ ((["top", "bottom"] : List Str).zip ws) := by
    intro s ws Y h2
    match ws, h2 with
    | [u, v], _ =>
      have z : ∃ k, bindArgs (PySem.W.fnOf "made" "made" (defArgs sMade) (defBody sMade) (defScope sMade) (.ref T_d_made) kV_d_made dc_d_made pm_d_made an_d_made cd_d_made ct_d_made) ⟨[], (["top", "bottom"] : List Str).zip [u, v]⟩ = seqItems? (.ref T_d_made) >>= k ∧ k (some [Value.int 1 k_one].toArray) = pure ((["top", "bottom"] : List Str).zip [u, v]) := ⟨_, rfl, rfl⟩
      obtain ⟨k, e1, e2⟩ := z
      refine BindsTo.of_looks fun M => ?_
      rw [e1]
      exact looks_items Y t_d_made e_d_made (.of_pure e2)
  have T0 : ErT K mg C_N f_i_N C_B f_i_B := ⟨oex_N, gC_N, i_i_N, ty_i_N, no_N_number, xf_N, ex_N, vV_N, exc_B, gC_B, i_i_B, ty_i_B, ex_B, vV_B, em_N_N, em_B_N, em_B_B, kt_N_ValueError, kt_N_B, kt_B_ZeroDivisionError, kt_B_N⟩
  refine ⟨PySem.W.fnOf "law" "law" (defArgs sLaw) (defBody sLaw) (defScope sLaw) .none kV_d_law dc_d_law pm_d_law an_d_law cd_d_law ct_d_law, fun s v => .of_eq rfl, fun base _ _ => ?_⟩
  have Gdiv : FnOk l.prog w K mg base CX0 1 f_d_divisor _ ["one", "other"] spDiv := ok_div F_d_divisor B
  have Glow : FnOk l.prog w K mg base CX0 2 f_d_lowest _ ["top", "bottom"] spLow := ok_lowest F_d_lowest Gdiv k_d_divisor b_d_divisor g_d_divisor
  have Gwh : FnOk l.prog w K mg base CX0 1 f_d_is_whole _ ["thing"] (spWhole K) := ok_Whole F_d_is_whole B
  have Glwh : FnOk l.prog w K mg base CX0 1 f_d_law_whole _ ["_law_thing"] (spWhole K) := ok_LWhole F_d_law_whole B
  have Gisr : FnOk l.prog w K mg base CX0 2 f_d_is_ratio _ ["thing"] (spThi K) := ok_IsR F_d_is_ratio Gwh k_d_is_whole b_d_is_whole g_d_is_whole Gdiv k_d_divisor b_d_divisor g_d_divisor B
  have Gsh : FnOk l.prog w K mg base CX0 1 f_d_law_shared _ ["_law_one", "_law_other"] spDiv := ok_Shared F_d_law_shared B
  have Glis : FnOk l.prog w K mg base CX0 2 f_d_law_is _ ["_law_thing"] (spThi K) := ok_LIs F_d_law_is Glwh k_d_law_whole b_d_law_whole g_d_law_whole Gsh k_d_law_shared b_d_law_shared g_d_law_shared B
  have Gleft : FnOk l.prog w K mg base CX0 1 f_d_law_left _ ["_law_cell"] spLeft := ok_left F_d_law_left B
  have Gdig : FnOk l.prog w K mg base CX0 1 f_d_law_digit _ ["_law_left_here", "_law_many"] spDigit := ok_digit F_d_law_digit
  have Gnum : FnOk l.prog w K mg base CX0 2 f_d_law_number _ ["_law_left_here"] (spNum K) := ok_Num F_d_law_number Gdig k_d_law_digit b_d_law_digit g_d_law_digit
  have Gnn : FnOk l.prog w K mg base CX0 2 f_i_N _ ["self", "number"] (spE1 C_N "number") := ok_nn F_i_N T0 B
  have Gbn : FnOk l.prog w K mg base CX0 2 f_i_B _ ["self"] (spEi C_B) := ok_bn F_i_B T0 B
  have Gmade : FnOk l.prog w K mg base (L2.CX l.prog w) 4 f_d_made _ ["top", "bottom"] (spMade K C_N C_B) := ok_Made FM T0 Gnn b_i_N Gbn b_i_B (Gwh.mono (by decide)) k_d_is_whole b_d_is_whole g_d_is_whole Glow k_d_lowest b_d_lowest g_d_lowest
  have Gask : FnOkG l.prog w K mg base CX0 5 f_d_law_asked _ ["_law_first", "_law_second", "_law_way"] (spAsked K) := ok_Asked F_d_law_asked T0 Gmade k_d_made bM2 bM1 bMk g_d_made B
  have Gdue : FnOkG l.prog w K mg base CX0 2 f_d_law_due _ ["_law_first", "_law_second"] (spDue K) := ok_Due F_d_law_due Glwh k_d_law_whole b_d_law_whole g_d_law_whole Gsh k_d_law_shared b_d_law_shared g_d_law_shared B
  exact ok_Law F_d_law ⟨⟨_, _, Gleft.mono (by decide), k_d_law_left, b_d_law_left, g_d_law_left⟩, ⟨_, _, Gnum.mono (by decide), k_d_law_number, b_d_law_number, g_d_law_number⟩, ⟨_, _, Gask.mono (by decide), k_d_law_asked, b_d_law_asked, g_d_law_asked⟩, ⟨_, _, Gdue.mono (by decide), k_d_law_due, b_d_law_due, g_d_law_due⟩, ⟨_, _, Gisr.mono (by decide), k_d_is_ratio, b_d_is_ratio, g_d_is_ratio⟩, ⟨_, _, Glis.mono (by decide), k_d_law_is, b_d_law_is, g_d_law_is⟩⟩ B
end K1
open PySem PySem.W PyProof.Rows
set_option maxRecDepth 100000 in
set_option maxHeartbeats 0 in
theorem PySem.Challenge.cw_besttelling_k01_fractions_made_holds : PySem.Challenge.rw_besttelling_k01_fractions_made.Holds := by
  w_on; o_law; k_head; (case hw => w_witness2)
  k_fill
  refine BX.walk_ofG (l := PySem.Challenge.rw_besttelling_k01_fractions_made) (n := 63) (k := 10) (x := "_law_script") (CX := fun _ => L2.CX0) (sp := fun w => K1.spLaw _) rfl (by decide) rfl ⟨rfl, by decide, by decide⟩ (fun w h Y => PySem.W.kIn_of Y) ?F (fun _ _ a ns hl _ hS => ⟨a, ns, rfl, hS, hl, fun _ => rfl⟩) (fun _ _ _ _ _ h => h)
  case F =>
    intro w mg fa h KX G hmg
    refine' K1.all_mk KX G hmg ?aC_N ?xC_N ?sa_N ?ga_N ?gg_N ?cl_N ?mo_N ?kC_N ?eC_N ?tC_N ?hd_N ?vV_N ?sp_ ?tk_ ?i_i_N ?ty_i_N ?l_i_N ?c_i_N ?k_i_N ?no_N_number ?aC_B ?xC_B ?sa_B ?ga_B ?gg_B ?cl_B ?mo_B ?kC_B ?eC_B ?tC_B ?hd_B ?vV_B ?i_i_B ?ty_i_B ?l_i_B ?c_i_B ?k_i_B ?sb_N_N ?sb_B_N ?sb_B_B ?kt_N_ValueError ?kt_N_B ?kt_B_ZeroDivisionError ?kt_B_N ?a_d_is_whole ?l_d_is_whole ?c_d_is_whole ?k_d_is_whole ?a_d_is_ratio ?l_d_is_ratio ?c_d_is_ratio ?k_d_is_ratio ?a_d_lowest ?l_d_lowest ?c_d_lowest ?k_d_lowest ?a_d_divisor ?l_d_divisor ?c_d_divisor ?k_d_divisor ?a_d_law_left ?l_d_law_left ?c_d_law_left ?k_d_law_left ?a_d_law_digit ?l_d_law_digit ?c_d_law_digit ?k_d_law_digit ?a_d_law_number ?l_d_law_number ?c_d_law_number ?k_d_law_number ?a_d_law_whole ?l_d_law_whole ?c_d_law_whole ?k_d_law_whole ?a_d_law_shared ?l_d_law_shared ?c_d_law_shared ?k_d_law_shared ?a_d_law_is ?l_d_law_is ?c_d_law_is ?k_d_law_is ?a_d_law_asked ?l_d_law_asked ?c_d_law_asked ?k_d_law_asked ?a_d_law_due ?l_d_law_due ?c_d_law_due ?k_d_law_due ?a_d_law ?l_d_law ?c_d_law ?k_d_law ?a_d_made ?l_d_made ?c_d_made ?k_d_made ?t_d_made ?e_d_made ?z_abs ?z_isinstance ?z_int ?z_bool ?z_tuple ?z_list ?z_len ?z_range ?z_str ?z_repr ?z_sum ?z_all ?z_any ?z_enumerate ?z_zip ?z_min ?z_max ?z_sorted ?z_ValueError ?z_ZeroDivisionError ?z_OverflowError ?z_IndexError ?z_LookupError ?z_ArithmeticError ?z_KeyError ?z_RuntimeError
    (case aC_N => k_is)
    (case xC_N => k_is)
    (case sa_N => k_is)
    (case ga_N => k_is)
    (case gg_N => k_is)
    (case cl_N => k_is)
    (case mo_N => first | rfl | k_is | decide +kernel)
    (case kC_N => k_is)
    (case eC_N => k_is)
    (case tC_N => k_is)
    (case hd_N => k_is)
    (case vV_N => first | rfl | decide +kernel | k_is)
    (case sp_ => first | rfl | k_is | decide +kernel)
    (case tk_ => first | rfl | k_is | decide +kernel)
    (case i_i_N => k_is)
    (case ty_i_N => k_is)
    (case l_i_N => k_is)
    (case c_i_N => k_is)
    (case k_i_N => k_is)
    (case no_N_number => k_is)
    (case aC_B => k_is)
    (case xC_B => k_is)
    (case sa_B => k_is)
    (case ga_B => k_is)
    (case gg_B => k_is)
    (case cl_B => k_is)
    (case mo_B => first | rfl | k_is | decide +kernel)
    (case kC_B => k_is)
    (case eC_B => k_is)
    (case tC_B => k_is)
    (case hd_B => k_is)
    (case vV_B => first | rfl | decide +kernel | k_is)
    (case i_i_B => k_is)
    (case ty_i_B => k_is)
    (case l_i_B => k_is)
    (case c_i_B => k_is)
    (case k_i_B => k_is)
    (case sb_N_N => first | rfl | k_is | decide +kernel)
    (case sb_B_N => first | rfl | k_is | decide +kernel)
    (case sb_B_B => first | rfl | k_is | decide +kernel)
    (case kt_N_ValueError => first | rfl | k_is | kit_is | decide +kernel)
    (case kt_N_B => first | rfl | k_is | kit_is | decide +kernel)
    (case kt_B_ZeroDivisionError => first | rfl | k_is | kit_is | decide +kernel)
    (case kt_B_N => first | rfl | k_is | kit_is | decide +kernel)
    (case a_d_is_whole => k_is)
    (case l_d_is_whole => k_is)
    (case c_d_is_whole => k_is)
    (case k_d_is_whole => k_is)
    (case a_d_is_ratio => k_is)
    (case l_d_is_ratio => k_is)
    (case c_d_is_ratio => k_is)
    (case k_d_is_ratio => k_is)
    (case a_d_lowest => k_is)
    (case l_d_lowest => k_is)
    (case c_d_lowest => k_is)
    (case k_d_lowest => k_is)
    (case a_d_divisor => k_is)
    (case l_d_divisor => k_is)
    (case c_d_divisor => k_is)
    (case k_d_divisor => k_is)
    (case a_d_law_left => k_is)
    (case l_d_law_left => k_is)
    (case c_d_law_left => k_is)
    (case k_d_law_left => k_is)
    (case a_d_law_digit => k_is)
    (case l_d_law_digit => k_is)
    (case c_d_law_digit => k_is)
    (case k_d_law_digit => k_is)
    (case a_d_law_number => k_is)
    (case l_d_law_number => k_is)
    (case c_d_law_number => k_is)
    (case k_d_law_number => k_is)
    (case a_d_law_whole => k_is)
    (case l_d_law_whole => k_is)
    (case c_d_law_whole => k_is)
    (case k_d_law_whole => k_is)
    (case a_d_law_shared => k_is)
    (case l_d_law_shared => k_is)
    (case c_d_law_shared => k_is)
    (case k_d_law_shared => k_is)
    (case a_d_law_is => k_is)
    (case l_d_law_is => k_is)
    (case c_d_law_is => k_is)
    (case k_d_law_is => k_is)
    (case a_d_law_asked => k_is)
    (case l_d_law_asked => k_is)
    (case c_d_law_asked => k_is)
    (case k_d_law_asked => k_is)
    (case a_d_law_due => k_is)
    (case l_d_law_due => k_is)
    (case c_d_law_due => k_is)
    (case k_d_law_due => k_is)
    (case a_d_law => k_is)
    (case l_d_law => k_is)
    (case c_d_law => k_is)
    (case k_d_law => k_is)
    (case a_d_made => k_is)
    (case l_d_made => k_is)
    (case c_d_made => k_is)
    (case k_d_made => k_is)
    (case t_d_made => k_is)
    (case e_d_made => rfl)
    (case z_abs => k_is)
    (case z_isinstance => k_is)
    (case z_int => k_is)
    (case z_bool => k_is)
    (case z_tuple => k_is)
    (case z_list => k_is)
    (case z_len => k_is)
    (case z_range => k_is)
    (case z_str => k_is)
    (case z_repr => k_is)
    (case z_sum => k_is)
    (case z_all => k_is)
    (case z_any => k_is)
    (case z_enumerate => k_is)
    (case z_zip => k_is)
    (case z_min => k_is)
    (case z_max => k_is)
    (case z_sorted => k_is)
    (case z_ValueError => k_is)
    (case z_ZeroDivisionError => k_is)
    (case z_OverflowError => k_is)
    (case z_IndexError => k_is)
    (case z_LookupError => k_is)
    (case z_ArithmeticError => k_is)
    (case z_KeyError => k_is)
    (case z_RuntimeError => k_is)
