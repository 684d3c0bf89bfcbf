import PyProof.Rows.All
import Wide.All
import OpenK.AllK
import Wide.FinOn
import HandS.Base
import HandS.Call
import HandS.List
import HandS.Ends
import HandS.Words
import HandS.Wide
import HandS.IsInst
import HandS.Defaults
import HandS.Exc
import HandS.ExcOwn
import HandS.ExcInit
import HandS.WordsExc
import HandS.TryOnly
import HandS.Style
import PySem.Challenge.RW_besttelling_k02_fractions_reckoned
namespace Fr
theorem fmod_abs (a : Int) {b : Int} (h : b ≠ 0) : (a.fmod b).natAbs < b.natAbs := by
  by_cases hb : 0 < b
  · have h1 := Int.fmod_lt_of_pos a hb
    have h2 := Int.fmod_nonneg_of_pos a hb
    omega
  · have hb' : 0 < -b := by omega
    have e := Int.neg_fmod_neg (-a) (-b)
    rw [Int.neg_neg, Int.neg_neg] at e
    have h1 := Int.fmod_lt_of_pos (-a) hb'
    have h2 := Int.fmod_nonneg_of_pos (-a) hb'
    omega
theorem gcd_step (a b : Int) : Int.gcd b (a.fmod b) = Int.gcd a b := by
  rw [Int.fmod_def, Int.mul_comm, Int.gcd_sub_mul_right_right, Int.gcd_comm]
theorem gcd_pos {t b : Int} (h : b ≠ 0) : (0 : Int) < (Int.gcd t b : Int) := by
  have : 0 < Int.gcd t b := Int.gcd_pos_of_ne_zero_right t h
  omega
theorem low_num {t b : Int} (hb : 0 < b) : t.fdiv (Int.gcd t b) = (Rat.divInt t b).num := by
  rw [Rat.num_divInt, Int.sign_eq_one_of_pos hb, Int.one_mul, Int.gcd_comm b t, Int.fdiv_eq_ediv_of_nonneg _ (by omega)]
theorem low_den {t b : Int} (hb : 0 < b) : b.fdiv (Int.gcd t b) = ((Rat.divInt t b).den : Int) := by
  rw [Rat.den_divInt, if_neg (by omega), Int.gcd_comm b t, Int.fdiv_eq_ediv_of_nonneg _ (by omega), Int.natCast_ediv]
  congr 1
  omega
theorem lowN_num {t b : Int} (hb : b < 0) : t.fdiv (-(Int.gcd t b : Int)) = (Rat.divInt t b).num := by
  have e := Int.neg_fdiv_neg (-t) (Int.gcd t b : Int)
  rw [Int.neg_neg] at e
  rw [e, Rat.num_divInt, Int.sign_eq_neg_one_of_neg hb, Int.gcd_comm b t, Int.fdiv_eq_ediv_of_nonneg _ (by omega), Int.neg_mul, Int.one_mul]
theorem lowN_den {t b : Int} (hb : b < 0) : b.fdiv (-(Int.gcd t b : Int)) = ((Rat.divInt t b).den : Int) := by
  have e := Int.neg_fdiv_neg (-b) (Int.gcd t b : Int)
  rw [Int.neg_neg] at e
  rw [e, Rat.den_divInt, if_neg (by omega), Int.gcd_comm b t, Int.fdiv_eq_ediv_of_nonneg _ (by omega), Int.natCast_ediv]
  congr 1
  omega
/-- top and bottom below 2 ^ n -/
def Bd (n : Nat) (q : Rat) : Prop := q.num.natAbs < 2 ^ n ∧ q.den < 2 ^ n
theorem Bd.mono {n m : Nat} {q : Rat} (h : Bd n q) (l : n ≤ m) : Bd m q :=
  ⟨Nat.lt_of_lt_of_le h.1 (Nat.pow_le_pow_right (by decide) l), Nat.lt_of_lt_of_le h.2 (Nat.pow_le_pow_right (by decide) l)⟩
theorem bd_low {t b : Int} {n : Nat} (ht : t.natAbs < 2 ^ n) (hb : b.natAbs < 2 ^ n) (h : b ≠ 0) : Bd n (Rat.divInt t b) := by
  constructor
  · rw [Rat.num_divInt]
    have h1 : (b.sign * t).natAbs = t.natAbs := by
      rw [Int.natAbs_mul, Int.natAbs_sign_of_ne_zero h, Nat.one_mul]
    have h2 : (b.sign * t / (b.gcd t : Int)).natAbs ≤ (b.sign * t).natAbs := Int.natAbs_ediv_le_natAbs _ _
    omega
  · rw [Rat.den_divInt, if_neg h]
    exact Nat.lt_of_le_of_lt (Nat.div_le_self _ _) hb
theorem den_pos (q : Rat) : (0 : Int) < (q.den : Int) := by
  have := q.den_pos
  omega
theorem den_ne (q : Rat) : (q.den : Int) ≠ 0 := Int.ne_of_gt (den_pos q)
theorem add_eq (a b : Rat) : Rat.divInt (a.num * b.den + b.num * a.den) (a.den * b.den) = a + b := by
  rw [← Rat.divInt_add_divInt _ _ (den_ne a) (den_ne b), Rat.num_divInt_den, Rat.num_divInt_den]
theorem sub_eq (a b : Rat) : Rat.divInt (a.num * b.den - b.num * a.den) (a.den * b.den) = a - b := by
  rw [Rat.sub_def, Rat.normalize_eq_mkRat, ← Int.natCast_mul]
  rfl
theorem mul_eq (a b : Rat) : Rat.divInt (a.num * b.num) (a.den * b.den) = a * b := by
  rw [← Rat.divInt_mul_divInt, Rat.num_divInt_den, Rat.num_divInt_den]
theorem div_eq (a b : Rat) : Rat.divInt (a.num * b.den) (a.den * b.num) = a / b := by
  rw [Rat.div_def, Rat.inv_def, ← Rat.divInt_mul_divInt, Rat.num_divInt_den]
theorem mul_bd {i j : Int} {n m : Nat} (hi : i.natAbs < 2 ^ n) (hj : j.natAbs < 2 ^ m) : (i * j).natAbs < 2 ^ (n + m) := by
  rw [Int.natAbs_mul, Nat.pow_add]
  exact Nat.mul_lt_mul'' hi hj
theorem add_bd {i j : Int} {n : Nat} (hi : i.natAbs < 2 ^ n) (hj : j.natAbs < 2 ^ n) : (i + j).natAbs < 2 ^ (n + 1) := by
  rw [Nat.pow_succ]
  omega
theorem sub_bd {i j : Int} {n : Nat} (hi : i.natAbs < 2 ^ n) (hj : j.natAbs < 2 ^ n) : (i - j).natAbs < 2 ^ (n + 1) := by
  rw [Nat.pow_succ]
  omega
theorem Bd.dn {n : Nat} {q : Rat} (h : Bd n q) : (q.den : Int).natAbs < 2 ^ n := by
  rw [Int.natAbs_natCast]
  exact h.2
theorem up {i : Int} {n m : Nat} (h : i.natAbs < 2 ^ n) (l : n ≤ m) : i.natAbs < 2 ^ m := Nat.lt_of_lt_of_le h (Nat.pow_le_pow_right (by decide) l)
theorem dd_ne (a b : Rat) : (a.den : Int) * (b.den : Int) ≠ 0 := Int.mul_ne_zero (den_ne a) (den_ne b)
theorem bd_add {a b : Rat} {n m : Nat} (ha : Bd n a) (hb : Bd m b) : Bd (n + m + 1) (a + b) := by
  rw [← add_eq]
  refine bd_low ?_ (up (mul_bd ha.dn hb.dn) (Nat.le_succ _)) (dd_ne a b)
  have h2 := mul_bd hb.1 ha.dn
  rw [Nat.add_comm m n] at h2
  exact add_bd (mul_bd ha.1 hb.dn) h2
theorem bd_sub {a b : Rat} {n m : Nat} (ha : Bd n a) (hb : Bd m b) : Bd (n + m + 1) (a - b) := by
  rw [← sub_eq]
  refine bd_low ?_ (up (mul_bd ha.dn hb.dn) (Nat.le_succ _)) (dd_ne a b)
  have h2 := mul_bd hb.1 ha.dn
  rw [Nat.add_comm m n] at h2
  exact sub_bd (mul_bd ha.1 hb.dn) h2
theorem bd_mul {a b : Rat} {n m : Nat} (ha : Bd n a) (hb : Bd m b) : Bd (n + m) (a * b) := by
  rw [← mul_eq]
  exact bd_low (mul_bd ha.1 hb.1) (mul_bd ha.dn hb.dn) (dd_ne a b)
theorem ratio_gcd (q : Rat) : Int.gcd q.num q.den = 1 := by
  have := q.reduced
  rw [Int.gcd, Int.natAbs_natCast]
  exact this
theorem foldl_add (l : List Rat) : ∀ a : Rat, l.foldl (· + ·) a = a + l.sum := by
  induction l with
  | nil => intro a; rw [List.foldl_nil, List.sum_nil, Rat.add_zero]
  | cons x r ih => intro a; rw [List.foldl_cons, ih, List.sum_cons, Rat.add_assoc]
theorem sum_rev (l : List Rat) : l.reverse.sum = l.sum := by
  induction l with
  | nil => rfl
  | cons x r ih => rw [List.reverse_cons, List.sum_append, ih, List.sum_cons, List.sum_cons, List.sum_nil, Rat.add_zero, Rat.add_comm]
theorem div_self' {a : Rat} (h : a ≠ 0) : a / a = 1 := by
  rw [Rat.div_def]
  exact Rat.mul_inv_cancel a h
end Fr

set_option Elab.async false
set_option linter.all false
set_option maxRecDepth 100000
set_option maxHeartbeats 2000000
namespace K2
open PySem PySem.Spec PyProof.Rows L2
/-! ### the text by places -/
def topS (i : Nat) : Stmt := PySem.Challenge.pw_besttelling_k02_fractions_reckoned.main.body.getD i (.Pass ⟨0, 0, 0, 0⟩)
abbrev sDivisor : Stmt := topS 12
abbrev sLowest : Stmt := topS 11
abbrev sLow : Stmt := topS 16
/-! ### // by any number but nought -/
def CDivZ (_ j : Int) : Prop := j ≠ 0 ∧ j.natAbs.log2 < 9000
theorem op_fdivZ {X : Cx} : OpR X (binaryOp .FloorDiv) (rI CDivZ fun i j => .int (i.fdiv j)) := opI fun i j _ _ _ _ _ hc q => floordiv_int hc.1 q (.inl (PyProof.noPylong_of_log2 hc.2))
theorem divZ {i j : Int} {n : Nat} (h : j ≠ 0) (hb : j.natAbs < 2 ^ n) (h0 : 0 < n) (h9 : n ≤ 9000) : CDivZ i j := ⟨h, Nat.lt_of_lt_of_le (PySem.Flt.log2_lt_of h0 hb) h9⟩
theorem same_new {H : Hp} {p : Addr} (h : H p = none) (o : HO) : Same H (upd H p o) := fun b u q => by rw [upd_ne (ne_of_none q h)]; exact q
theorem seqT {K : PySem.W.Frag} {H H' : Hp} {a : Addr} {xs : List V} (e : Same H H') (h : SqT K H a xs) : SqT K H' a xs := by
  rcases h with (h | ⟨o, h⟩) | h
  · exact .inl (.inl (e _ _ h))
  · exact .inl (.inr ⟨o, e _ _ h⟩)
  · exact .inr h
/-- what stands in a fraction's tuple -/
def rp (q : Rat) : List V := [.int q.num, .int (q.den : Int)]
def spDiv : Sp := fun vs H Q _ => ∃ a b : Int, vs = [.int a, .int b] ∧ Q (.int (Int.gcd a b : Int)) H
def spLow : Sp := fun vs H Q _ => ∃ (t b : Int) (n : Nat), vs = [.int t, .int b] ∧ t.natAbs < 2 ^ n ∧ b.natAbs < 2 ^ n ∧ b ≠ 0 ∧ n ≤ 8000 ∧ ∀ p, H p = none → Q (.ref p) (upd H p (.tup (rp (Rat.divInt t b))))
section
variable {P : Program} {w : World} {K : PySem.W.Frag} {mg : Str → Option Value} {base : Heap}
theorem scDiv : FnScope ["one", "other"] ["one", "other"] (defScope sDivisor) := ⟨rfl, rfl, rfl, by decide +kernel, rfl, by decide +kernel, by decide +kernel⟩
theorem ok_div {f : Addr} {fd : FuncData} {k : Nat} (F : Fun K "divisor" "divisor" sDivisor f fd) (mabs : mg "abs" = none) : FnOk P w K mg base CX0 (k + 1) f fd ["one", "other"] spDiv := by
  refine F.ok scDiv (fun vs H Q E h => ?_) (fun cdv A outer s H vs Q E hr h => ?_)
  · obtain ⟨a, b, rfl, _⟩ := h
    rfl
  · obtain ⟨a, b, rfl, q⟩ := h
    refine ⟨_, pss_cons (ps_while PassesOwn.never (pt_cmpR op_ne (pv 1) pe_int (nomark _))
        (pss_one (ps_par (i := 0) (j := 1) (by rfl) scDiv.nd rfl rfl (by decide) rfl rfl (pa_cons (pv 1) (pa_cons (pe_op op_modN (pv 0) (pv 1)) pa_nil)) (by rfl))))
      (pss_one (ps_ret (pe_callB call_abs (by rfl) mabs (by decide +kernel) (pa_cons (pv 0) pa_nil)))), ?_⟩
    refine ⟨fun m σ H' => ∃ x y : Int, σ = [some (.int x), some (.int y)] ∧ m = y.natAbs ∧ Int.gcd x y = Int.gcd a b ∧ H' = H, ⟨_, a, b, rfl, rfl, rfl, rfl⟩, ?_⟩
    rintro m σ H' ⟨x, y, rfl, rfl, hg, rfl⟩
    refine ⟨.int y, rfl, rfl, _, rfl, ite2 (fun c => ?_) (fun c => ?_)⟩
    · have hy : y ≠ 0 := fun e => by
        subst e
        exact absurd c (by decide)
      refine ⟨fun σ' H'' => ∃ x' y' : Int, σ' = [some (.int x'), some (.int y')] ∧ y'.natAbs < y.natAbs ∧ Int.gcd x' y' = Int.gcd a b ∧ H'' = H', ?_, ?_⟩
      · rintro σ' H'' ⟨x', y', e1, e2, e3, e4⟩
        exact ⟨y'.natAbs, e2, x', y', e1, rfl, e3, e4⟩
      · refine ⟨.int y, rfl, .int x, rfl, .int y, rfl, x, y, rfl, rfl, hy, _, _, rfl, y, _, rfl, Fr.fmod_abs x hy, ?_, rfl⟩
        rw [Fr.gcd_step]
        exact hg
    · have hy : y = 0 := by
        by_cases e : y = 0
        · exact e
        · exact absurd (by simp [e]) c
      subst hy
      rw [Int.gcd_zero_right] at hg
      refine ⟨.int x, rfl, x, rfl, ?_⟩
      have e : (if x < 0 then -x else x) = (Int.gcd a b : Int) := by
        rw [← hg]
        split <;> omega
      rw [e]
      exact q
theorem scLowest : FnScope ["top", "bottom", "by"] ["top", "bottom"] (defScope sLowest) := ⟨rfl, rfl, rfl, by decide +kernel, rfl, by decide +kernel, by decide +kernel⟩
theorem gcd_bd {t b : Int} {n : Nat} (h : b ≠ 0) (hb : b.natAbs < 2 ^ n) : (Int.gcd t b : Int).natAbs < 2 ^ n := by
  rw [Int.natAbs_natCast]
  exact Nat.lt_of_le_of_lt (Nat.le_of_dvd (by omega) (Int.gcd_dvd_natAbs_right t b)) hb
theorem ok_lowest {f fD : Addr} {fd fdD : FuncData} (F : Fun K "lowest" "lowest" sLowest f fd) (FD : Fun K "divisor" "divisor" sDivisor fD fdD) (bD : Binds K fdD ["one", "other"] []) (gD : mg "divisor" = some (.ref fD)) (mabs : mg "abs" = none) : FnOk P w K mg base CX0 2 f fd ["top", "bottom"] spLow := by
  have GD : FnOk P w K mg base CX0 1 fD fdD ["one", "other"] spDiv := ok_div FD mabs
  refine F.ok scLowest (fun vs H Q E h => ?_) (fun cdv A outer s H vs Q E hr h => ?_)
  · obtain ⟨a, b, n, rfl, _⟩ := h
    rfl
  · obtain ⟨t, b, n, rfl, ht, hb, h0, hn, q⟩ := h
    refine ⟨_, pss_cons (ps_set (i := 2) scLowest.nd rfl (.inl rfl) (pe_call GD hr (by rfl) gD FD.kp bD .nil pass0 (pa_cons (pv 0) (pa_cons (pv 1) pa_nil))))
      (pss_cons (ps_if (pt_cmpR op_lt (pv 1) pe_int (nomark _)) (pss_one (ps_set (i := 2) scLowest.nd rfl (.inl rfl) (pe_un un_neg (pv 2)))) pss_nil)
      (pss_one (ps_ret (pe_tup (pa_cons (pe_op op_fdivZ (pv 0) (pv 2)) (pa_cons (pe_op op_fdivZ (pv 1) (pv 2)) pa_nil)))))), ?_⟩
    have hg := Fr.gcd_pos (t := t) h0
    have hgb := gcd_bd (t := t) h0 hb
    have hn0 : 0 < n := by
      cases n with
      | zero => simp at hb; omega
      | succ n => omega
    refine ⟨_, rfl, _, rfl, t, b, rfl, ?_⟩
    refine ⟨_, rfl, b, 0, rfl, rfl, _, rfl, ite2 (fun c => ?_) (fun c => ?_)⟩
    · have hb0 : b < 0 := of_decide_eq_true c
      refine ⟨_, rfl, _, rfl, ?_⟩
      have d : ∀ i : Int, CDivZ i (-(Int.gcd t b : Int)) := fun i => divZ (n := n) (by omega) (by rw [Int.natAbs_neg]; exact hgb) hn0 (by omega)
      refine ⟨_, rfl, _, rfl, t, _, rfl, rfl, d _, _, rfl, _, rfl, b, _, rfl, rfl, d _, (by show 2 ≤ sizeLine; decide), fun p hp => ?_⟩
      have z := q p hp
      rw [rp, ← Fr.lowN_num hb0, ← Fr.lowN_den hb0] at z
      exact z
    · have hb0 : 0 < b := by
        have : ¬ b < 0 := of_decide_eq_false (Bool.eq_false_iff.mpr c)
        omega
      have d : ∀ i : Int, CDivZ i (Int.gcd t b : Int) := fun i => divZ (n := n) (by omega) hgb hn0 (by omega)
      refine ⟨_, rfl, _, rfl, t, _, rfl, rfl, d _, _, rfl, _, rfl, b, _, rfl, rfl, d _, (by show 2 ≤ sizeLine; decide), fun p hp => ?_⟩
      have z := q p hp
      rw [rp, ← Fr.low_num hb0, ← Fr.low_den hb0] at z
      exact z
end
end K2

set_option Elab.async false
set_option linter.all false
set_option maxRecDepth 100000
set_option maxHeartbeats 2000000
namespace K2
open PySem PySem.Spec PyProof.Rows L2
abbrev sPlus : Stmt := topS 5
abbrev sMinus : Stmt := topS 6
abbrev sTimes : Stmt := topS 7
abbrev sUnder : Stmt := topS 9
abbrev sLPlus : Stmt := topS 17
abbrev sLLess : Stmt := topS 18
abbrev sLTimes : Stmt := topS 19
abbrev sLUnder : Stmt := topS 20
open Fr (Bd)
theorem wmul {i j : Int} {n m : Nat} (hi : i.natAbs < 2 ^ n) (hj : j.natAbs < 2 ^ m) (h : n + m ≤ 9000) : CMulW i j :=
  wide_mul (a := n + 1) (b := m + 1) (Fr.up hi (Nat.le_succ _)) (Fr.up hj (Nat.le_succ _)) (Nat.succ_pos _) (Nat.succ_pos _) (by omega)
theorem at0 (q : Rat) : atI (rp q) 0 = some (.int q.num) := atI_nat (j := 0) rfl
theorem at1 (q : Rat) : atI (rp q) 1 = some (.int (q.den : Int)) := atI_nat (j := 1) rfl
/-- a fraction made of two -/
def spBin (K : PySem.W.Frag) (g : Rat → Rat → Rat) : Sp := fun vs H Q _ => ∃ (a b : Addr) (x y : Rat) (n m : Nat), vs = [.ref a, .ref b] ∧ SqT K H a (rp x) ∧ SqT K H b (rp y) ∧ Bd n x ∧ Bd m y ∧ n + m ≤ 7000 ∧ ∀ p, H p = none → Q (.ref p) (upd H p (.tup (rp (g x y))))
def spUnder (K : PySem.W.Frag) : Sp := fun vs H Q _ => ∃ (a b : Addr) (x y : Rat) (n m : Nat), vs = [.ref a, .ref b] ∧ SqT K H a (rp x) ∧ SqT K H b (rp y) ∧ Bd n x ∧ Bd m y ∧ n + m ≤ 7000 ∧ Q (.bl (decide (x.num * y.den < y.num * x.den))) H
section
variable {P : Program} {w : World} {K : PySem.W.Frag} {mg : Str → Option Value} {base : Heap}
theorem scLow : FnScope ["_law_top", "_law_bottom", "_law_one", "_law_other"] ["_law_top", "_law_bottom"] (defScope sLow) := ⟨rfl, rfl, rfl, by decide +kernel, rfl, by decide +kernel, by decide +kernel⟩
theorem abs_eq (x : Int) : (if x < 0 then -x else x) = (x.natAbs : Int) := by split <;> omega
theorem ok_low {f : Addr} {fd : FuncData} {k : Nat} (F : Fun K "_law_low" "_law_low" sLow f fd) (mabs : mg "abs" = none) : FnOk P w K mg base CX0 (k + 1) f fd ["_law_top", "_law_bottom"] spLow := by
  refine F.ok scLow (fun vs H Q E h => ?_) (fun cdv A outer s H vs Q E hr h => ?_)
  · obtain ⟨a, b, n, rfl, _⟩ := h
    rfl
  · obtain ⟨t, b, n, rfl, ht, hb, h0, hn, q⟩ := h
    refine ⟨_, pss_cons (ps_set (i := 2) scLow.nd rfl (.inl rfl) (pe_callB call_abs (by rfl) mabs (by decide +kernel) (pa_cons (pv 0) pa_nil)))
      (pss_cons (ps_set (i := 3) scLow.nd rfl (.inl rfl) (pe_callB call_abs (by rfl) mabs (by decide +kernel) (pa_cons (pv 1) pa_nil)))
      (pss_cons (ps_while PassesOwn.never (pt_cmpR op_gt (pv 3) pe_int (nomark _))
        (pss_one (ps_par (i := 2) (j := 3) (by rfl) scLow.nd rfl rfl (by decide) rfl rfl (pa_cons (pv 3) (pa_cons (pe_op op_modN (pv 2) (pv 3)) pa_nil)) (by rfl))))
      (pss_cons (ps_if (pt_cmpR op_lt (pv 1) pe_int (nomark _)) (pss_one (ps_set (i := 2) scLow.nd rfl (.inl rfl) (pe_op op_sub pe_int (pv 2)))) pss_nil)
      (pss_one (ps_ret (pe_tup (pa_cons (pe_op op_fdivZ (pv 0) (pv 2)) (pa_cons (pe_op op_fdivZ (pv 1) (pv 2)) pa_nil)))))))), ?_⟩
    have hg := Fr.gcd_pos (t := t) h0
    have hgb := gcd_bd (t := t) h0 hb
    have hn0 : 0 < n := by
      cases n with
      | zero => simp at hb; omega
      | succ n => omega
    refine ⟨_, rfl, t, rfl, ?_⟩
    refine ⟨_, rfl, b, rfl, ?_⟩
    rw [abs_eq, abs_eq]
    refine ⟨fun m σ H' => ∃ x y : Int, σ = [some (.int t), some (.int b), some (.int x), some (.int y)] ∧ 0 ≤ x ∧ 0 ≤ y ∧ m = y.natAbs ∧ Int.gcd x y = Int.gcd t b ∧ H' = H,
      ⟨_, (t.natAbs : Int), (b.natAbs : Int), rfl, by omega, by omega, rfl, ?_, rfl⟩, ?_⟩
    · rw [Int.gcd, Int.gcd, Int.natAbs_natCast, Int.natAbs_natCast]
    rintro m σ H' ⟨x, y, rfl, hx, hy, rfl, hgg, rfl⟩
    refine ⟨_, rfl, y, 0, rfl, rfl, _, rfl, ite2 (fun c => ?_) (fun c => ?_)⟩
    · have hy0 : 0 < y := of_decide_eq_true c
      refine ⟨fun σ' H'' => ∃ x' y' : Int, σ' = [some (.int t), some (.int b), some (.int x'), some (.int y')] ∧ 0 ≤ x' ∧ 0 ≤ y' ∧ y'.natAbs < y.natAbs ∧ Int.gcd x' y' = Int.gcd t b ∧ H'' = H', ?_, ?_⟩
      · rintro σ' H'' ⟨x', y', e1, e2, e3, e4, e5, e6⟩
        exact ⟨y'.natAbs, e4, x', y', e1, e2, e3, rfl, e5, e6⟩
      · refine ⟨.int y, rfl, .int x, rfl, .int y, rfl, x, y, rfl, rfl, (by omega : y ≠ 0), _, _, rfl, y, _, rfl, hy, Int.fmod_nonneg_of_pos x hy0, Fr.fmod_abs x (by omega), ?_, rfl⟩
        rw [Fr.gcd_step]
        exact hgg
    · have hy0 : y = 0 := by
        have : ¬ 0 < y := of_decide_eq_false (Bool.eq_false_iff.mpr c)
        omega
      subst hy0
      rw [Int.gcd_zero_right] at hgg
      have ex : x = (Int.gcd t b : Int) := by omega
      subst ex
      refine ⟨_, rfl, b, 0, rfl, rfl, _, rfl, ite2 (fun c2 => ?_) (fun c2 => ?_)⟩
      · have hb0 : b < 0 := of_decide_eq_true c2
        refine ⟨_, rfl, 0, _, rfl, rfl, ?_⟩
        have d : ∀ i : Int, CDivZ i (0 - (Int.gcd t b : Int)) := fun i => divZ (n := n) (by omega) (by rw [Int.zero_sub, Int.natAbs_neg]; exact hgb) hn0 (by omega)
        refine ⟨_, rfl, _, rfl, t, _, rfl, rfl, d _, _, rfl, _, rfl, b, _, rfl, rfl, d _, (by show 2 ≤ sizeLine; decide), fun p hp => ?_⟩
        have z := q p hp
        rw [rp, ← Fr.lowN_num hb0, ← Fr.lowN_den hb0] at z
        rw [Int.zero_sub]
        exact z
      · have hb0 : 0 < b := by
          have : ¬ b < 0 := of_decide_eq_false (Bool.eq_false_iff.mpr c2)
          omega
        have d : ∀ i : Int, CDivZ i (Int.gcd t b : Int) := fun i => divZ (n := n) (by omega) hgb hn0 (by omega)
        refine ⟨_, rfl, _, rfl, t, _, rfl, rfl, d _, _, rfl, _, rfl, b, _, rfl, rfl, d _, (by show 2 ≤ sizeLine; decide), fun p hp => ?_⟩
        have z := q p hp
        rw [rp, ← Fr.low_num hb0, ← Fr.low_den hb0] at z
        exact z

theorem scPlus : FnScope ["one", "other"] ["one", "other"] (defScope sPlus) := ⟨rfl, rfl, rfl, by decide +kernel, rfl, by decide +kernel, by decide +kernel⟩
theorem ok_Plus {f fC : Addr} {fd fdC : FuncData} {k : Nat} (F : Fun K "plus" "plus" sPlus f fd) (GC : FnOk P w K mg base CX0 k fC fdC ["top", "bottom"] spLow) (kC : PySem.W.keepIn K (.ref fC) = true) (bC : Binds K fdC ["top", "bottom"] []) (gC : mg "lowest" = some (.ref fC)) :
    FnOk P w K mg base CX0 (k + 1) f fd ["one", "other"] (spBin K (· + ·)) := by
  refine F.ok scPlus (fun vs H Q E h => ?_) (fun cdv A outer s H vs Q E hr h => ?_)
  · obtain ⟨a, b, x, y, n, m, rfl, _⟩ := h
    rfl
  · obtain ⟨a, b, x, y, n, m, rfl, hx, hy, bx, by_, hn, q⟩ := h
    refine ⟨_, pss_one (ps_ret (pe_call GC hr (by rfl) gC kC bC .nil pass0 (pa_cons (pe_op op_add (pe_op op_mulW (pe_ix ix_tup (pv 0) pe_int (fun _ _ => rfl)) (pe_ix ix_tup (pv 1) pe_int (fun _ _ => rfl))) (pe_op op_mulW (pe_ix ix_tup (pv 1) pe_int (fun _ _ => rfl)) (pe_ix ix_tup (pv 0) pe_int (fun _ _ => rfl)))) (pa_cons (pe_op op_mulW (pe_ix ix_tup (pv 0) pe_int (fun _ _ => rfl)) (pe_ix ix_tup (pv 1) pe_int (fun _ _ => rfl))) pa_nil)))), ?_⟩
    refine ⟨.ref a, rfl, a, rp x, 0, .int x.num, rfl, rfl, hx, at0 x, .ref b, rfl, b, rp y, 1, .int (y.den : Int), rfl, rfl, hy, at1 y, _, _, rfl, rfl, wmul bx.1 by_.dn (by omega), .ref b, rfl, b, rp y, 0, .int y.num, rfl, rfl, hy, at0 y, .ref a, rfl, a, rp x, 1, .int (x.den : Int), rfl, rfl, hx, at1 x, _, _, rfl, rfl, wmul by_.1 bx.dn (by omega), _, _, rfl, rfl, .ref a, rfl, a, rp x, 1, .int (x.den : Int), rfl, rfl, hx, at1 x, .ref b, rfl, b, rp y, 1, .int (y.den : Int), rfl, rfl, hy, at1 y, _, _, rfl, rfl, wmul bx.dn by_.dn (by omega), _, _, n + m + 1, rfl, Fr.add_bd (Fr.mul_bd bx.1 by_.dn) (by rw [Nat.add_comm n m]; exact Fr.mul_bd by_.1 bx.dn), Fr.up (Fr.mul_bd bx.dn by_.dn) (Nat.le_succ _), Fr.dd_ne x y, by omega, fun p hp => ?_⟩
    have z := q p hp
    rw [Fr.add_eq]
    exact z

theorem scMinus : FnScope ["one", "other"] ["one", "other"] (defScope sMinus) := ⟨rfl, rfl, rfl, by decide +kernel, rfl, by decide +kernel, by decide +kernel⟩
theorem ok_Minus {f fC : Addr} {fd fdC : FuncData} {k : Nat} (F : Fun K "minus" "minus" sMinus f fd) (GC : FnOk P w K mg base CX0 k fC fdC ["top", "bottom"] spLow) (kC : PySem.W.keepIn K (.ref fC) = true) (bC : Binds K fdC ["top", "bottom"] []) (gC : mg "lowest" = some (.ref fC)) :
    FnOk P w K mg base CX0 (k + 1) f fd ["one", "other"] (spBin K (· - ·)) := by
  refine F.ok scMinus (fun vs H Q E h => ?_) (fun cdv A outer s H vs Q E hr h => ?_)
  · obtain ⟨a, b, x, y, n, m, rfl, _⟩ := h
    rfl
  · obtain ⟨a, b, x, y, n, m, rfl, hx, hy, bx, by_, hn, q⟩ := h
    refine ⟨_, pss_one (ps_ret (pe_call GC hr (by rfl) gC kC bC .nil pass0 (pa_cons (pe_op op_sub (pe_op op_mulW (pe_ix ix_tup (pv 0) pe_int (fun _ _ => rfl)) (pe_ix ix_tup (pv 1) pe_int (fun _ _ => rfl))) (pe_op op_mulW (pe_ix ix_tup (pv 1) pe_int (fun _ _ => rfl)) (pe_ix ix_tup (pv 0) pe_int (fun _ _ => rfl)))) (pa_cons (pe_op op_mulW (pe_ix ix_tup (pv 0) pe_int (fun _ _ => rfl)) (pe_ix ix_tup (pv 1) pe_int (fun _ _ => rfl))) pa_nil)))), ?_⟩
    refine ⟨.ref a, rfl, a, rp x, 0, .int x.num, rfl, rfl, hx, at0 x, .ref b, rfl, b, rp y, 1, .int (y.den : Int), rfl, rfl, hy, at1 y, _, _, rfl, rfl, wmul bx.1 by_.dn (by omega), .ref b, rfl, b, rp y, 0, .int y.num, rfl, rfl, hy, at0 y, .ref a, rfl, a, rp x, 1, .int (x.den : Int), rfl, rfl, hx, at1 x, _, _, rfl, rfl, wmul by_.1 bx.dn (by omega), _, _, rfl, rfl, .ref a, rfl, a, rp x, 1, .int (x.den : Int), rfl, rfl, hx, at1 x, .ref b, rfl, b, rp y, 1, .int (y.den : Int), rfl, rfl, hy, at1 y, _, _, rfl, rfl, wmul bx.dn by_.dn (by omega), _, _, n + m + 1, rfl, Fr.sub_bd (Fr.mul_bd bx.1 by_.dn) (by rw [Nat.add_comm n m]; exact Fr.mul_bd by_.1 bx.dn), Fr.up (Fr.mul_bd bx.dn by_.dn) (Nat.le_succ _), Fr.dd_ne x y, by omega, fun p hp => ?_⟩
    have z := q p hp
    rw [Fr.sub_eq]
    exact z

theorem scTimes : FnScope ["one", "other"] ["one", "other"] (defScope sTimes) := ⟨rfl, rfl, rfl, by decide +kernel, rfl, by decide +kernel, by decide +kernel⟩
theorem ok_Times {f fC : Addr} {fd fdC : FuncData} {k : Nat} (F : Fun K "times" "times" sTimes f fd) (GC : FnOk P w K mg base CX0 k fC fdC ["top", "bottom"] spLow) (kC : PySem.W.keepIn K (.ref fC) = true) (bC : Binds K fdC ["top", "bottom"] []) (gC : mg "lowest" = some (.ref fC)) :
    FnOk P w K mg base CX0 (k + 1) f fd ["one", "other"] (spBin K (· * ·)) := by
  refine F.ok scTimes (fun vs H Q E h => ?_) (fun cdv A outer s H vs Q E hr h => ?_)
  · obtain ⟨a, b, x, y, n, m, rfl, _⟩ := h
    rfl
  · obtain ⟨a, b, x, y, n, m, rfl, hx, hy, bx, by_, hn, q⟩ := h
    refine ⟨_, pss_one (ps_ret (pe_call GC hr (by rfl) gC kC bC .nil pass0 (pa_cons (pe_op op_mulW (pe_ix ix_tup (pv 0) pe_int (fun _ _ => rfl)) (pe_ix ix_tup (pv 1) pe_int (fun _ _ => rfl))) (pa_cons (pe_op op_mulW (pe_ix ix_tup (pv 0) pe_int (fun _ _ => rfl)) (pe_ix ix_tup (pv 1) pe_int (fun _ _ => rfl))) pa_nil)))), ?_⟩
    refine ⟨.ref a, rfl, a, rp x, 0, .int x.num, rfl, rfl, hx, at0 x, .ref b, rfl, b, rp y, 0, .int y.num, rfl, rfl, hy, at0 y, _, _, rfl, rfl, wmul bx.1 by_.1 (by omega), .ref a, rfl, a, rp x, 1, .int (x.den : Int), rfl, rfl, hx, at1 x, .ref b, rfl, b, rp y, 1, .int (y.den : Int), rfl, rfl, hy, at1 y, _, _, rfl, rfl, wmul bx.dn by_.dn (by omega), _, _, n + m, rfl, Fr.mul_bd bx.1 by_.1, Fr.mul_bd bx.dn by_.dn, Fr.dd_ne x y, by omega, fun p hp => ?_⟩
    have z := q p hp
    rw [Fr.mul_eq]
    exact z

theorem scLPlus : FnScope ["_law_one", "_law_other"] ["_law_one", "_law_other"] (defScope sLPlus) := ⟨rfl, rfl, rfl, by decide +kernel, rfl, by decide +kernel, by decide +kernel⟩
theorem ok_LPlus {f fC : Addr} {fd fdC : FuncData} {k : Nat} (F : Fun K "_law_plus" "_law_plus" sLPlus f fd) (GC : FnOk P w K mg base CX0 k fC fdC ["_law_top", "_law_bottom"] spLow) (kC : PySem.W.keepIn K (.ref fC) = true) (bC : Binds K fdC ["_law_top", "_law_bottom"] []) (gC : mg "_law_low" = some (.ref fC)) :
    FnOk P w K mg base CX0 (k + 1) f fd ["_law_one", "_law_other"] (spBin K (· + ·)) := by
  refine F.ok scLPlus (fun vs H Q E h => ?_) (fun cdv A outer s H vs Q E hr h => ?_)
  · obtain ⟨a, b, x, y, n, m, rfl, _⟩ := h
    rfl
  · obtain ⟨a, b, x, y, n, m, rfl, hx, hy, bx, by_, hn, q⟩ := h
    refine ⟨_, pss_one (ps_ret (pe_call GC hr (by rfl) gC kC bC .nil pass0 (pa_cons (pe_op op_add (pe_op op_mulW (pe_ix ix_tup (pv 0) pe_int (fun _ _ => rfl)) (pe_ix ix_tup (pv 1) pe_int (fun _ _ => rfl))) (pe_op op_mulW (pe_ix ix_tup (pv 1) pe_int (fun _ _ => rfl)) (pe_ix ix_tup (pv 0) pe_int (fun _ _ => rfl)))) (pa_cons (pe_op op_mulW (pe_ix ix_tup (pv 0) pe_int (fun _ _ => rfl)) (pe_ix ix_tup (pv 1) pe_int (fun _ _ => rfl))) pa_nil)))), ?_⟩
    refine ⟨.ref a, rfl, a, rp x, 0, .int x.num, rfl, rfl, hx, at0 x, .ref b, rfl, b, rp y, 1, .int (y.den : Int), rfl, rfl, hy, at1 y, _, _, rfl, rfl, wmul bx.1 by_.dn (by omega), .ref b, rfl, b, rp y, 0, .int y.num, rfl, rfl, hy, at0 y, .ref a, rfl, a, rp x, 1, .int (x.den : Int), rfl, rfl, hx, at1 x, _, _, rfl, rfl, wmul by_.1 bx.dn (by omega), _, _, rfl, rfl, .ref a, rfl, a, rp x, 1, .int (x.den : Int), rfl, rfl, hx, at1 x, .ref b, rfl, b, rp y, 1, .int (y.den : Int), rfl, rfl, hy, at1 y, _, _, rfl, rfl, wmul bx.dn by_.dn (by omega), _, _, n + m + 1, rfl, Fr.add_bd (Fr.mul_bd bx.1 by_.dn) (by rw [Nat.add_comm n m]; exact Fr.mul_bd by_.1 bx.dn), Fr.up (Fr.mul_bd bx.dn by_.dn) (Nat.le_succ _), Fr.dd_ne x y, by omega, fun p hp => ?_⟩
    have z := q p hp
    rw [Fr.add_eq]
    exact z

theorem scLLess : FnScope ["_law_one", "_law_other"] ["_law_one", "_law_other"] (defScope sLLess) := ⟨rfl, rfl, rfl, by decide +kernel, rfl, by decide +kernel, by decide +kernel⟩
theorem ok_LLess {f fC : Addr} {fd fdC : FuncData} {k : Nat} (F : Fun K "_law_less" "_law_less" sLLess f fd) (GC : FnOk P w K mg base CX0 k fC fdC ["_law_top", "_law_bottom"] spLow) (kC : PySem.W.keepIn K (.ref fC) = true) (bC : Binds K fdC ["_law_top", "_law_bottom"] []) (gC : mg "_law_low" = some (.ref fC)) :
    FnOk P w K mg base CX0 (k + 1) f fd ["_law_one", "_law_other"] (spBin K (· - ·)) := by
  refine F.ok scLLess (fun vs H Q E h => ?_) (fun cdv A outer s H vs Q E hr h => ?_)
  · obtain ⟨a, b, x, y, n, m, rfl, _⟩ := h
    rfl
  · obtain ⟨a, b, x, y, n, m, rfl, hx, hy, bx, by_, hn, q⟩ := h
    refine ⟨_, pss_one (ps_ret (pe_call GC hr (by rfl) gC kC bC .nil pass0 (pa_cons (pe_op op_sub (pe_op op_mulW (pe_ix ix_tup (pv 0) pe_int (fun _ _ => rfl)) (pe_ix ix_tup (pv 1) pe_int (fun _ _ => rfl))) (pe_op op_mulW (pe_ix ix_tup (pv 1) pe_int (fun _ _ => rfl)) (pe_ix ix_tup (pv 0) pe_int (fun _ _ => rfl)))) (pa_cons (pe_op op_mulW (pe_ix ix_tup (pv 0) pe_int (fun _ _ => rfl)) (pe_ix ix_tup (pv 1) pe_int (fun _ _ => rfl))) pa_nil)))), ?_⟩
    refine ⟨.ref a, rfl, a, rp x, 0, .int x.num, rfl, rfl, hx, at0 x, .ref b, rfl, b, rp y, 1, .int (y.den : Int), rfl, rfl, hy, at1 y, _, _, rfl, rfl, wmul bx.1 by_.dn (by omega), .ref b, rfl, b, rp y, 0, .int y.num, rfl, rfl, hy, at0 y, .ref a, rfl, a, rp x, 1, .int (x.den : Int), rfl, rfl, hx, at1 x, _, _, rfl, rfl, wmul by_.1 bx.dn (by omega), _, _, rfl, rfl, .ref a, rfl, a, rp x, 1, .int (x.den : Int), rfl, rfl, hx, at1 x, .ref b, rfl, b, rp y, 1, .int (y.den : Int), rfl, rfl, hy, at1 y, _, _, rfl, rfl, wmul bx.dn by_.dn (by omega), _, _, n + m + 1, rfl, Fr.sub_bd (Fr.mul_bd bx.1 by_.dn) (by rw [Nat.add_comm n m]; exact Fr.mul_bd by_.1 bx.dn), Fr.up (Fr.mul_bd bx.dn by_.dn) (Nat.le_succ _), Fr.dd_ne x y, by omega, fun p hp => ?_⟩
    have z := q p hp
    rw [Fr.sub_eq]
    exact z

theorem scLTimes : FnScope ["_law_one", "_law_other"] ["_law_one", "_law_other"] (defScope sLTimes) := ⟨rfl, rfl, rfl, by decide +kernel, rfl, by decide +kernel, by decide +kernel⟩
theorem ok_LTimes {f fC : Addr} {fd fdC : FuncData} {k : Nat} (F : Fun K "_law_times" "_law_times" sLTimes f fd) (GC : FnOk P w K mg base CX0 k fC fdC ["_law_top", "_law_bottom"] spLow) (kC : PySem.W.keepIn K (.ref fC) = true) (bC : Binds K fdC ["_law_top", "_law_bottom"] []) (gC : mg "_law_low" = some (.ref fC)) :
    FnOk P w K mg base CX0 (k + 1) f fd ["_law_one", "_law_other"] (spBin K (· * ·)) := by
  refine F.ok scLTimes (fun vs H Q E h => ?_) (fun cdv A outer s H vs Q E hr h => ?_)
  · obtain ⟨a, b, x, y, n, m, rfl, _⟩ := h
    rfl
  · obtain ⟨a, b, x, y, n, m, rfl, hx, hy, bx, by_, hn, q⟩ := h
    refine ⟨_, pss_one (ps_ret (pe_call GC hr (by rfl) gC kC bC .nil pass0 (pa_cons (pe_op op_mulW (pe_ix ix_tup (pv 0) pe_int (fun _ _ => rfl)) (pe_ix ix_tup (pv 1) pe_int (fun _ _ => rfl))) (pa_cons (pe_op op_mulW (pe_ix ix_tup (pv 0) pe_int (fun _ _ => rfl)) (pe_ix ix_tup (pv 1) pe_int (fun _ _ => rfl))) pa_nil)))), ?_⟩
    refine ⟨.ref a, rfl, a, rp x, 0, .int x.num, rfl, rfl, hx, at0 x, .ref b, rfl, b, rp y, 0, .int y.num, rfl, rfl, hy, at0 y, _, _, rfl, rfl, wmul bx.1 by_.1 (by omega), .ref a, rfl, a, rp x, 1, .int (x.den : Int), rfl, rfl, hx, at1 x, .ref b, rfl, b, rp y, 1, .int (y.den : Int), rfl, rfl, hy, at1 y, _, _, rfl, rfl, wmul bx.dn by_.dn (by omega), _, _, n + m, rfl, Fr.mul_bd bx.1 by_.1, Fr.mul_bd bx.dn by_.dn, Fr.dd_ne x y, by omega, fun p hp => ?_⟩
    have z := q p hp
    rw [Fr.mul_eq]
    exact z

theorem scUnder : FnScope ["one", "other"] ["one", "other"] (defScope sUnder) := ⟨rfl, rfl, rfl, by decide +kernel, rfl, by decide +kernel, by decide +kernel⟩
theorem ok_Under {f : Addr} {fd : FuncData} {k : Nat} (F : Fun K "under" "under" sUnder f fd) : FnOk P w K mg base CX0 (k + 1) f fd ["one", "other"] (spUnder K) := by
  refine F.ok scUnder (fun vs H Q E h => ?_) (fun cdv A outer s H vs Q E hr h => ?_)
  · obtain ⟨a, b, x, y, n, m, rfl, _⟩ := h
    rfl
  · obtain ⟨a, b, x, y, n, m, rfl, hx, hy, bx, by_, hn, q⟩ := h
    refine ⟨_, pss_one (ps_ret (pe_cmpR op_lt (pe_op op_mulW (pe_ix ix_tup (pv 0) pe_int (fun _ _ => rfl)) (pe_ix ix_tup (pv 1) pe_int (fun _ _ => rfl))) (pe_op op_mulW (pe_ix ix_tup (pv 1) pe_int (fun _ _ => rfl)) (pe_ix ix_tup (pv 0) pe_int (fun _ _ => rfl))) (nomark _))), ?_⟩
    exact ⟨.ref a, rfl, a, rp x, 0, .int x.num, rfl, rfl, hx, at0 x, .ref b, rfl, b, rp y, 1, .int (y.den : Int), rfl, rfl, hy, at1 y, _, _, rfl, rfl, wmul bx.1 by_.dn (by omega), .ref b, rfl, b, rp y, 0, .int y.num, rfl, rfl, hy, at0 y, .ref a, rfl, a, rp x, 1, .int (x.den : Int), rfl, rfl, hx, at1 x, _, _, rfl, rfl, wmul by_.1 bx.dn (by omega), _, _, rfl, rfl, q⟩

theorem scLUnder : FnScope ["_law_one", "_law_other"] ["_law_one", "_law_other"] (defScope sLUnder) := ⟨rfl, rfl, rfl, by decide +kernel, rfl, by decide +kernel, by decide +kernel⟩
theorem ok_LUnder {f : Addr} {fd : FuncData} {k : Nat} (F : Fun K "_law_under" "_law_under" sLUnder f fd) : FnOk P w K mg base CX0 (k + 1) f fd ["_law_one", "_law_other"] (spUnder K) := by
  refine F.ok scLUnder (fun vs H Q E h => ?_) (fun cdv A outer s H vs Q E hr h => ?_)
  · obtain ⟨a, b, x, y, n, m, rfl, _⟩ := h
    rfl
  · obtain ⟨a, b, x, y, n, m, rfl, hx, hy, bx, by_, hn, q⟩ := h
    refine ⟨_, pss_one (ps_ret (pe_cmpR op_lt (pe_op op_mulW (pe_ix ix_tup (pv 0) pe_int (fun _ _ => rfl)) (pe_ix ix_tup (pv 1) pe_int (fun _ _ => rfl))) (pe_op op_mulW (pe_ix ix_tup (pv 1) pe_int (fun _ _ => rfl)) (pe_ix ix_tup (pv 0) pe_int (fun _ _ => rfl))) (nomark _))), ?_⟩
    exact ⟨.ref a, rfl, a, rp x, 0, .int x.num, rfl, rfl, hx, at0 x, .ref b, rfl, b, rp y, 1, .int (y.den : Int), rfl, rfl, hy, at1 y, _, _, rfl, rfl, wmul bx.1 by_.dn (by omega), .ref b, rfl, b, rp y, 0, .int y.num, rfl, rfl, hy, at0 y, .ref a, rfl, a, rp x, 1, .int (x.den : Int), rfl, rfl, hx, at1 x, _, _, rfl, rfl, wmul by_.1 bx.dn (by omega), _, _, rfl, rfl, q⟩
end
end K2

set_option Elab.async false
set_option linter.all false
set_option maxRecDepth 100000
set_option maxHeartbeats 2000000
namespace K2
open PySem PySem.Spec PyProof.Rows L2
open Fr (Bd)
abbrev sWhole : Stmt := topS 3
abbrev sIsR : Stmt := topS 4
abbrev sTotal : Stmt := topS 10
def spWhole (K : PySem.W.Frag) : Sp := fun vs H Q _ => ∃ i : Int, vs = [.int i] ∧ Q (.bl true) H
def spIsR (K : PySem.W.Frag) : Sp := fun vs H Q _ => ∃ (a : Addr) (q : Rat), vs = [.ref a] ∧ SqT K H a (rp q) ∧ Q (.bl true) H
theorem tyT {K : PySem.W.Frag} {H : Hp} {a : Addr} {xs : List V} (h : SqT K H a xs) : TyX K H (.ref a) (.type "tuple") := by
  rcases h with (h | ⟨o, h⟩) | ⟨o, its, n, e, c, _⟩
  · exact .base (.tup h)
  · exact .fTuple h
  · exact .kTuple e c
section
variable {P : Program} {w : World} {K : PySem.W.Frag} {mg : Str → Option Value} {base : Heap}
/-- what the module leaves of the built-in names -/
structure Blt (mg : Str → Option Value) : Prop where
  abs : mg "abs" = none
  isi : mg "isinstance" = none
  int : mg "int" = none
  bool : mg "bool" = none
  tuple : mg "tuple" = none
  list : mg "list" = none
  len : mg "len" = none
  range : mg "range" = none
  zd : mg "ZeroDivisionError" = none
theorem scWhole : FnScope ["thing"] ["thing"] (defScope sWhole) := ⟨rfl, rfl, rfl, by decide +kernel, rfl, by decide +kernel, by decide +kernel⟩
theorem ok_whole {f : Addr} {fd : FuncData} {k : Nat} (F : Fun K "is_whole" "is_whole" sWhole f fd) (B : Blt mg) : FnOk P w K mg base CX0 (k + 1) f fd ["thing"] (spWhole K) := by
  refine F.ok scWhole (fun vs H Q E h => ?_) (fun cdv A outer s H vs Q E hr h => ?_)
  · obtain ⟨i, rfl, _⟩ := h
    rfl
  · obtain ⟨i, rfl, q⟩ := h
    refine ⟨_, pss_one (ps_ret (pe_and (pe_callB call_isi (by rfl) B.isi (by decide +kernel) (pa_cons (pv 0) (pa_cons (pe_bltn (v := .ty "int") (by rfl) B.int (by decide +kernel) rfl) pa_nil)))
      (pe_one (pe_not (pe_callB call_isi (by rfl) B.isi (by decide +kernel) (pa_cons (pv 0) (pa_cons (pe_bltn (v := .ty "bool") (by rfl) B.bool (by decide +kernel) rfl) pa_nil))))))), ?_⟩
    refine ⟨_, rfl, _, _, _, _, true, rfl, .ty "int", .base (.int i), kit_ty (by decide +kernel), _, rfl, iteT ?_⟩
    refine ⟨_, rfl, _, _, _, _, false, rfl, .ty "bool", .base (.int i), kit_ty (by decide +kernel), _, rfl, ?_⟩
    exact q
theorem scIsR : FnScope ["thing", "top", "bottom"] ["thing"] (defScope sIsR) := ⟨rfl, rfl, rfl, by decide +kernel, rfl, by decide +kernel, by decide +kernel⟩
theorem ok_isr {f fW fD : Addr} {fd fdW fdD : FuncData} {k : Nat} (F : Fun K "is_ratio" "is_ratio" sIsR f fd) (GW : FnOk P w K mg base CX0 k fW fdW ["thing"] (spWhole K)) (kW : PySem.W.keepIn K (.ref fW) = true) (bW : Binds K fdW ["thing"] []) (gW : mg "is_whole" = some (.ref fW))
    (GD : FnOk P w K mg base CX0 k fD fdD ["one", "other"] spDiv) (kD : PySem.W.keepIn K (.ref fD) = true) (bD : Binds K fdD ["one", "other"] []) (gD : mg "divisor" = some (.ref fD)) (B : Blt mg) : FnOk P w K mg base CX0 (k + 1) f fd ["thing"] (spIsR K) := by
  refine F.ok scIsR (fun vs H Q E h => ?_) (fun cdv A outer s H vs Q E hr h => ?_)
  · obtain ⟨a, r, rfl, _⟩ := h
    rfl
  · obtain ⟨a, r, rfl, ha, q⟩ := h
    refine ⟨_, pss_cons (ps_if (PW.pt (pw_or (pt_not (pt_val (pe_callB call_isi (by rfl) B.isi (by decide +kernel) (pa_cons (pv 0) (pa_cons (pe_bltn (v := .ty "tuple") (by rfl) B.tuple (by decide +kernel) rfl) pa_nil)))))
          (pw_or1 (pt_cmpR op_ne (pe_callB call_len_seq (by rfl) B.len PySem.boot_len (pa_cons (pv 0) pa_nil)) pe_int (nomark _))))) (pss_one (ps_ret pe_bl)) pss_nil)
      (pss_cons (ps_asg (pv 0) (pg_tup (by rfl) (pgs_cons (pg_name (i := 1) scIsR.nd rfl (.inl rfl)) (pgs_cons (pg_name (i := 2) scIsR.nd rfl (.inl rfl)) pgs_nil))))
      (pss_cons (ps_if (PW.pt (pw_or (pt_not (pt_val (pe_call GW hr (by rfl) gW kW bW .nil pass0 (pa_cons (pv 1) pa_nil))))
          (pw_or1 (pt_not (pt_val (pe_call GW hr (by rfl) gW kW bW .nil pass0 (pa_cons (pv 2) pa_nil))))))) (pss_one (ps_ret pe_bl)) pss_nil)
      (pss_one (ps_ret (pe_and (pe_cmpR op_ge (pv 2) pe_int (nomark _)) (pe_one (pe_cmpR op_eq (pe_call GD hr (by rfl) gD kD bD .nil pass0 (pa_cons (pv 1) (pa_cons (pv 2) pa_nil))) pe_int (nomark _)))))))), ?_⟩
    refine ⟨_, rfl, _, _, _, _, true, rfl, .ty "tuple", tyT ha, kit_ty (by decide +kernel), _, rfl, iteF ?_⟩
    refine ⟨_, rfl, a, rp r, rfl, .inr ha, rfl, _, rfl, ?_⟩
    refine iteF ?_
    refine ⟨_, rfl, a, rp r, rfl, ha, rfl, _, _, rfl, _, _, rfl, rfl, ?_⟩
    refine ⟨_, rfl, _, rfl, true, rfl, iteF ?_⟩
    refine ⟨_, rfl, _, rfl, true, rfl, iteF ?_⟩
    have hd := Fr.den_pos r
    refine ⟨_, rfl, _, _, rfl, rfl, _, rfl, ?_⟩
    rw [if_pos (decide_eq_true (by omega))]
    refine ⟨_, rfl, _, rfl, _, _, rfl, rfl, ?_⟩
    rw [Fr.ratio_gcd]
    exact q
end
end K2

set_option Elab.async false
set_option linter.all false
set_option maxRecDepth 100000
set_option maxHeartbeats 2000000
namespace K2
open PySem PySem.Spec PyProof.Rows L2
open Fr (Bd)
abbrev sLeft : Stmt := topS 14
abbrev sDigit : Stmt := topS 15
abbrev sSome : Stmt := topS 21
/-- a list of fractions: its items, and what they are worth -/
structure FrL (K : PySem.W.Frag) (H : Hp) (refs : List V) (qs : List Rat) : Prop where
  len : refs.length = qs.length
  at_ : ∀ (i : Nat) (v : V), refs[i]? = some v → ∃ (a : Addr) (q : Rat), qs[i]? = some q ∧ v = .ref a ∧ SqT K H a (rp q) ∧ Bd 100 q
theorem FrL.keep {K : PySem.W.Frag} {H H' : Hp} {refs : List V} {qs : List Rat} (h : FrL K H refs qs) (k : ∀ a xs, SqT K H a xs → SqT K H' a xs) : FrL K H' refs qs :=
  ⟨h.len, fun i v e => let ⟨a, q, e1, e2, e3, e4⟩ := h.at_ i v e; ⟨a, q, e1, e2, k _ _ e3, e4⟩⟩
theorem FrL.same {K : PySem.W.Frag} {H H' : Hp} {refs : List V} {qs : List Rat} (h : FrL K H refs qs) (e : Same H H') : FrL K H' refs qs := h.keep fun _ _ => seqT e
theorem FrL.nil {K : PySem.W.Frag} {H : Hp} : FrL K H [] [] := ⟨rfl, fun i v e => by simp at e⟩
theorem FrL.snoc {K : PySem.W.Frag} {H : Hp} {refs : List V} {qs : List Rat} {a : Addr} {q : Rat} (h : FrL K H refs qs) (ha : SqT K H a (rp q)) (hb : Bd 100 q) : FrL K H (refs ++ [.ref a]) (qs ++ [q]) := by
  refine ⟨by rw [List.length_append, List.length_append, h.len]; rfl, fun i v e => ?_⟩
  by_cases hi : i < refs.length
  · rw [List.getElem?_append_left hi] at e
    obtain ⟨a', q', e1, e2, e3, e4⟩ := h.at_ i v e
    exact ⟨a', q', by rw [List.getElem?_append_left (by rw [← h.len]; exact hi)]; exact e1, e2, e3, e4⟩
  · rw [List.getElem?_append_right (by omega)] at e
    have e0 : i - refs.length = 0 := by
      cases z : i - refs.length with
      | zero => rfl
      | succ j => rw [z] at e; simp at e
    rw [e0] at e
    have ev : (V.ref a) = v := Option.some.inj e
    refine ⟨a, q, ?_, ev.symm, ha, hb⟩
    rw [List.getElem?_append_right (by rw [← h.len]; omega), ← h.len, e0]
    rfl
theorem keep_lst {K : PySem.W.Frag} {H : Hp} {l : Addr} {ys zs : List V} (hl : H l = some (.lst ys)) : ∀ a xs, SqT K H a xs → SqT K (upd H l (.lst zs)) a xs := fun a xs h => by
  rcases h with (h | ⟨o, h⟩) | h
  · exact .inl (.inl (by rw [upd_ne (ne_of h hl (by intro z; cases z))]; exact h))
  · exact .inl (.inr ⟨o, by rw [upd_ne (ne_of h hl (by intro z; cases z))]; exact h⟩)
  · exact .inr h
theorem sum_snoc {qs : List Rat} {i : Nat} {q : Rat} (h : qs[i]? = some q) : (qs.take (i + 1)).sum = (qs.take i).sum + q := by
  rw [List.take_add_one, h, List.sum_append]
  show _ + ([q] : List Rat).sum = _
  rw [List.sum_cons, List.sum_nil, Rat.add_zero]
def spTotal (K : PySem.W.Frag) : Sp := fun vs H Q _ => ∃ (l : Addr) (sv : V) (refs : List V) (qs : List Rat) (x0 : Rat) (n0 : Nat), vs = [.ref l, sv] ∧ SqL K H l refs ∧ FrL K H refs qs ∧ qs.length ≤ 20 ∧ Bd n0 x0 ∧ n0 ≤ 1000 ∧
  ((sv = .non ∧ x0 = 0) ∨ ∃ b, sv = .ref b ∧ SqT K H b (rp x0)) ∧ ∀ r H', Same H H' → SqT K H' r (rp (x0 + qs.sum)) → Q (.ref r) H'
def spLeft : Sp := fun vs H Q _ => ∃ c : Int, vs = [.int c] ∧ ∀ p n, H p = none → Q (.ref p) (upd H p (.lst [.int n]))
def spDigit : Sp := fun vs H Q _ => ∃ (l : Addr) (n m : Int), vs = [.ref l, .int m] ∧ H l = some (.lst [.int n]) ∧ 0 < m ∧ m.natAbs < 2 ^ 100 ∧ ∀ d n' : Int, 0 ≤ d → d < m → Q (.int d) (upd H l (.lst [.int n']))
section
variable {P : Program} {w : World} {K : PySem.W.Frag} {mg : Str → Option Value} {base : Heap}
theorem scTotal : FnScope ["some", "start", "whole", "one"] ["some", "start"] (defScope sTotal) := ⟨rfl, rfl, rfl, by decide +kernel, rfl, by decide +kernel, by decide +kernel⟩
theorem ok_total {f fP : Addr} {fd fdP : FuncData} {k : Nat} (F : FunD K "total" "total" (defArgs sTotal) (defBody sTotal) (defScope sTotal) [.non] [] f fd) (GP : FnOk P w K mg base CX0 k fP fdP ["one", "other"] (spBin K (· + ·))) (kP : PySem.W.keepIn K (.ref fP) = true) (bP : Binds K fdP ["one", "other"] []) (gP : mg "plus" = some (.ref fP)) :
    FnOk P w K mg base CX0 (k + 1) f fd ["some", "start"] (spTotal K) := by
  refine F.ok scTotal (fun vs H Q E h => ?_) (fun cdv A outer s H vs Q E hr h => ?_)
  · obtain ⟨l, sv, refs, qs, x0, n0, rfl, _⟩ := h
    rfl
  · obtain ⟨l, sv, refs, qs, x0, n0, rfl, hl, hf, hlen, hb, hn, hs, q⟩ := h
    refine ⟨_, PSs.nox (pss_cons (ps_set (i := 2) scTotal.nd rfl (.inl rfl) (pe_ifExp (pt_cmpR op_isN (pv 1) pe_non (nomark _)) (pe_tup (pa_cons pe_int (pa_cons pe_int pa_nil))) (pv 1)))
      (pss_cons (ps_for PassesOwn.never rfl (pi_list (pv 0)) (pg_name (i := 3) scTotal.nd rfl (.inl rfl)) (pss_one (ps_set (i := 2) scTotal.nd rfl (.inl rfl) (pe_call GP hr (by rfl) gP kP bP .nil pass0 (pa_cons (pv 2) (pa_cons (pv 3) pa_nil))))))
      (pss_one (ps_ret (pv 2))))), ?_⟩
    -- the loop, from whatever the first whole is
    have go : ∀ (c : Addr) (H1 : Hp), Same H H1 → SqT K H1 c (rp x0) → tSeq (tFor (iList K (tVar 0)) (gName 3) (tAsg (tCall (spBin K (· + ·)) [] E0 (tCons (tVar 2) (tCons (tVar 3) tNil))) (gName 2))) (tRet (tVar 2)) { nx := fun _ H' => Q .non H', rt := Q } [some (.ref l), some sv, some (.ref c), none] H1 := by
      intro c H1 s1 hc
      refine ⟨_, rfl, l, rfl, ⟨_, s1.seq hl⟩, for_list (K := K) (a := l) (xs := refs) (fun i σ H' => ∃ (c : Addr) (y : Option V), σ = [some (.ref l), some sv, some (.ref c), y] ∧ Same H H' ∧ SqT K H' c (rp (x0 + (qs.take i).sum)) ∧ Bd (n0 + 101 * i) (x0 + (qs.take i).sum))
        ⟨c, none, rfl, s1, ?_, ?_⟩ (fun i σ H' _ ⟨_, _, _, s5, _⟩ => s5.seq hl) ?_ ?_⟩
      · rw [List.take_zero, List.sum_nil, Rat.add_zero]
        exact hc
      · rw [List.take_zero, List.sum_nil, Rat.add_zero]
        exact hb
      · rintro i v σ H' hi ⟨c, y, rfl, s5, hc5, hb5⟩
        obtain ⟨a, z, e1, rfl, e3, e4⟩ := hf.at_ i v hi
        have hil : i < qs.length := by
          rw [← hf.len]
          exact (List.getElem?_eq_some_iff.mp hi).1
        refine ⟨_, rfl, _, rfl, c, a, _, z, _, 100, rfl, hc5, seqT s5 e3, hb5, e4, by omega, fun p hp => ?_⟩
        refine ⟨p, _, rfl, s5.trans (same_new hp _), ?_, ?_⟩
        · rw [sum_snoc e1, ← Rat.add_assoc]
          exact SqT.of upd_same
        · rw [sum_snoc e1, ← Rat.add_assoc]
          exact (Fr.bd_add hb5 e4).mono (by omega)
      · rintro σ H' ⟨c, y, rfl, s5, hc5, _⟩
        rw [hf.len, List.take_length] at hc5
        exact ⟨_, rfl, q c H' s5 hc5⟩
    refine ⟨_, rfl, rfl, _, rfl, ?_⟩
    rcases hs with ⟨rfl, rfl⟩ | ⟨b, rfl, hbq⟩
    · refine iteT ⟨(by show 2 ≤ sizeLine; decide), fun p hp => ?_⟩
      exact go p _ (same_new hp _) (SqT.of upd_same)
    · refine iteF ⟨_, rfl, ?_⟩
      exact go b H (Same.refl H) hbq
theorem scLeft : FnScope ["_law_cell", "_law_left_here", "_law_number", "_law_turn"] ["_law_cell"] (defScope sLeft) := ⟨rfl, rfl, rfl, by decide +kernel, rfl, by decide +kernel, by decide +kernel⟩
theorem ok_left {f : Addr} {fd : FuncData} {k : Nat} (F : Fun K "_law_left" "_law_left" sLeft f fd) (B : Blt mg) : FnOk P w K mg base CX0 (k + 1) f fd ["_law_cell"] spLeft := by
  refine F.ok scLeft (fun vs H Q E h => ?_) (fun cdv A outer s H vs Q E hr h => ?_)
  · obtain ⟨c, rfl, _⟩ := h
    rfl
  · obtain ⟨c, rfl, q⟩ := h
    refine ⟨_, pss_cons (ps_set (i := 1) scLeft.nd rfl (.inl rfl) (pe_callB call_abs (by rfl) B.abs (by decide +kernel) (pa_cons (pv 0) pa_nil)))
      (pss_cons (ps_if (pt_cmpR op_lt (pv 1) (pe_op op_pow pe_int pe_int) (nomark _))
        (pss_cons (ps_set (i := 2) scLeft.nd rfl (.inl rfl) (pv 0))
        (pss_one (ps_for PassesOwn.never rfl (pi_range1 (by rfl) B.range (pa_cons pe_int pa_nil)) (pg_name (i := 3) scLeft.nd rfl (.inl rfl))
          (pss_cons (ps_set (i := 2) scLeft.nd rfl (.inl rfl) (pe_op op_mod (pe_op op_mul (pe_op op_add (pe_op op_mod (pv 2) pe_int) pe_int) pe_int) pe_int))
          (pss_cons (ps_set (i := 2) scLeft.nd rfl (.inl rfl) (pe_op op_add (pe_op op_mod (pe_op op_mul (pv 2) pe_int) pe_int) (pv 3)))
          (pss_one (ps_set (i := 1) scLeft.nd rfl (.inl rfl) (pe_op op_add (pe_op op_mul (pv 1) pe_int) (pv 2)))))))))
        pss_nil)
      (pss_one (ps_ret (pe_lst (pa_cons (pv 1) pa_nil))))), ?_⟩
    refine ⟨_, rfl, c, rfl, ?_⟩
    refine ⟨_, rfl, 10, 18, rfl, rfl, ⟨by decide, by decide, by decide⟩, _, _, rfl, rfl, _, rfl, ite2 (fun z => ?_) (fun z => ?_)⟩
    · refine ⟨_, rfl, 40, rfl, by decide, by decide, for_range (lo := 0) (n := 40) (fun i σ H' => ∃ (n m : Int) (y : Option V), σ = [some (.int c), some (.int n), some (.int m), y] ∧ H' = H) ⟨_, _, none, rfl, rfl⟩ ?_ ?_⟩
      · rintro i σ H' hi ⟨n, m, y, rfl, rfl⟩
        refine ⟨_, rfl, _, _, rfl, rfl, (by show (0 : Int) < 2147483629; decide), _, _, rfl, rfl, _, _, rfl, rfl, .inr ⟨by decide, by decide⟩, _, _, rfl, rfl, (by show (0 : Int) < 2147483629; decide), ?_⟩
        refine ⟨_, rfl, _, _, rfl, rfl, .inr ⟨by decide, by decide⟩, _, _, rfl, rfl, (by show (0 : Int) < 2147483647; decide), _, rfl, _, _, rfl, rfl, ?_⟩
        refine ⟨_, rfl, _, _, rfl, rfl, .inr ⟨by decide, by decide⟩, _, rfl, _, _, rfl, rfl, ?_⟩
        exact ⟨_, _, _, rfl, rfl⟩
      · rintro σ H' ⟨n, m, y, rfl, rfl⟩
        exact ⟨_, rfl, (by show 1 ≤ sizeLine; decide), fun p hp => q p n hp⟩
    · exact ⟨_, rfl, (by show 1 ≤ sizeLine; decide), fun p hp => q p _ hp⟩
theorem scDigit : FnScope ["_law_left_here", "_law_many", "_law_found"] ["_law_left_here", "_law_many"] (defScope sDigit) := ⟨rfl, rfl, rfl, by decide +kernel, rfl, by decide +kernel, by decide +kernel⟩
theorem ok_digit {f : Addr} {fd : FuncData} {k : Nat} (F : Fun K "_law_digit" "_law_digit" sDigit f fd) : FnOk P w K mg base CX0 (k + 1) f fd ["_law_left_here", "_law_many"] spDigit := by
  refine F.ok scDigit (fun vs H Q E h => ?_) (fun cdv A outer s H vs Q E hr h => ?_)
  · obtain ⟨l, n, m, rfl, _⟩ := h
    rfl
  · obtain ⟨l, n, m, rfl, hl, hm, hmb, q⟩ := h
    refine ⟨_, pss_cons (ps_set (i := 2) scDigit.nd rfl (.inl rfl) (pe_op op_mod (pe_ix ix_list (pv 0) pe_int (fun _ _ => rfl)) (pv 1)))
      (pss_cons (ps_asg (pe_op op_fdivW (pe_ix ix_list (pv 0) pe_int (fun _ _ => rfl)) (pv 1)) (pg_sub (pv 0) pe_int set_list))
      (pss_one (ps_ret (pv 2)))), ?_⟩
    refine ⟨_, rfl, l, _, 0, .int n, rfl, rfl, SqL.of hl, atI_nat (j := 0) rfl, _, rfl, _, _, rfl, rfl, hm, ?_⟩
    refine ⟨_, rfl, l, _, 0, .int n, rfl, rfl, SqL.of hl, atI_nat (j := 0) rfl, _, rfl, _, _, rfl, rfl, wide_div hm hmb (by decide) (by decide), ?_⟩
    refine ⟨_, rfl, l, _, 0, 0, rfl, rfl, hl, rfl, ?_⟩
    exact ⟨_, rfl, q _ _ (Int.emod_nonneg _ (by omega)) (Int.emod_lt_of_pos _ hm)⟩
end
end K2

set_option Elab.async false
set_option linter.all false
set_option maxRecDepth 100000
set_option maxHeartbeats 2000000
namespace K2
open PySem PySem.Spec PyProof.Rows L2
open Fr (Bd)
/-- while the fractions are drawn: the law's number stands at l, the list at r -/
structure Drw (K : PySem.W.Frag) (H0 : Hp) (l r : Addr) (refs : List V) (qs : List Rat) (H : Hp) : Prop where
  hl : ∃ n, H l = some (.lst [.int n])
  ne : r ≠ l
  sb : ∀ b o, b ≠ l → H0 b = some o → H b = some o
  hr : H r = some (.lst refs)
  fr : FrL K H refs qs
  new : H0 r = none
theorem Drw.laid {K : PySem.W.Frag} {H0 H : Hp} {l r p : Addr} {refs : List V} {qs : List Rat} {o : HO} (h : Drw K H0 l r refs qs H) (hp : H p = none) : Drw K H0 l r refs qs (upd H p o) := by
  obtain ⟨n, hl⟩ := h.hl
  have s := same_new hp o
  exact ⟨⟨n, s _ _ hl⟩, h.ne, fun b u e z => s _ _ (h.sb b u e z), s _ _ h.hr, h.fr.same s, h.new⟩
theorem Drw.dig {K : PySem.W.Frag} {H0 H : Hp} {l r : Addr} {refs : List V} {qs : List Rat} {n' : Int} (h : Drw K H0 l r refs qs H) : Drw K H0 l r refs qs (upd H l (.lst [.int n'])) := by
  obtain ⟨n, hl⟩ := h.hl
  exact ⟨⟨n', upd_same⟩, h.ne, fun b u e z => by rw [upd_ne e]; exact h.sb b u e z, by rw [upd_ne h.ne]; exact h.hr, h.fr.keep (keep_lst hl), h.new⟩
def spSome (K : PySem.W.Frag) : Sp := fun vs H Q _ => ∃ (l : Addr) (n : Int), vs = [.ref l] ∧ H l = some (.lst [.int n]) ∧
  ∀ r H' refs qs, (∀ b o, b ≠ l → H b = some o → H' b = some o) → H' r = some (.lst refs) → FrL K H' refs qs → qs.length ≤ 8 → Q (.ref r) H'
theorem size_at {d : Int} (h0 : 0 ≤ d) (h5 : d < 5) : ∃ v : Int, atI [V.int 5, V.int 5, V.int 20, V.int (10 ^ (6 : Int).toNat), V.int (10 ^ (20 : Int).toNat)] d = some (V.int v) ∧ 0 < v ∧ v ≤ 10 ^ 20 := by
  have : d = 0 ∨ d = 1 ∨ d = 2 ∨ d = 3 ∨ d = 4 := by omega
  rcases this with rfl | rfl | rfl | rfl | rfl
  · exact ⟨_, atI_nat (j := 0) rfl, by decide, by decide⟩
  · exact ⟨_, atI_nat (j := 1) rfl, by decide, by decide⟩
  · exact ⟨_, atI_nat (j := 2) rfl, by decide, by decide⟩
  · exact ⟨_, atI_nat (j := 3) rfl, by decide, by decide⟩
  · exact ⟨_, atI_nat (j := 4) rfl, by decide, by decide⟩
theorem bot_at {d : Int} (h0 : 0 ≤ d) (h5 : d < 4) : ∃ v : Int, atI [V.int 1, V.int 4, V.int 12, V.int (10 ^ (9 : Int).toNat)] d = some (V.int v) ∧ 0 < v ∧ v ≤ 10 ^ 9 := by
  have : d = 0 ∨ d = 1 ∨ d = 2 ∨ d = 3 := by omega
  rcases this with rfl | rfl | rfl | rfl
  · exact ⟨_, atI_nat (j := 0) rfl, by decide, by decide⟩
  · exact ⟨_, atI_nat (j := 1) rfl, by decide, by decide⟩
  · exact ⟨_, atI_nat (j := 2) rfl, by decide, by decide⟩
  · exact ⟨_, atI_nat (j := 3) rfl, by decide, by decide⟩
theorem lt100 {i : Int} (h : i.natAbs ≤ 10 ^ 20) : i.natAbs < 2 ^ 100 := Nat.lt_of_le_of_lt h (by decide)
section
variable {P : Program} {w : World} {K : PySem.W.Frag} {mg : Str → Option Value} {base : Heap}
theorem scSome : FnScope ["_law_left_here", "_law_found", "_law_k", "_law_size", "_law_top"] ["_law_left_here"] (defScope sSome) := ⟨rfl, rfl, rfl, by decide +kernel, rfl, by decide +kernel, by decide +kernel⟩
theorem ok_some {f fD fL : Addr} {fd fdD fdL : FuncData} {k : Nat} (F : Fun K "_law_some" "_law_some" sSome f fd) (GD : FnOk P w K mg base CX0 k fD fdD ["_law_left_here", "_law_many"] spDigit) (kD : PySem.W.keepIn K (.ref fD) = true) (bD : Binds K fdD ["_law_left_here", "_law_many"] []) (gD : mg "_law_digit" = some (.ref fD))
    (GL : FnOk P w K mg base CX0 k fL fdL ["_law_top", "_law_bottom"] spLow) (kL : PySem.W.keepIn K (.ref fL) = true) (bL : Binds K fdL ["_law_top", "_law_bottom"] []) (gL : mg "_law_low" = some (.ref fL)) (B : Blt mg) : FnOk P w K mg base CX0 (k + 1) f fd ["_law_left_here"] (spSome K) := by
  refine F.ok scSome (fun vs H Q E h => ?_) (fun cdv A outer s H vs Q E hr h => ?_)
  · obtain ⟨l, n, rfl, _⟩ := h
    rfl
  · obtain ⟨l, n, rfl, hl, q⟩ := h
    refine ⟨_, pss_cons (ps_set (i := 1) scSome.nd rfl (.inl rfl) (pe_lst pa_nil))
      (pss_cons (ps_for PassesOwn.never rfl (pi_range1 (by rfl) B.range (pa_cons (pe_call GD hr (by rfl) gD kD bD .nil pass0 (pa_cons (pv 0) (pa_cons pe_int pa_nil))) pa_nil)) (pg_name (i := 2) scSome.nd rfl (.inl rfl))
        (pss_cons (ps_set (i := 3) scSome.nd rfl (.inl rfl) (pe_ix ix_list (pe_lst (pa_cons pe_int (pa_cons pe_int (pa_cons pe_int (pa_cons (pe_op op_pow pe_int pe_int) (pa_cons (pe_op op_pow pe_int pe_int) pa_nil)))))) (pe_call GD hr (by rfl) gD kD bD .nil pass0 (pa_cons (pv 0) (pa_cons pe_int pa_nil))) (fun _ _ => rfl)))
        (pss_cons (ps_set (i := 4) scSome.nd rfl (.inl rfl) (pe_op op_mul (pe_call GD hr (by rfl) gD kD bD .nil pass0 (pa_cons (pv 0) (pa_cons (pv 3) pa_nil))) (pe_op op_sub pe_int (pe_op op_mul pe_int (pe_call GD hr (by rfl) gD kD bD .nil pass0 (pa_cons (pv 0) (pa_cons pe_int pa_nil)))))))
        (pss_one (ps_expr (pe_bm PySem.F.plainAttrs_list PySem.F.slot_list_append PySem.F.type_list_append mt_append (pv 1) (pa_cons
          (pe_call GL hr (by rfl) gL kL bL .nil pass0 (pa_cons (pv 4) (pa_cons (pe_op op_add pe_int (pe_call GD hr (by rfl) gD kD bD .nil pass0 (pa_cons (pv 0) (pa_cons
            (pe_ix ix_list (pe_lst (pa_cons pe_int (pa_cons pe_int (pa_cons pe_int (pa_cons (pe_op op_pow pe_int pe_int) pa_nil))))) (pe_call GD hr (by rfl) gD kD bD .nil pass0 (pa_cons (pv 0) (pa_cons pe_int pa_nil))) (fun _ _ => rfl)) pa_nil)))) pa_nil))) pa_nil)))))))
      (pss_one (ps_ret (pv 1)))), ?_⟩
    refine ⟨Nat.zero_le _, fun r hnr => ?_⟩
    have hne : r ≠ l := fun e => by
      rw [e, hl] at hnr
      cases hnr
    have D0 : Drw K H l r [] [] (upd H r (.lst [])) := ⟨⟨n, by rw [upd_ne hne.symm]; exact hl⟩, hne, fun b o _ e => same_new hnr _ _ _ e, upd_same, FrL.nil, hnr⟩
    refine ⟨_, rfl, l, n, 9, rfl, by rw [upd_ne hne.symm]; exact hl, by decide, by decide, fun d n' h0 h9 => ?_⟩
    refine ⟨d, rfl, by omega, by omega, for_range (lo := 0) (n := d.toNat) (fun i σ H' => ∃ (y2 y3 y4 : Option V) (refs : List V) (qs : List Rat), σ = [some (.ref l), some (.ref r), y2, y3, y4] ∧ qs.length = i ∧ Drw K H l r refs qs H')
      ⟨none, none, none, [], [], rfl, rfl, D0.dig⟩ ?_ ?_⟩
    · rintro i σ H1 hi ⟨y2, y3, y4, refs, qs, rfl, hq, D1⟩
      have hi8 : i < 9 := by omega
      -- size
      refine ⟨10, 6, rfl, rfl, ⟨by decide, by decide, by decide⟩, 10, 20, rfl, rfl, ⟨by decide, by decide, by decide⟩, (by show 5 ≤ sizeLine; decide), fun p hp => ?_⟩
      have D2 := D1.laid (o := .lst [.int 5, .int 5, .int 20, .int (10 ^ (6 : Int).toNat), .int (10 ^ (20 : Int).toNat)]) hp
      obtain ⟨n2, hl2⟩ := D2.hl
      obtain ⟨n1, hl1⟩ := D1.hl
      have hpl : p ≠ l := fun e => by
        rw [e, hl1] at hp
        cases hp
      refine ⟨_, rfl, l, n2, 5, rfl, hl2, by decide, by decide, fun d1 m1 a0 a5 => ?_⟩
      obtain ⟨v, ev, v0, v1⟩ := size_at a0 a5
      refine ⟨p, _, d1, .int v, rfl, rfl, SqL.of (by rw [upd_ne hpl, upd_same]), ev, ?_⟩
      have D3 := D2.dig (n' := m1)
      -- top
      obtain ⟨n3, hl3⟩ := D3.hl
      refine ⟨_, rfl, _, rfl, l, n3, v, rfl, hl3, v0, lt100 (by omega), fun d2 m2 b0 b5 => ?_⟩
      have D4 := D3.dig (n' := m2)
      obtain ⟨n4, hl4⟩ := D4.hl
      refine ⟨_, rfl, l, n4, 2, rfl, hl4, by decide, by decide, fun d3 m3 c0 c5 => ?_⟩
      have D5 := D4.dig (n' := m3)
      refine ⟨2, d3, rfl, rfl, .inl ⟨by decide, by decide⟩, 1, _, rfl, rfl, d2, _, rfl, rfl, .inr ⟨by omega, by omega⟩, ?_⟩
      have htop : (d2 * (1 - 2 * d3)).natAbs ≤ 10 ^ 20 := by
        have : d3 = 0 ∨ d3 = 1 := by omega
        rcases this with rfl | rfl
        · rw [show (1 : Int) - 2 * 0 = 1 by decide, Int.mul_one]
          omega
        · rw [show (1 : Int) - 2 * 1 = -1 by decide, Int.mul_neg, Int.mul_one]
          omega
      -- found.append(low(top, 1 + ..))
      refine ⟨_, rfl, .inl ⟨rfl, _, SqL.of D5.hr⟩, _, rfl, _, rfl, ?_⟩
      refine ⟨10, 9, rfl, rfl, ⟨by decide, by decide, by decide⟩, (by show 4 ≤ sizeLine; decide), fun p2 hp2 => ?_⟩
      have D6 := D5.laid (o := .lst [.int 1, .int 4, .int 12, .int (10 ^ (9 : Int).toNat)]) hp2
      obtain ⟨n6, hl6⟩ := D6.hl
      obtain ⟨n5, hl5⟩ := D5.hl
      have hpl2 : p2 ≠ l := fun e => by
        rw [e, hl5] at hp2
        cases hp2
      refine ⟨_, rfl, l, n6, 4, rfl, hl6, by decide, by decide, fun d4 m4 g0 g5 => ?_⟩
      obtain ⟨u, eu, u0, u1⟩ := bot_at g0 g5
      refine ⟨p2, _, d4, .int u, rfl, rfl, SqL.of (by rw [upd_ne hpl2, upd_same]), eu, ?_⟩
      have D7 := D6.dig (n' := m4)
      obtain ⟨n7, hl7⟩ := D7.hl
      refine ⟨l, n7, u, rfl, hl7, u0, lt100 (by omega), fun d5 m5 k0 k5 => ?_⟩
      have D8 := D7.dig (n' := m5)
      refine ⟨1, d5, rfl, rfl, _, _, 100, rfl, lt100 htop, lt100 (by omega), by omega, by decide, fun t ht => ?_⟩
      have D9 := D8.laid (o := .tup (rp (Rat.divInt (d2 * (1 - 2 * d3)) (1 + d5)))) ht
      refine ⟨r, _, _, rfl, rfl, D9.hr, ?_, ?_⟩
      · rw [D9.fr.len, hq]
        exact small1000 (by omega)
      · have fr := D9.fr.snoc (a := t) (SqT.of upd_same) (Fr.bd_low (lt100 htop) (lt100 (by omega)) (by omega))
        refine ⟨_, _, _, _, _, rfl, ?_, ⟨?_, hne, ?_, upd_same, fr.keep (keep_lst D9.hr), D9.new⟩⟩
        · rw [List.length_append, hq]
          rfl
        · obtain ⟨n9, hl9⟩ := D9.hl
          exact ⟨n9, by rw [upd_ne hne.symm]; exact hl9⟩
        · intro b o hb e
          rw [upd_ne (ne_of_none e D9.new)]
          exact D9.sb b o hb e
    · rintro σ H1 ⟨y2, y3, y4, refs, qs, rfl, hq, D1⟩
      exact ⟨_, rfl, q r H1 refs qs D1.sb D1.hr D1.fr (by omega)⟩
end
end K2

set_option Elab.async false
set_option linter.all false
set_option maxRecDepth 100000
set_option maxHeartbeats 4000000
namespace EXB
open PySem PySem.Spec PyProof.Rows L2
/-- what the written part says of an own error class over B -/
structure ExC (K : PySem.W.Frag) (C : Addr) (newId : String) (bmB : List Value) : Prop where
  cls : ∃ nm q N bs sn sub ab col dd k0 k1 k2 k3 k5, K.lookup C = some (excClassObj nm q C N bs bmB true sn sub ab col dd k0 k1 k2 k3 k5 newId)
  exC : PySem.W.subIn K (.ref C) (.type "BaseException") = some true
  tyC : PySem.W.typeIn K (.ref C) = some (.type "type")
  kC : PySem.W.keepIn K (.ref C) = true
section
variable {X : Cx} {pins : List (Addr × Obj)} {σ : L2.St} {H : Hp} {s : Shared} {a C : Addr} {A : Around} {E : Value → Shared → Prop} {B newId initId : String} {bmB : List Value}
/-- B.__init__(self, ..): nothing of it is told -/
theorem einit_ok {us : List Value} {Q : Value → Shared → Prop} (Fb : ExcBaseFacts B newId initId bmB) (T : ExC X.K C newId bmB) (I : Inv X pins σ H s) (e : H a = some (exo a C none)) (hl : us.length ≤ sizeLine) (h : ∀ s', Inv X pins σ H s' → Q .none s') :
    wpAny (model X.prog X.w) A (call (.builtin initId) (.ref a :: us)) Q E s := by
  obtain ⟨nm, q, N, bs, sn, sub, ab, col, dd, k0, k1, k2, k3, k5, hC⟩ := T.cls
  obtain ⟨t1, ho⟩ := exo_at I.hok e
  obtain ⟨hp, g, d, t, os⟩ := s
  refine wpAny_call (PySem.HandSPX.init_base Fb (fun Y => rfl) (I.kIn _ _ hC) ho hl fun h' t2 k hx => ?_)
  have J := I.write (t' := t) (x := a) (e := a) (o := exo a C none) (by rw [e]; exact True.intro) (.inl rfl) k ⟨_, hx⟩ (exo_ok hx)
  have eu : upd H a (exo a C none) = H := by
    funext b
    by_cases hb : b = a
    · rw [hb, upd_same, e]
    · rw [upd_ne hb]
  rw [eu] at J
  exact h _ J
end
def tExI (K : PySem.W.Frag) (newId : String) (bmB : List Value) (ta : TA) : TE := fun σ H Q => ta σ H fun vs H1 => ∃ (a C : Addr) (ws : List V), vs = .ref a :: ws ∧ ws.length ≤ 1000 ∧ ExC K C newId bmB ∧ H1 a = some (exo a C none) ∧ Q .non H1
section
variable {X : Cx} {e : Expr} {es : List Expr} {ta : TA} {p p1 p2 pos : Pos} {B newId initId : String} {bmB : List Value}
theorem typ_ZD : typeOf (.type "ZeroDivisionError") = pure (.type "type") := by kernel_rfl
theorem pe_zdinit {pl : Sem Bool} (hg : Gl X "ZeroDivisionError") (hm : X.mg "ZeroDivisionError" = none) (vV : PySem.W.findCls X.K (.type "ZeroDivisionError") (.type "type") "__init__" = some (.val (.builtin "ZeroDivisionError.__init__"))) (ha : PA X (e :: es) ta)
    (hc : eval (.Call (.Attribute (.Name "ZeroDivisionError" p1) "__init__" p2) (e :: es) [] pos) X.env = (do
      let ov ← eval (.Name "ZeroDivisionError" p1) X.env
      standAt p2.atName
      let (f, first) ← holding [ov] (getMethod ov "__init__" pl)
      callWith pos f first (backTo pos (starEach (e :: es) X.env)) (backToKw pos (keywordEach [] X.env))) := by rfl)
    (he : starEach (e :: es) X.env = (false, eval e X.env) :: starEach es X.env := by rfl) (hpl : (backTo pos (starEach es X.env)).any (·.1) = false := by rfl) :
    PE X (.Call (.Attribute (.Name "ZeroDivisionError" p1) "__init__" p2) (e :: es) [] pos) (tExI X.K "ZeroDivisionError.__new__" [.type "ZeroDivisionError", .type "ArithmeticError", .type "Exception", .type "BaseException", .type "object"] ta) := by
  refine ⟨fun pins s σ H Q I h => ?_⟩
  refine PySem.W.methodCall_KW (ld_blt I hg hm PyProof.Rows.Boot.«ZeroDivisionError» ?_ (by decide) (by decide)) hc
  obtain ⟨m, fr⟩ := I.fr
  refine PySem.W.method_type fr I.ok.mod.kin typ_ZD (by decide +kernel) vV (by decide +kernel) ?_
  show wpAny _ _ (callWith pos (Value.builtin "ZeroDivisionError.__init__") [] (backTo pos (starEach (e :: es) X.env)) []) _ _ _
  refine PyProof.Rows.callWith_method1 (thn (ha.run pos pins _ σ H _ (I.tok _) h) fun us s1 ⟨vs, H1, I1, r1, a, C, ws, ev, hl, T, ea, q⟩ => ?_) he hpl
  subst ev
  cases r1 with
  | @cons _ u0 _ ur ra rw' =>
    obtain rfl : u0 = Value.ref a := ra
    have hlen : ur.length ≤ sizeLine := by
      rw [← Paired.length rw', sizeLine_eq]
      omega
    exact einit_ok PySem.F.excBase_ZeroDivisionError T I1 ea hlen fun s' J => ⟨.non, H1, J, rfl, q⟩
/-- the end of C(..), no field: the exception is let go -/
theorem mk_endN {pins : List (Addr × Obj)} {σ : L2.St} {H1 H2 : Hp} {Q : XK} {hp hp2 h2 : Heap} {g1 g2 : Array GenState} {d1 d2 : Drawn} {t1 t2 : Nat} {os1 os2 : OsState} {a C : Addr} (T : Raises X (.ref C)) (I1 : Inv X pins σ H1 ⟨hp, g1, d1, t1, os1⟩)
    (ha : hp.objs.size ≤ a) (k : ∀ b o, hp.get? b = some o → hp2.get? b = some o) (un : Un (frs X.stack) [] (upd H1 a (exo a C none)) H2 hp2 h2) (hok : HOk X.prog X.w H2 h2) (ho : os2 = os1) (hb : AllBare g2)
    (ea : H2 a = some (exo a C none)) (q : Q (.ref C) none (del H2 a)) : MkP X pins σ Q (.ref a) ⟨h2, g2, d2, t2, os2⟩ := by
  obtain ⟨t0, hoe⟩ := exo_at hok ea
  have hn : H1 a = none := I1.hok.fresh ha
  obtain ⟨G, g1', g2'⟩ := restrict h2 fun b => decide (b ≠ a)
  have gk : ∀ b, b ≠ a → G.get? b = h2.get? b := fun b hb => g1' b (decide_eq_true hb)
  have ge : G.get? a = none := g2' a (by simp)
  have nha : ∀ {b : Addr} {o : Obj}, hp.get? b = some o → b ≠ a := fun {b o} z => Nat.ne_of_lt (Nat.lt_of_lt_of_le (Heap.lt_size z) ha)
  have up : ∀ {b : Addr}, b ≠ a → H1 b = none → upd H1 a (exo a C none) b = none := fun {b} hb n => by rw [upd_ne hb]; exact n
  have U : Un (frs X.stack) [] H1 (del H2 a) hp G := {
    keep := fun b o z n hf hx => by
      rw [gk b (nha z)]
      exact un.keep b o (k b o z) (up (nha z) n) hf hx
    slot := fun b o z n hf hx => by
      rw [gk b (nha z)]
      exact un.slot b o (k b o z) (up (nha z) n) hf hx
    free := fun b o z n hx => by
      rw [del_ne (nha z)]
      exact un.free b o (k b o z) (up (nha z) n) hx
    there := fun b o z hx => by
      rw [gk b (nha z)]
      exact un.there b o (k b o z) hx
    tups := fun b xs z => by
      rw [del_ne (ne_of_none z hn)]
      exact un.tups b xs (by rw [upd_ne (ne_of_none z hn)]; exact z)
    frzs := fun b o v z => by
      rw [del_ne (ne_of_none z hn)]
      exact un.frzs b o v (by rw [upd_ne (ne_of_none z hn)]; exact z)
    tbls := fun b ps z => by
      rw [del_ne (ne_of_none z hn)]
      exact un.tbls b ps (by rw [upd_ne (ne_of_none z hn)]; exact z) }
  have hok3 : HOk X.prog X.w (del H2 a) G := fun b o z => by
    have hba : b ≠ a := fun e => by
      rw [e, del_same] at z
      cases z
    rw [del_ne hba] at z
    have noa : ∀ {c : Addr}, H2 c = some (.own b) → c ≠ a := fun {c} hc => at_ne ea hc exo_own
    exact (hok b o z).stay (fun c v hc y => by
        have hca : c ≠ a := by
          rcases hc with hc | hc
          · rw [hc]
            exact hba
          · exact noa hc
        rw [gk c hca]
        exact y)
      (fun c hc => by rw [del_ne (noa hc)]; exact hc) (fun c xs hc => by rw [del_ne (at_ne ea hc exo_tup)]; exact hc)
  have J : Inv X pins σ (del H2 a) ⟨G, g2, d2, t2, os2⟩ := I1.call' (ch := []) ho U hok3 hb (fun b z => absurd z (by simp))
  refine ⟨a, _, _, ⟨G, g2, d2, t2, os2⟩, _, .ref C, none, rfl, J, fun b o z => ?_, ge, hoe, ⟨rfl, rfl⟩, rfl, rfl, del_same, rfl, hb, T, q⟩
  by_cases hba : b = a
  · have z' : G.get? b = some o := z
    rw [hba, ge] at z'
    cases z'
  · exact (gk b hba).symm.trans z
/-- the promise of an __init__ that makes no field -/
def spEi (C : Addr) : Sp := fun vs H Q _ => ∃ a, vs = [.ref a] ∧ H a = some (exo a C none) ∧ Q .non H
/-- C(), C's __init__ making no field -/
theorem pmk_exN {x : Str} {C fI : Addr} {k : Nat} {fd : FuncData} {ps : List Str} (Fb : ExcBaseFacts B newId initId bmB) (T : ExC X.K C newId bmB) (iC : PySem.W.findIn X.K (.ref C) "__init__" = some (some (.ref fI))) (tI : PySem.W.typeIn X.K (.ref fI) = some (.type "function"))
    (F1 : FnOk X.prog X.w X.K X.mg X.base CX0 k fI fd ps (spEi C)) (hr : Room (k + 1) X.A) (hb : Binds X.K fd ps []) (hg : Gl X x) (hm : X.mg x = some (.ref C))
    (hdb : (x == ("__debug__" : Str)) = false := by decide) :
    PMk X (.Call (.Name x p) [] [] pos) (fun _ H Q => Q (.ref C) none H) := by
  intro pins s σ H Q I h
  obtain ⟨nm, q, N, bs, sn, sub, ab, col, dd, k0, k1, k2, k3, k5, hC⟩ := T.cls
  refine wpAny_Call_Name_kw (ld_glob I hg hm ?_ hdb)
  refine PySem.W.callWith_K0 I.kIn T.kC ?_
  show wpAny _ _ (call (.ref C) []) _ _ _
  obtain ⟨hp, g, dr, tk, os⟩ := s
  have hsz : hp.objs.size ≤ hp.objs.size + 1 := Nat.le_succ _
  have hn : H (hp.objs.size + 1) = none := I.hok.fresh hsz
  have kk : ∀ b o, hp.get? b = some o → ((hp.push (PySem.W.kdv_tup [])).push (PySem.HandSPX.excO C hp.objs.size)).get? b = some o := fun b o e => Heap.get?_push_of_some _ (Heap.get?_push_of_some _ e)
  have hget : ((hp.push (PySem.W.kdv_tup [])).push (PySem.HandSPX.excO C hp.objs.size)).get? (hp.objs.size + 1) = some (PySem.HandSPX.excO C hp.objs.size) := by heap_get
  have I2 : Inv X pins σ (upd H (hp.objs.size + 1) (exo (hp.objs.size + 1) C none)) ⟨(hp.push (PySem.W.kdv_tup [])).push (PySem.HandSPX.excO C hp.objs.size), g, dr, tk, os⟩ :=
    I.laid (t' := tk) (a := hp.objs.size + 1) (o := exo (hp.objs.size + 1) C none) (h' := (hp.push (PySem.W.kdv_tup [])).push (PySem.HandSPX.excO C hp.objs.size)) kk hsz (exo_ok hget)
  have r2 : Vals [V.ref (hp.objs.size + 1)] [Value.ref (hp.objs.size + 1)] := .cons rfl .nil
  have hq : spEi C [V.ref (hp.objs.size + 1)] (upd H (hp.objs.size + 1) (exo (hp.objs.size + 1) C none)) (fun v H2 => v = .non ∧ H2 = upd H (hp.objs.size + 1) (exo (hp.objs.size + 1) C none)) (fun _ _ _ => False) :=
    ⟨_, rfl, upd_same, rfl, rfl⟩
  have hl : ([Value.ref (hp.objs.size + 1)] ++ []).length = ps.length := by
    have e := r2.length
    rw [F1.len _ _ _ _ hq] at e
    exact e.symm
  refine wpAny_call (PySem.HandSPX.call_own Fb (fun Y => rfl) (I.kIn _ _ hC) (PySem.W.looks_findIn I.kIn iC) (fun self => PySem.W.bind_fn I.kIn self tI) (Nat.zero_le _)
    (codeAny_mono (F1.run _ X.stack _ _ ⟨[Value.ref (hp.objs.size + 1)], []⟩ [Value.ref (hp.objs.size + 1)] _ _ (fun _ _ _ => False) (hr.make C [] []) (I2.env0.make C [] []) (hb _ [Value.ref (hp.objs.size + 1)] I2.kIn hl) r2 hq) fun r s' hq' => ?_))
  cases r with
  | error er => exact False.elim hq'
  | ok fl =>
    cases fl with
    | ret u =>
      obtain ⟨v, H2, os2, bare2, un2, hok2, rv, ev, eH⟩ := hq'
      subst ev
      subst eH
      obtain ⟨h2, g2, d2, t2, os'⟩ := s'
      refine ⟨rv, mk_endN (raises_own T.exC T.tyC) I hsz kk un2 hok2 os2 bare2 upd_same ?_⟩
      have eD : del (upd H (hp.objs.size + 1) (exo (hp.objs.size + 1) C none)) (hp.objs.size + 1) = H := by
        funext b
        by_cases hb : b = hp.objs.size + 1
        · rw [hb, del_same]
          exact hn.symm
        · rw [del_ne hb, upd_ne hb]
      rw [eD]
      exact h
    | next => exact False.elim hq'
    | brk => exact False.elim hq'
    | cont => exact False.elim hq'
end
end EXB

set_option Elab.async false
set_option linter.all false
set_option maxRecDepth 100000
set_option maxHeartbeats 4000000
namespace K2
open PySem PySem.Spec PyProof.Rows L2 EXB
open Fr (Bd)
abbrev sBnInit : Stmt := inClass (topS 1) 0
abbrev sOver : Stmt := topS 8
abbrev sLOver : Stmt := topS 22
abbrev zdTail : List Value := [.type "ZeroDivisionError", .type "ArithmeticError", .type "Exception", .type "BaseException", .type "object"]
/-- what the top has written of ByNought -/
structure BnT (K : PySem.W.Frag) (mg : Str → Option Value) (C fI : Addr) : Prop where
  cl : ExC K C "ZeroDivisionError.__new__" zdTail
  gC : mg "ByNought" = some (.ref C)
  iC : PySem.W.findIn K (.ref C) "__init__" = some (some (.ref fI))
  tI : PySem.W.typeIn K (.ref fI) = some (.type "function")
  te : PySem.W.exmOne K (.ref C) (.ref C) = some true
  vV : PySem.W.findCls K (.type "ZeroDivisionError") (.type "type") "__init__" = some (.val (.builtin "ZeroDivisionError.__init__"))
def spOver (K : PySem.W.Frag) (C : Addr) : Sp := fun vs H Q E => ∃ (a b : Addr) (x y : Rat) (n m : Nat), vs = [.ref a, .ref b] ∧ SqT K H a (rp x) ∧ SqT K H b (rp y) ∧ Bd n x ∧ Bd m y ∧ n + m ≤ 7000 ∧
  (y.num = 0 → E (.ref C) none H) ∧ (y.num ≠ 0 → ∀ p, H p = none → Q (.ref p) (upd H p (.tup (rp (x / y)))))
def spLOver (K : PySem.W.Frag) : Sp := fun vs H Q _ => ∃ (a b : Addr) (x y : Rat) (n m : Nat), vs = [.ref a, .ref b] ∧ SqT K H a (rp x) ∧ SqT K H b (rp y) ∧ Bd n x ∧ Bd m y ∧ n + m ≤ 7000 ∧
  (y.num = 0 → Q (.str "nought") H) ∧ (y.num ≠ 0 → ∀ p, H p = none → Q (.ref p) (upd H p (.tup (rp (x / y)))))
section
variable {P : Program} {w : World} {K : PySem.W.Frag} {mg : Str → Option Value} {base : Heap} {C fI : Addr}
theorem scBn : FnScope ["self"] ["self"] (defScope sBnInit) := ⟨rfl, rfl, rfl, by decide +kernel, rfl, by decide +kernel, by decide +kernel⟩
theorem ok_bn {fd : FuncData} {k : Nat} (F : Fun K "__init__" "ByNought.__init__" sBnInit fI fd) (T : BnT K mg C fI) (B : Blt mg) : FnOk P w K mg base CX0 (k + 1) fI fd ["self"] (spEi C) := by
  refine F.ok scBn (fun vs H Q E h => ?_) (fun cdv A outer s H vs Q E hr h => ?_)
  · obtain ⟨a, rfl, _⟩ := h
    rfl
  · obtain ⟨a, rfl, ha, q⟩ := h
    refine ⟨_, pss_one (ps_expr (pe_zdinit (by rfl) B.zd T.vV (pa_cons (pv 0) (pa_cons pe_str pa_nil)))), ?_⟩
    exact ⟨_, rfl, a, C, _, rfl, (by show 1 ≤ 1000; decide), T.cl, ha, q⟩
theorem scOver : FnScope ["one", "other"] ["one", "other"] (defScope sOver) := ⟨rfl, rfl, rfl, by decide +kernel, rfl, by decide +kernel, by decide +kernel⟩
theorem ok_over {f fL : Addr} {fd fdL fdI : FuncData} {k : Nat} (F : Fun K "over" "over" sOver f fd) (T : BnT K mg C fI) (GI : FnOk P w K mg base CX0 k fI fdI ["self"] (spEi C)) (bI : Binds K fdI ["self"] [])
    (GL : FnOk P w K mg base CX0 k fL fdL ["top", "bottom"] spLow) (kL : PySem.W.keepIn K (.ref fL) = true) (bL : Binds K fdL ["top", "bottom"] []) (gL : mg "lowest" = some (.ref fL)) :
    FnOk P w K mg base (L2.CX P w) (k + 2) f fd ["one", "other"] (spOver K C) := by
  refine F.okX scOver (fun vs H Q E h => ?_) (fun cdv A outer s H vs Q E hr h => ?_)
  · obtain ⟨a, b, x, y, n, m, rfl, _⟩ := h
    rfl
  · obtain ⟨a, b, x, y, n, m, rfl, hx, hy, bx, by_, hn, qE, q⟩ := h
    refine ⟨_, pss_cons (ps_if (pt_cmpR op_eq (pe_ix ix_tup (pv 1) pe_int (fun _ _ => rfl)) pe_int (nomark _)) (pss_one (ps_raise (W := fun cls d _ H' => E cls d H') rfl (takes_of rfl rfl rfl rfl) (pmk_exN PySem.F.excBase_ZeroDivisionError T.cl T.iC T.tI GI hr bI (by rfl) T.gC))) pss_nil)
      (PSs.nox (pss_one (ps_ret (pe_call GL (hr.mono (by omega)) (by rfl) gL kL bL .nil pass0 (pa_cons (pe_op op_mulW (pe_ix ix_tup (pv 0) pe_int (fun _ _ => rfl)) (pe_ix ix_tup (pv 1) pe_int (fun _ _ => rfl))) (pa_cons (pe_op op_mulW (pe_ix ix_tup (pv 0) pe_int (fun _ _ => rfl)) (pe_ix ix_tup (pv 1) pe_int (fun _ _ => rfl))) pa_nil)))))), ?_⟩
    refine ⟨.ref b, rfl, b, rp y, 0, .int y.num, rfl, rfl, hy, at0 y, rfl, _, rfl, ite2 (fun c => ?_) (fun c => ?_)⟩
    · have h0 : y.num = 0 := V.int.inj (of_decide_eq_true c)
      exact qE h0
    · have h0 : y.num ≠ 0 := fun e => c (decide_eq_true (congrArg V.int e))
      refine ⟨.ref a, rfl, a, rp x, 0, .int x.num, rfl, rfl, hx, at0 x, .ref b, rfl, b, rp y, 1, .int (y.den : Int), rfl, rfl, hy, at1 y, _, _, rfl, rfl, wmul bx.1 by_.dn (by omega),
        .ref a, rfl, a, rp x, 1, .int (x.den : Int), rfl, rfl, hx, at1 x, .ref b, rfl, b, rp y, 0, .int y.num, rfl, rfl, hy, at0 y, _, _, rfl, rfl, wmul bx.dn by_.1 (by omega), _, _, n + m, rfl, Fr.mul_bd bx.1 by_.dn, Fr.mul_bd bx.dn by_.1, Int.mul_ne_zero (Fr.den_ne x) h0, by omega, fun p hp => ?_⟩
      have z := q h0 p hp
      rw [Fr.div_eq]
      exact z
end
end K2

set_option Elab.async false
set_option linter.all false
set_option maxRecDepth 100000
set_option maxHeartbeats 4000000
namespace K2
open PySem PySem.Spec PyProof.Rows L2 EXB
open Fr (Bd)
abbrev sRight : Stmt := topS 23
/-- a fraction as data -/
def dR (q : Rat) : PyData := .tuple [.int q.num, .int (q.den : Int)]
theorem dp_r {K : PySem.W.Frag} {H : Hp} {a : Addr} {q : Rat} (h : SqT K H a (rp q)) : Dp K H (.ref a) (dR q) := .tup h (.cons (.int _) (.cons (.int _) .nil))
theorem dR_lay (q : Rat) : (dR q).canLay0 = true := rfl
theorem dR_depth (q : Rat) : (dR q).depth = 1 := rfl
theorem dR_shaped (q : Rat) : SeqAt.shaped (dR q) = true := rfl
/-- what stands last in the lists of _law_right -/
def dD (x y : Rat) : PyData := if y.num = 0 then .str "nought" else dR (x / y)
theorem dD_lay (x y : Rat) : (dD x y).canLay0 = true := by
  unfold dD
  split
  · decide +kernel
  · rfl
theorem dD_depth (x y : Rat) : (dD x y).depth ≤ 1 := by
  unfold dD
  split
  · decide +kernel
  · exact Nat.le_refl _
def dL (x y : Rat) : PyData := .list [dR (x + y), dR (x - y), dR (x * y), dD x y]
theorem dL_lay (x y : Rat) : (dL x y).canLay0 = true := by
  show (PyData.canLay0 (dR (x + y)) && (PyData.canLay0 (dR (x - y)) && (PyData.canLay0 (dR (x * y)) && (PyData.canLay0 (dD x y) && true)))) = true
  rw [dD_lay]
  rfl
theorem dL_shaped (x y : Rat) : SeqAt.shaped (dL x y) = true := by
  unfold SeqAt.shaped
  rw [dL_lay, Bool.true_and]
  refine decide_eq_true ?_
  have h := dD_depth x y
  show max (PyData.depth (dR (x + y))) (max (PyData.depth (dR (x - y))) (max (PyData.depth (dR (x * y))) (max (PyData.depth (dD x y)) 0))) + 1 ≤ 64
  rw [dR_depth, dR_depth, dR_depth]
  omega
def spRight (K : PySem.W.Frag) : Sp := fun vs H Q _ => ∃ (a b : Addr) (x y : Rat), vs = [.ref a, .ref b] ∧ SqT K H a (rp x) ∧ SqT K H b (rp y) ∧ Bd 100 x ∧ Bd 100 y ∧ ∀ H', Same H H' → Q (.bl true) H'
section
variable {P : Program} {w : World} {K : PySem.W.Frag} {mg : Str → Option Value} {base : Heap} {C fI : Addr}
theorem scLOver : FnScope ["_law_one", "_law_other"] ["_law_one", "_law_other"] (defScope sLOver) := ⟨rfl, rfl, rfl, by decide +kernel, rfl, by decide +kernel, by decide +kernel⟩
theorem ok_lover {f fO : Addr} {fd fdO : FuncData} {k : Nat} (F : Fun K "_law_over" "_law_over" sLOver f fd) (T : BnT K mg C fI) (GO : FnOk P w K mg base (L2.CX P w) k fO fdO ["one", "other"] (spOver K C)) (kO : PySem.W.keepIn K (.ref fO) = true) (bO : Binds K fdO ["one", "other"] []) (gO : mg "over" = some (.ref fO)) :
    FnOk P w K mg base CX0 (k + 1) f fd ["_law_one", "_law_other"] (spLOver K) := by
  refine F.ok scLOver (fun vs H Q E h => ?_) (fun cdv A outer s H vs Q E hr h => ?_)
  · obtain ⟨a, b, x, y, n, m, rfl, _⟩ := h
    rfl
  · obtain ⟨a, b, x, y, n, m, rfl, hx, hy, bx, by_, hn, q0, q⟩ := h
    refine ⟨_, pss_one (ps_try_only (tb := fun W => tRet (tCallS (spOver K C) (WE W) (tCons (tVar 0) (tCons (tVar 1) tNil)))) (ts := fun _ _ _ => tRet (tC (.str "nought"))) (Wout := fun _ _ _ _ => False) rfl rfl ⟨rfl, by decide, Or.inl T.gC⟩ takes0
      (fun W pn xe tk _ => pss_one (ps_ret (by exact (pe_callS GO hr (by rfl) gO kO bO (fun σ => passAt tk σ) (by exact (pa_cons (pv 0) (pa_cons (pv 1) pa_nil)))))))
      (fun a oe cls d pn hz hf => pss_one (ps_ret pe_str))), ?_⟩
    refine ⟨_, rfl, _, rfl, a, b, x, y, n, m, rfl, hx, hy, bx, by_, hn, fun e => ?_, fun e p hp => ?_⟩
    · exact ⟨true, T.te, fun _ _ _ => q0 e, fun z => Bool.noConfusion z⟩
    · exact q e p hp
theorem scRight : FnScope ["_law_one", "_law_other", "_law_due", "_law_told", "_law_found"] ["_law_one", "_law_other"] (defScope sRight) := ⟨rfl, rfl, rfl, by decide +kernel, rfl, by decide +kernel, by decide +kernel⟩
/-- the defs that _law_right calls, and where they stand -/
structure Defs (P : Program) (w : World) (K : PySem.W.Frag) (mg : Str → Option Value) (base : Heap) (k : Nat) : Prop where
  plus : ∃ f fd, FnOk P w K mg base CX0 k f fd ["one", "other"] (spBin K (· + ·)) ∧ PySem.W.keepIn K (.ref f) = true ∧ Binds K fd ["one", "other"] [] ∧ mg "plus" = some (.ref f)
  minus : ∃ f fd, FnOk P w K mg base CX0 k f fd ["one", "other"] (spBin K (· - ·)) ∧ PySem.W.keepIn K (.ref f) = true ∧ Binds K fd ["one", "other"] [] ∧ mg "minus" = some (.ref f)
  times : ∃ f fd, FnOk P w K mg base CX0 k f fd ["one", "other"] (spBin K (· * ·)) ∧ PySem.W.keepIn K (.ref f) = true ∧ Binds K fd ["one", "other"] [] ∧ mg "times" = some (.ref f)
  under : ∃ f fd, FnOk P w K mg base CX0 k f fd ["one", "other"] (spUnder K) ∧ PySem.W.keepIn K (.ref f) = true ∧ Binds K fd ["one", "other"] [] ∧ mg "under" = some (.ref f)
  lplus : ∃ f fd, FnOk P w K mg base CX0 k f fd ["_law_one", "_law_other"] (spBin K (· + ·)) ∧ PySem.W.keepIn K (.ref f) = true ∧ Binds K fd ["_law_one", "_law_other"] [] ∧ mg "_law_plus" = some (.ref f)
  lless : ∃ f fd, FnOk P w K mg base CX0 k f fd ["_law_one", "_law_other"] (spBin K (· - ·)) ∧ PySem.W.keepIn K (.ref f) = true ∧ Binds K fd ["_law_one", "_law_other"] [] ∧ mg "_law_less" = some (.ref f)
  ltimes : ∃ f fd, FnOk P w K mg base CX0 k f fd ["_law_one", "_law_other"] (spBin K (· * ·)) ∧ PySem.W.keepIn K (.ref f) = true ∧ Binds K fd ["_law_one", "_law_other"] [] ∧ mg "_law_times" = some (.ref f)
  lunder : ∃ f fd, FnOk P w K mg base CX0 k f fd ["_law_one", "_law_other"] (spUnder K) ∧ PySem.W.keepIn K (.ref f) = true ∧ Binds K fd ["_law_one", "_law_other"] [] ∧ mg "_law_under" = some (.ref f)
  lover : ∃ f fd, FnOk P w K mg base CX0 k f fd ["_law_one", "_law_other"] (spLOver K) ∧ PySem.W.keepIn K (.ref f) = true ∧ Binds K fd ["_law_one", "_law_other"] [] ∧ mg "_law_over" = some (.ref f)
  low : ∃ f fd, FnOk P w K mg base CX0 k f fd ["_law_top", "_law_bottom"] spLow ∧ PySem.W.keepIn K (.ref f) = true ∧ Binds K fd ["_law_top", "_law_bottom"] [] ∧ mg "_law_low" = some (.ref f)
theorem ok_right {f : Addr} {fd : FuncData} {k : Nat} (F : Fun K "_law_right" "_law_right" sRight f fd) (D : Defs P w K mg base k) (B : Blt mg) : FnOk P w K mg base CX0 (k + 1) f fd ["_law_one", "_law_other"] (spRight K) := by
  obtain ⟨f1, fd1, G1, k1, b1, g1⟩ := D.plus
  obtain ⟨f2, fd2, G2, k2, b2, g2⟩ := D.minus
  obtain ⟨f3, fd3, G3, k3, b3, g3⟩ := D.times
  obtain ⟨f4, fd4, G4, k4, b4, g4⟩ := D.lover
  obtain ⟨f5, fd5, G5, k5, b5, g5⟩ := D.lplus
  obtain ⟨f6, fd6, G6, k6, b6, g6⟩ := D.lless
  obtain ⟨f7, fd7, G7, k7, b7, g7⟩ := D.ltimes
  obtain ⟨f8, fd8, G8, k8, b8, g8⟩ := D.under
  obtain ⟨f9, fd9, G9, k9, b9, g9⟩ := D.lunder
  obtain ⟨f0, fd0, G0, k0, b0, g0⟩ := D.low
  refine F.ok scRight (fun vs H Q E h => ?_) (fun cdv A outer s H vs Q E hr h => ?_)
  · obtain ⟨a, b, x, y, rfl, _⟩ := h
    rfl
  · obtain ⟨a, b, x, y, rfl, hx, hy, bx, by_, q⟩ := h
    refine ⟨_, pss_cons (ps_set (i := 2) scRight.nd rfl (.inl rfl) pe_str)
      (pss_cons (ps_if (pt_cmpR op_ne (pe_ix ix_tup (pv 1) pe_int (fun _ _ => rfl)) pe_int (nomark _))
        (pss_one (ps_set (i := 2) scRight.nd rfl (.inl rfl) (pe_call G0 hr (by rfl) g0 k0 b0 .nil pass0 (pa_cons (pe_op op_mulW (pe_ix ix_tup (pv 0) pe_int (fun _ _ => rfl)) (pe_ix ix_tup (pv 1) pe_int (fun _ _ => rfl))) (pa_cons (pe_op op_mulW (pe_ix ix_tup (pv 0) pe_int (fun _ _ => rfl)) (pe_ix ix_tup (pv 1) pe_int (fun _ _ => rfl))) pa_nil))))) pss_nil)
      (pss_cons (ps_set (i := 3) scRight.nd rfl (.inl rfl) (pe_lst (pa_cons (pe_call G1 hr (by rfl) g1 k1 b1 .nil pass0 (pa_cons (pv 0) (pa_cons (pv 1) pa_nil))) (pa_cons (pe_call G2 hr (by rfl) g2 k2 b2 .nil pass0 (pa_cons (pv 0) (pa_cons (pv 1) pa_nil)))
        (pa_cons (pe_call G3 hr (by rfl) g3 k3 b3 .nil pass0 (pa_cons (pv 0) (pa_cons (pv 1) pa_nil))) (pa_cons (pe_call G4 hr (by rfl) g4 k4 b4 .nil pass0 (pa_cons (pv 0) (pa_cons (pv 1) pa_nil))) pa_nil))))))
      (pss_cons (ps_if (pt_cmpR (op_neD hr.units) (pv 3) (pe_lst (pa_cons (pe_call G5 hr (by rfl) g5 k5 b5 .nil pass0 (pa_cons (pv 0) (pa_cons (pv 1) pa_nil))) (pa_cons (pe_call G6 hr (by rfl) g6 k6 b6 .nil pass0 (pa_cons (pv 0) (pa_cons (pv 1) pa_nil)))
        (pa_cons (pe_call G7 hr (by rfl) g7 k7 b7 .nil pass0 (pa_cons (pv 0) (pa_cons (pv 1) pa_nil))) (pa_cons (pv 2) pa_nil))))) (nomark _)) (pss_one (ps_ret pe_bl)) pss_nil)
      (pss_cons (ps_set (i := 4) scRight.nd rfl (.inl rfl) (pe_call G8 hr (by rfl) g8 k8 b8 .nil pass0 (pa_cons (pv 0) (pa_cons (pv 1) pa_nil))))
      (pss_one (ps_ret (pe_and (pe_callB call_isi (by rfl) B.isi (by decide +kernel) (pa_cons (pv 4) (pa_cons (pe_bltn (v := .ty "bool") (by rfl) B.bool (by decide +kernel) rfl) pa_nil))) (pe_one (pe_cmpR op_eq (pv 4) (pe_call G9 hr (by rfl) g9 k9 b9 .nil pass0 (pa_cons (pv 0) (pa_cons (pv 1) pa_nil))) (nomark _)))))))))), ?_⟩
    -- from the due one on
    have go : ∀ (due : V) (H1 : Hp), Same H H1 → (∀ H2, Same H1 H2 → Dp K H2 due (dD x y)) → tSeq (tAsg (tLst (tCons (tCall (spBin K (· + ·)) [] E0 (tCons (tVar 0) (tCons (tVar 1) tNil))) (tCons (tCall (spBin K (· - ·)) [] E0 (tCons (tVar 0) (tCons (tVar 1) tNil)))
        (tCons (tCall (spBin K (· * ·)) [] E0 (tCons (tVar 0) (tCons (tVar 1) tNil))) (tCons (tCall (spLOver K) [] E0 (tCons (tVar 0) (tCons (tVar 1) tNil))) tNil))))) (gName 3))
        (tSeq (tIfS (tTest (tOp (rNeD K) (tVar 3) (tLst (tCons (tCall (spBin K (· + ·)) [] E0 (tCons (tVar 0) (tCons (tVar 1) tNil))) (tCons (tCall (spBin K (· - ·)) [] E0 (tCons (tVar 0) (tCons (tVar 1) tNil)))
        (tCons (tCall (spBin K (· * ·)) [] E0 (tCons (tVar 0) (tCons (tVar 1) tNil))) (tCons (tVar 2) tNil))))))) (tRet (tC (.bl false))) tNext)
        (tSeq (tAsg (tCall (spUnder K) [] E0 (tCons (tVar 0) (tCons (tVar 1) tNil))) (gName 4)) (tRet (tAndV (tCB (rIsi K) (tCons (tVar 4) (tCons (tC (.ty "bool")) tNil))) (tOp rEq (tVar 4) (tCall (spUnder K) [] E0 (tCons (tVar 0) (tCons (tVar 1) tNil)))))))) { nx := fun _ H' => Q .non H', rt := Q } [some (.ref a), some (.ref b), some due, none, none] H1 := by
      intro due H1 s1 hdue
      -- told: plus, minus, times
      refine ⟨_, rfl, _, rfl, a, b, x, y, 100, 100, rfl, seqT s1 hx, seqT s1 hy, bx, by_, by decide, fun p1 n1 => ?_⟩
      have s2 := s1.trans (same_new n1 (.tup (rp (x + y))))
      refine ⟨_, rfl, _, rfl, a, b, x, y, 100, 100, rfl, seqT s2 hx, seqT s2 hy, bx, by_, by decide, fun p2 n2 => ?_⟩
      have t2 := same_new n2 (.tup (rp (x - y)))
      have s3 := s2.trans t2
      refine ⟨_, rfl, _, rfl, a, b, x, y, 100, 100, rfl, seqT s3 hx, seqT s3 hy, bx, by_, by decide, fun p3 n3 => ?_⟩
      have t3 := same_new n3 (.tup (rp (x * y)))
      have s4 := s3.trans t3
      -- behind _law_over
      have fin : ∀ (v4 : V) (H4 : Hp), Same (upd (upd (upd H1 p1 (.tup (rp (x + y)))) p2 (.tup (rp (x - y)))) p3 (.tup (rp (x * y)))) H4 → (∀ H5, Same H4 H5 → Dp K H5 v4 (dD x y)) → tNil [some (.ref a), some (.ref b), some due, none, none] H4 fun xs H5 => ([V.ref p1, V.ref p2, V.ref p3, v4] ++ xs).length ≤ sizeLine ∧ ∀ p, H5 p = none → gName 3 (.ref p) [some (.ref a), some (.ref b), some due, none, none] (upd H5 p (.lst ([V.ref p1, V.ref p2, V.ref p3, v4] ++ xs)))
          ((tSeq (tIfS (tTest (tOp (rNeD K) (tVar 3) (tLst (tCons (tCall (spBin K (· + ·)) [] E0 (tCons (tVar 0) (tCons (tVar 1) tNil))) (tCons (tCall (spBin K (· - ·)) [] E0 (tCons (tVar 0) (tCons (tVar 1) tNil)))
            (tCons (tCall (spBin K (· * ·)) [] E0 (tCons (tVar 0) (tCons (tVar 1) tNil))) (tCons (tVar 2) tNil))))))) (tRet (tC (.bl false))) tNext)
            (tSeq (tAsg (tCall (spUnder K) [] E0 (tCons (tVar 0) (tCons (tVar 1) tNil))) (gName 4)) (tRet (tAndV (tCB (rIsi K) (tCons (tVar 4) (tCons (tC (.ty "bool")) tNil))) (tOp rEq (tVar 4) (tCall (spUnder K) [] E0 (tCons (tVar 0) (tCons (tVar 1) tNil)))))))) { nx := fun _ H' => Q .non H', rt := Q }) := by
        intro v4 H4 e4 hv4
        refine ⟨(by show 4 ≤ sizeLine; decide), fun pl nl => ?_⟩
        have t5 := same_new nl (.lst [V.ref p1, V.ref p2, V.ref p3, v4])
        have s5 := (s4.trans e4).trans t5
        -- the law's own
        refine ⟨.ref pl, rfl, ?_⟩
        refine ⟨_, rfl, _, rfl, a, b, x, y, 100, 100, rfl, seqT s5 hx, seqT s5 hy, bx, by_, by decide, fun p6 n6 => ?_⟩
        have t6 := same_new n6 (.tup (rp (x + y)))
        have s6 := s5.trans t6
        refine ⟨_, rfl, _, rfl, a, b, x, y, 100, 100, rfl, seqT s6 hx, seqT s6 hy, bx, by_, by decide, fun p7 n7 => ?_⟩
        have t7 := same_new n7 (.tup (rp (x - y)))
        have s7 := s6.trans t7
        refine ⟨_, rfl, _, rfl, a, b, x, y, 100, 100, rfl, seqT s7 hx, seqT s7 hy, bx, by_, by decide, fun p8 n8 => ?_⟩
        have t8 := same_new n8 (.tup (rp (x * y)))
        have s8 := s7.trans t8
        refine ⟨_, rfl, (by show 4 ≤ sizeLine; decide), fun pm nm => ?_⟩
        have t9 := same_new nm (.lst [V.ref p6, V.ref p7, V.ref p8, due])
        have s9 := s8.trans t9
        -- the two lists are alike
        have u4 := (((t5.trans t6).trans t7).trans t8).trans t9
        have u3 := e4.trans u4
        have u2 := t3.trans u3
        have u1 := t2.trans u2
        have w8 := t9
        have w7 := t8.trans w8
        have w6 := t7.trans w7
        have h1 : SqT K _ p1 (rp (x + y)) := seqT u1 (SqT.of upd_same)
        have h2 : SqT K _ p2 (rp (x - y)) := seqT u2 (SqT.of upd_same)
        have h3 : SqT K _ p3 (rp (x * y)) := seqT u3 (SqT.of upd_same)
        have h6 : SqT K _ p6 (rp (x + y)) := seqT w6 (SqT.of upd_same)
        have h7 : SqT K _ p7 (rp (x - y)) := seqT w7 (SqT.of upd_same)
        have h8 : SqT K _ p8 (rp (x * y)) := seqT w8 (SqT.of upd_same)
        have ml := ((((t6.trans t7).trans t8).trans t9) _ _ upd_same : _ = some (.lst [V.ref p1, V.ref p2, V.ref p3, v4]))
        have d1 : Dp K _ (.ref pl) (dL x y) := .lst (SqL.of ml) (.cons (dp_r h1) (.cons (dp_r h2) (.cons (dp_r h3) (.cons (hv4 _ u4) .nil))))
        have sd : Same H1 _ := ((((((same_new n1 (.tup (rp (x + y)))).trans t2).trans t3).trans e4).trans t5).trans (t6.trans (t7.trans (t8.trans t9))))
        have d2 : Dp K _ (.ref pm) (dL x y) := .lst (SqL.of upd_same) (.cons (dp_r h6) (.cons (dp_r h7) (.cons (dp_r h8) (.cons (hdue _ sd) .nil))))
        refine ⟨dL x y, dL x y, d1, d2, dL_shaped x y, dL_shaped x y, _, rfl, ?_⟩
        rw [SeqAt.eqv_refl _ (dL_lay x y)]
        refine iteF ?_
        -- under
        refine ⟨_, rfl, _, rfl, a, b, x, y, 100, 100, rfl, seqT s9 hx, seqT s9 hy, bx, by_, by decide, ?_⟩
        refine ⟨_, rfl, _, _, _, _, true, rfl, .ty "bool", .base (.bl _), kit_ty (by decide +kernel), _, rfl, iteT ?_⟩
        refine ⟨_, rfl, _, rfl, _, rfl, a, b, x, y, 100, 100, rfl, seqT s9 hx, seqT s9 hy, bx, by_, by decide, rfl, ?_⟩
        rw [decide_eq_true rfl]
        exact q _ s9
      refine ⟨_, rfl, _, rfl, a, b, x, y, 100, 100, rfl, seqT s4 hx, seqT s4 hy, bx, by_, by decide, fun e => ?_, fun e p4 n4 => ?_⟩
      · refine fin (.str "nought") _ (Same.refl _) (fun H5 _ => ?_)
        unfold dD
        rw [if_pos e]
        exact .str _
      · refine fin (.ref p4) _ (same_new n4 _) (fun H5 s5 => ?_)
        unfold dD
        rw [if_neg e]
        exact dp_r (seqT s5 (SqT.of upd_same))
    refine ⟨.ref b, rfl, b, rp y, 0, .int y.num, rfl, rfl, hy, at0 y, rfl, _, rfl, ite2 (fun c => ?_) (fun c => ?_)⟩
    · have h0 : y.num ≠ 0 := fun e => by
        rw [e] at c
        exact absurd c (by decide)
      refine ⟨.ref a, rfl, a, rp x, 0, .int x.num, rfl, rfl, hx, at0 x, .ref b, rfl, b, rp y, 1, .int (y.den : Int), rfl, rfl, hy, at1 y, _, _, rfl, rfl, wmul bx.1 by_.dn (by decide),
        .ref a, rfl, a, rp x, 1, .int (x.den : Int), rfl, rfl, hx, at1 x, .ref b, rfl, b, rp y, 0, .int y.num, rfl, rfl, hy, at0 y, _, _, rfl, rfl, wmul bx.dn by_.1 (by decide), _, _, 200, rfl, Fr.mul_bd bx.1 by_.dn, Fr.mul_bd bx.dn by_.1, Int.mul_ne_zero (Fr.den_ne x) h0, by decide, fun p hp => ?_⟩
      refine go (.ref p) _ (same_new hp _) (fun H2 s2 => ?_)
      unfold dD
      rw [if_neg h0, ← Fr.div_eq]
      exact dp_r (seqT s2 (SqT.of upd_same))
    · have h0 : y.num = 0 := by
        by_cases e : y.num = 0
        · exact e
        · exact absurd (by simp [e]) c
      refine go (.str "nought") H (Same.refl H) (fun H2 s2 => ?_)
      unfold dD
      rw [if_pos h0]
      exact .str _
end
end K2

set_option Elab.async false
set_option linter.all false
set_option maxRecDepth 100000
set_option maxHeartbeats 8000000
namespace K2
open PySem PySem.Spec PyProof.Rows L2 EXB
open Fr (Bd)
abbrev sLaw : Stmt := topS 24
theorem FrL.dp {K : PySem.W.Frag} {H : Hp} : ∀ {refs : List V} {qs : List Rat}, FrL K H refs qs → DpAll K H refs (qs.map dR)
  | [], [], _ => .nil
  | [], _ :: _, h => by have := h.len; simp at this
  | _ :: _, [], h => by have := h.len; simp at this
  | v :: refs, q :: qs, h => by
    obtain ⟨a, q', e1, rfl, e3, _⟩ := h.at_ 0 v rfl
    have e : q = q' := Option.some.inj e1
    subst e
    refine .cons (dp_r e3) (FrL.dp ⟨by have := h.len; simpa using this, fun i v e => ?_⟩)
    exact h.at_ (i + 1) v e
theorem lays : ∀ qs : List Rat, PyData.canLayAll0 (qs.map dR) = true
  | [] => rfl
  | q :: qs => by
    show (PyData.canLay0 (dR q) && PyData.canLayAll0 (qs.map dR)) = true
    rw [lays qs]
    rfl
theorem deps : ∀ qs : List Rat, PyData.depthAll (qs.map dR) ≤ 1
  | [] => by decide
  | q :: qs => by
    have := deps qs
    show max (PyData.depth (dR q)) (PyData.depthAll (qs.map dR)) ≤ 1
    rw [dR_depth]
    omega
theorem list_lay (qs : List Rat) : (PyData.list (qs.map dR)).canLay0 = true := lays qs
theorem list_shaped (qs : List Rat) : SeqAt.shaped (.list (qs.map dR)) = true := by
  unfold SeqAt.shaped
  rw [list_lay, Bool.true_and]
  refine decide_eq_true ?_
  have := deps qs
  show PyData.depthAll (qs.map dR) + 1 ≤ 64
  omega
theorem FrL.rev {K : PySem.W.Frag} {H : Hp} {refs : List V} {qs : List Rat} (h : FrL K H refs qs) : FrL K H refs.reverse qs.reverse := by
  refine ⟨by rw [List.length_reverse, List.length_reverse, h.len], fun i v e => ?_⟩
  have hi : i < refs.length := by
    have := (List.getElem?_eq_some_iff.mp e).1
    rw [List.length_reverse] at this
    exact this
  rw [List.getElem?_reverse hi] at e
  obtain ⟨a, q, e1, e2, e3, e4⟩ := h.at_ _ v e
  refine ⟨a, q, ?_, e2, e3, e4⟩
  rw [List.getElem?_reverse (by rw [← h.len]; exact hi), ← h.len]
  exact e1
theorem cut_mem {xs : List V} {lo hi : Option Int} {x : V} (h : x ∈ cutV xs lo hi) : x ∈ xs := List.mem_of_mem_drop (List.mem_of_mem_take h)
theorem FrL.mem {K : PySem.W.Frag} {H : Hp} {refs : List V} {qs : List Rat} {v : V} (h : FrL K H refs qs) (hv : v ∈ refs) : ∃ (a : Addr) (q : Rat), v = .ref a ∧ SqT K H a (rp q) ∧ Bd 100 q := by
  obtain ⟨i, hi, e⟩ := List.getElem_of_mem hv
  obtain ⟨a, q, _, e2, e3, e4⟩ := h.at_ i v (by rw [List.getElem?_eq_getElem hi, e])
  exact ⟨a, q, e2, e3, e4⟩
theorem int_of {ns : List Int} {x : V} {lo hi : Option Int} {z : Int} {i : Nat} (h : (cutV (ns.map V.int) lo hi ++ [V.int z])[i]? = some x) : ∃ c : Int, x = .int c := by
  have hm := List.mem_of_getElem? h
  rcases List.mem_append.mp hm with hm | hm
  · obtain ⟨c, _, e⟩ := List.mem_map.mp (cut_mem hm)
    exact ⟨c, e.symm⟩
  · exact ⟨z, by simpa using hm⟩
theorem bd1 {q : Rat} (h : q.num.natAbs ≤ 7) (h2 : q.den ≤ 3) : Bd 100 q := ⟨Nat.lt_of_le_of_lt h (by decide), Nat.lt_of_le_of_lt h2 (by decide)⟩
def r23 : Rat := ⟨2, 3, by decide, by decide⟩
def r72 : Rat := ⟨7, 2, by decide, by decide⟩
def spLaw (K : PySem.W.Frag) : Sp := fun vs H Q _ => ∃ (a : Addr) (ns : List Int), vs = [.ref a] ∧ SqL K H a (ns.map V.int) ∧ ns.length ≤ 63 ∧ ∀ H', Q (.bl true) H'
section
variable {P : Program} {w : World} {K : PySem.W.Frag} {mg : Str → Option Value} {base : Heap} {C fI : Addr}
theorem scLaw : FnScope ["_law_script", "_law_cell", "_law_left_here", "_law_some_here", "_law_kept", "_law_due", "_law_one", "_law_other", "_law_begin"] ["_law_script"] (defScope sLaw) := ⟨rfl, rfl, rfl, by decide +kernel, rfl, by decide +kernel, by decide +kernel⟩
/-- the defs that the law calls -/
structure Defs2 (P : Program) (w : World) (K : PySem.W.Frag) (mg : Str → Option Value) (base : Heap) (C : Addr) (k : Nat) : Prop where
  left : ∃ f fd, FnOk P w K mg base CX0 k f fd ["_law_cell"] spLeft ∧ PySem.W.keepIn K (.ref f) = true ∧ Binds K fd ["_law_cell"] [] ∧ mg "_law_left" = some (.ref f)
  some_ : ∃ f fd, FnOk P w K mg base CX0 k f fd ["_law_left_here"] (spSome K) ∧ PySem.W.keepIn K (.ref f) = true ∧ Binds K fd ["_law_left_here"] [] ∧ mg "_law_some" = some (.ref f)
  lplus : ∃ f fd, FnOk P w K mg base CX0 k f fd ["_law_one", "_law_other"] (spBin K (· + ·)) ∧ PySem.W.keepIn K (.ref f) = true ∧ Binds K fd ["_law_one", "_law_other"] [] ∧ mg "_law_plus" = some (.ref f)
  right : ∃ f fd, FnOk P w K mg base CX0 k f fd ["_law_one", "_law_other"] (spRight K) ∧ PySem.W.keepIn K (.ref f) = true ∧ Binds K fd ["_law_one", "_law_other"] [] ∧ mg "_law_right" = some (.ref f)
  isr : ∃ f fd, FnOk P w K mg base CX0 k f fd ["thing"] (spIsR K) ∧ PySem.W.keepIn K (.ref f) = true ∧ Binds K fd ["thing"] [] ∧ mg "is_ratio" = some (.ref f)
  over : ∃ f fd, FnOk P w K mg base (L2.CX P w) k f fd ["one", "other"] (spOver K C) ∧ PySem.W.keepIn K (.ref f) = true ∧ Binds K fd ["one", "other"] [] ∧ mg "over" = some (.ref f)
  total : ∃ f fd, FnOk P w K mg base CX0 k f fd ["some", "start"] (spTotal K) ∧ PySem.W.keepIn K (.ref f) = true ∧ (∃ ds, Vals [V.non] ds ∧ Binds K fd ["some", "start"] ds) ∧ Binds K fd ["some", "start"] [] ∧
    KBn K fd ["some", "start"] 1 ["start"] (fun us ws => us ++ ws) (fun vs zs => vs ++ zs) ∧ mg "total" = some (.ref f)
theorem ok_law {f : Addr} {fd : FuncData} {k : Nat} (F : Fun K "law" "law" sLaw f fd) (D : Defs2 P w K mg base C k) (B : Blt mg) : FnOk P w K mg base CX0 (k + 1) f fd ["_law_script"] (spLaw K) := by
  obtain ⟨f1, fd1, G1, k1, b1, g1⟩ := D.left
  obtain ⟨f2, fd2, G2, k2, b2, g2⟩ := D.some_
  obtain ⟨f3, fd3, G3, k3, b3, g3⟩ := D.lplus
  obtain ⟨f4, fd4, G4, k4, b4, g4⟩ := D.right
  obtain ⟨f5, fd5, G5, k5, b5, g5⟩ := D.isr
  obtain ⟨f6, fd6, G6, k6, b6, g6⟩ := D.over
  obtain ⟨f7, fd7, G7, k7, ⟨ds, vd, b7d⟩, b7, b7k, g7⟩ := D.total
  refine F.ok scLaw (fun vs H Q E h => ?_) (fun cdv A outer s H vs Q E hr h => ?_)
  · obtain ⟨a, ns, rfl, _⟩ := h
    rfl
  · obtain ⟨a, ns, rfl, hS, hlen, q⟩ := h
    refine ⟨_, (pss_cons (ps_if (PW.pt (pw_or (pt_cmpR (op_neD hr.units) (pe_call G7 hr (by rfl) g7 k7 b7d vd pass0 (pa_cons (pe_lst pa_nil) pa_nil)) (pe_tup (pa_cons pe_int (pa_cons pe_int pa_nil))) (nomark _)) (pw_or1 (pt_cmpR (op_neD hr.units) (pe_call G7 hr (by rfl) g7 k7 b7 .nil pass0 (pa_cons (pe_lst pa_nil) (pa_cons (pe_tup (pa_cons pe_int (pa_cons pe_int pa_nil))) pa_nil))) (pe_tup (pa_cons pe_int (pa_cons pe_int pa_nil))) (nomark _))))) (pss_one (ps_ret pe_bl)) pss_nil)
        (pss_cons (ps_for PassesOwn.never rfl (pi_list (pe_op op_cat (pe_slice sl_list (pv 0) po_none (po_some pe_int)) (pe_lst (pa_cons pe_int pa_nil)))) (pg_name (i := 1) scLaw.nd rfl (.inl rfl)) (pss_cons (ps_set (i := 2) scLaw.nd rfl (.inl rfl) (pe_call G1 hr (by rfl) g1 k1 b1 .nil pass0 (pa_cons (pv 1) pa_nil)))
        (pss_cons (ps_set (i := 3) scLaw.nd rfl (.inl rfl) (pe_call G2 hr (by rfl) g2 k2 b2 .nil pass0 (pa_cons (pv 2) pa_nil)))
        (pss_cons (ps_set (i := 4) scLaw.nd rfl (.inl rfl) (pe_callTy call_list_of (by rfl) B.list (by decide +kernel) (pa_cons (pv 3) pa_nil)))
        (pss_cons (ps_set (i := 5) scLaw.nd rfl (.inl rfl) (pe_tup (pa_cons pe_int (pa_cons pe_int pa_nil))))
        (pss_cons (ps_for PassesOwn.never rfl (pi_list (pv 3)) (pg_name (i := 6) scLaw.nd rfl (.inl rfl)) (pss_cons (ps_set (i := 5) scLaw.nd rfl (.inl rfl) (pe_call G3 hr (by rfl) g3 k3 b3 .nil pass0 (pa_cons (pv 5) (pa_cons (pv 6) pa_nil))))
        (pss_one (ps_for PassesOwn.never rfl (pi_list (pe_slice sl_list (pv 3) po_none (po_some pe_int))) (pg_name (i := 7) scLaw.nd rfl (.inl rfl)) (pss_one (ps_if (pt_not (pt_val (pe_call G4 hr (by rfl) g4 k4 b4 .nil pass0 (pa_cons (pv 6) (pa_cons (pv 7) pa_nil))))) (pss_one (ps_ret pe_bl)) pss_nil))))))
        (pss_cons (ps_set (i := 8) scLaw.nd rfl (.inl rfl) (pe_ix ix_list (pe_op op_cat (pv 3) (pe_lst (pa_cons (pe_tup (pa_cons pe_int (pa_cons pe_int pa_nil))) pa_nil))) pe_int (fun _ _ => rfl)))
        (pss_cons (ps_if (PW.pt (pw_or (pt_not (pt_val (pe_call G5 hr (by rfl) g5 k5 b5 .nil pass0 (pa_cons (pe_call G7 hr (by rfl) g7 k7 b7d vd pass0 (pa_cons (pv 3) pa_nil)) pa_nil)))) (pw_or1 (PW.pt (pw_and (pt_cmpR op_ne (pe_ix ix_tup (pv 5) pe_int (fun _ _ => rfl)) pe_int (nomark _)) (pw_and1 (pt_cmpR (op_neD hr.units) (pe_call G6 hr (by rfl) g6 k6 b6 .nil passL (pa_cons (pe_call G7 hr (by rfl) g7 k7 b7d vd pass0 (pa_cons (pv 3) pa_nil)) (pa_cons (pv 5) pa_nil))) (pe_tup (pa_cons pe_int (pa_cons pe_int pa_nil))) (nomark _)))))))) (pss_one (ps_ret pe_bl)) pss_nil)
        (pss_cons (ps_if (PW.pt (pw_or (pt_cmpR (op_neD hr.units) (pe_call G7 hr (by rfl) g7 k7 b7d vd pass0 (pa_cons (pv 3) pa_nil)) (pv 5) (nomark _)) (pw_or1 (pt_cmpR (op_neD hr.units) (pe_call G7 hr (by rfl) g7 k7 b7 .nil pass0 (pa_cons (pv 3) (pa_cons (pv 8) pa_nil))) (pe_call G3 hr (by rfl) g3 k3 b3 .nil pass0 (pa_cons (pv 5) (pa_cons (pv 8) pa_nil))) (nomark _))))) (pss_one (ps_ret pe_bl)) pss_nil)
        (pss_one (ps_if (PW.pt (pw_or (pt_cmpR (op_neD hr.units) (pe_callN G7 hr (by rfl) g7 k7 b7k pass0 (pa_cons (pe_revL (pv 3)) pa_nil) (pk_cons (pv 8) pk_nil)) (pe_call G3 hr (by rfl) g3 k3 b3 .nil pass0 (pa_cons (pv 5) (pa_cons (pv 8) pa_nil))) (nomark _)) (pw_or1 (pt_cmpR (op_neD hr.units) (pv 3) (pv 4) (nomark _))))) (pss_one (ps_ret pe_bl)) pss_nil)))))))))))
        (pss_one (ps_ret pe_bl)))), ?_⟩
    -- total([]) != (0, 1)
    refine ⟨Nat.zero_le _, fun p1 n1 => ?_⟩
    have z1 := same_new n1 (.lst [])
    refine ⟨p1, .non, [], [], 0, 100, rfl, SqL.of upd_same, FrL.nil, by decide, bd1 (by decide) (by decide), by decide, .inl ⟨rfl, rfl⟩, fun r2 H2 z2 e2 => ?_⟩
    refine ⟨(by show 2 ≤ sizeLine; decide), fun p3 n3 => ?_⟩
    have z3 := same_new n3 (.tup [V.int 0, V.int 1])
    refine ⟨dR 0, dR 0, dp_r (seqT z3 (by rw [List.sum_nil, Rat.add_zero] at e2; exact e2)), dp_r (q := 0) (SqT.of upd_same), dR_shaped _, dR_shaped _, _, rfl, ?_⟩
    rw [SeqAt.eqv_refl _ (dR_lay 0)]
    refine iteF ?_
    -- total([], (2, 3)) != (2, 3)
    refine ⟨Nat.zero_le _, fun p4 n4 => ?_⟩
    have z4 := same_new n4 (.lst [])
    refine ⟨(by show 2 ≤ sizeLine; decide), fun p5 n5 => ?_⟩
    have z5 := same_new n5 (.tup [V.int 2, V.int 3])
    refine ⟨p4, .ref p5, [], [], r23, 100, rfl, SqL.of (z5 _ _ upd_same), FrL.nil, by decide, bd1 (by decide) (by decide), by decide, .inr ⟨p5, rfl, SqT.of upd_same⟩, fun r6 H6 z6 e6 => ?_⟩
    refine ⟨(by show 2 ≤ sizeLine; decide), fun p7 n7 => ?_⟩
    have z7 := same_new n7 (.tup [V.int 2, V.int 3])
    refine ⟨dR r23, dR r23, dp_r (seqT z7 (by rw [List.sum_nil, Rat.add_zero] at e6; exact e6)), dp_r (q := r23) (SqT.of upd_same), dR_shaped _, dR_shaped _, _, rfl, ?_⟩
    rw [SeqAt.eqv_refl _ (dR_lay r23)]
    refine iteF ?_
    have y7 := (((((z1.trans z2).trans z3).trans z4).trans z5).trans z6).trans z7
    -- for cell in script[:20] + [5]
    refine ⟨.ref a, rfl, 20, rfl, a, ns.map V.int, rfl, y7.seq hS, fun p8 n8 => ?_⟩
    have z8 := same_new n8 (.lst (cutV (ns.map V.int) none (some 20)))
    refine ⟨(by show 1 ≤ sizeLine; decide), fun p9 n9 => ?_⟩
    have z9 := same_new n9 (.lst [V.int 5])
    refine ⟨p8, p9, _, _, rfl, rfl, z9 _ _ upd_same, upd_same, ?_, fun L nL => ?_⟩
    · have h1 := cutV_length (ns.map V.int) none (some 20)
      rw [List.length_map] at h1
      rw [List.length_singleton]
      exact Nat.le_of_lt (small1000 (by omega))
    refine ⟨L, rfl, ⟨_, SqL.of upd_same⟩, for_list (K := K) (a := L) (xs := cutV (ns.map V.int) none (some 20) ++ [V.int 5]) (fun i σ H' => ∃ y1 y2 y3 y4 y5 y6 y7 y8 : Option V, σ = [some (.ref a), y1, y2, y3, y4, y5, y6, y7, y8] ∧ H' L = some (.lst (cutV (ns.map V.int) none (some 20) ++ [V.int 5])))
      ⟨none, none, none, none, none, none, none, none, rfl, upd_same⟩ (fun i σ H' _ ⟨_, _, _, _, _, _, _, _, _, e⟩ => SqL.of e) ?_ ?_⟩
    · rintro i x σ H0 hi ⟨y1, y2, y3, y4, y5, y6, y7, y8, rfl, hL⟩
      obtain ⟨c, rfl⟩ := int_of hi
      -- left, some
      refine ⟨_, rfl, c, rfl, fun l n nl => ?_⟩
      have hLl : L ≠ l := ne_of_none hL nl
      refine ⟨_, rfl, l, n, rfl, upd_same, fun r H1 refs qs sb hr1 fr1 q8 => ?_⟩
      have hL1 : H1 L = some (.lst (cutV (ns.map V.int) none (some 20) ++ [V.int 5])) := sb L _ hLl (by rw [upd_ne hLl]; exact hL)
      -- kept = list(some)
      refine ⟨_, rfl, r, refs, rfl, .inl (SqL.of hr1), fun kp nk => ?_⟩
      have s1 := same_new nk (.lst refs)
      -- due = (0, 1)
      refine ⟨(by show 2 ≤ sizeLine; decide), fun du nd => ?_⟩
      have s2 := same_new nd (.tup [V.int 0, V.int 1])
      have s12 := s1.trans s2
      have hkp : (upd (upd H1 kp (.lst refs)) du (.tup [V.int 0, V.int 1])) kp = some (.lst refs) := s2 _ _ upd_same
      -- for one in some
      refine ⟨_, rfl, r, rfl, ⟨_, SqL.of (s12 _ _ hr1)⟩, for_list (K := K) (a := r) (xs := refs) (fun i σ H' => ∃ (c5 : Addr) (y6 y7 y8 : Option V), σ = [some (.ref a), some (.int c), some (.ref l), some (.ref r), some (.ref kp), some (.ref c5), y6, y7, y8] ∧ Same (upd (upd H1 kp (.lst refs)) du (.tup [V.int 0, V.int 1])) H' ∧ SqT K H' c5 (rp (qs.take i).sum) ∧ Bd (100 + 101 * i) (qs.take i).sum)
        ⟨du, _, _, _, rfl, Same.refl _, SqT.of upd_same, bd1 (q := 0) (by decide) (by decide)⟩ (fun i σ H' _ ⟨_, _, _, _, _, s5, _⟩ => SqL.of (s5 _ _ (s12 _ _ hr1))) ?_ ?_⟩
      · rintro j x σ H2 hj ⟨c5, y6, y7, y8, rfl, s5, hc5, hb5⟩
        obtain ⟨a6, q6, e1, rfl, e3, e4⟩ := fr1.at_ j x hj
        have hjl : j < qs.length := by
          rw [← fr1.len]
          exact (List.getElem?_eq_some_iff.mp hj).1
        refine ⟨_, rfl, _, rfl, c5, a6, _, q6, _, 100, rfl, hc5, seqT (s12.trans s5) e3, hb5, e4, by omega, fun p hp => ?_⟩
        have s6 := s5.trans (same_new hp (.tup (rp ((qs.take j).sum + q6))))
        refine ⟨.ref r, rfl, 4, rfl, r, refs, rfl, SqL.of (s6 _ _ (s12 _ _ hr1)), fun p4 n4 => ?_⟩
        have t7 := same_new n4 (.lst (cutV refs none (some 4)))
        have s7 := s6.trans t7
        refine ⟨p4, rfl, ⟨_, SqL.of upd_same⟩, for_list (K := K) (a := p4) (xs := cutV refs none (some 4)) (fun i σ H' => ∃ y7 y8 : Option V, σ = [some (.ref a), some (.int c), some (.ref l), some (.ref r), some (.ref kp), some (.ref p), some (.ref a6), y7, y8] ∧ Same (upd (upd H2 p (.tup (rp ((qs.take j).sum + q6)))) p4 (.lst (cutV refs none (some 4)))) H')
          ⟨_, _, rfl, Same.refl _⟩ (fun i σ H' _ ⟨_, _, _, s8⟩ => SqL.of (s8 _ _ upd_same)) ?_ ?_⟩
        · rintro m x σ H3 hm ⟨y7, y8, rfl, s8⟩
          obtain ⟨a7, q7, rfl, e5, e6⟩ := fr1.mem (cut_mem (List.mem_of_getElem? hm))
          refine ⟨_, rfl, _, rfl, a6, a7, q6, q7, rfl, seqT (s12.trans (s7.trans s8)) e3, seqT (s12.trans (s7.trans s8)) e5, e4, e6, fun H4 s9 => ?_⟩
          refine ⟨true, rfl, iteF ?_⟩
          exact ⟨_, _, rfl, s8.trans s9⟩
        · rintro σ H3 ⟨y7, y8, rfl, s8⟩
          refine ⟨p, _, _, _, rfl, s7.trans s8, ?_, ?_⟩
          · rw [sum_snoc e1]
            exact seqT (t7.trans s8) (SqT.of upd_same)
          · rw [sum_snoc e1]
            exact (Fr.bd_add hb5 e4).mono (by omega)
      · rintro σ H2 ⟨c5, y6, y7, y8, rfl, s5, hc5, hb5⟩
        rw [fr1.len, List.take_length] at hc5 hb5
        have hb6 : Bd 1000 qs.sum := hb5.mono (by omega)
        have sA := s12.trans s5
        -- begin = (some + [(7, 2)])[0]
        refine ⟨.ref r, rfl, ?_⟩
        refine ⟨(by show 2 ≤ sizeLine; decide), fun p7 n7 => ?_⟩
        have t1 := same_new n7 (.tup [V.int 7, V.int 2])
        refine ⟨(by show 1 ≤ sizeLine; decide), fun p8 n8 => ?_⟩
        have t2 := same_new n8 (.lst [V.ref p7])
        have sB := (sA.trans t1).trans t2
        refine ⟨r, p8, refs, _, rfl, rfl, sB _ _ hr1, upd_same, ?_, fun p9 n9 => ?_⟩
        · rw [fr1.len, List.length_singleton]
          exact Nat.le_of_lt (small1000 (by omega))
        have t3 := same_new n9 (.lst (refs ++ [V.ref p7]))
        have sC := sB.trans t3
        have fr2 : FrL K _ (refs ++ [V.ref p7]) (qs ++ [r72]) := (fr1.same sC).snoc (q := r72) (seqT (t2.trans t3) (SqT.of upd_same)) (bd1 (by decide) (by decide))
        obtain ⟨v0, hv0⟩ : ∃ v0, (refs ++ [V.ref p7])[0]? = some v0 := by
          cases refs with
          | nil => exact ⟨_, rfl⟩
          | cons v r => exact ⟨_, rfl⟩
        obtain ⟨ab, qb, _, rfl, eb, bb⟩ := fr2.at_ 0 v0 hv0
        refine ⟨p9, _, 0, .ref ab, rfl, rfl, SqL.of upd_same, atI_nat (j := 0) hv0, ?_⟩
        have tD := (t1.trans t2).trans t3
        have hcD := seqT tD hc5
        have e0 : (0 : Rat) + qs.sum = qs.sum := Rat.zero_add _
        -- not is_ratio(total(some))
        refine ⟨_, rfl, r, .non, refs, qs, 0, 100, rfl, SqL.of (sC _ _ hr1), fr1.same sC, by omega, bd1 (by decide) (by decide), by decide, .inl ⟨rfl, rfl⟩, fun rt H3 s3 e3 => ?_⟩
        refine ⟨rt, _, rfl, e3, true, rfl, iteF ?_⟩
        have sE := sC.trans s3
        have hcE := seqT s3 hcD
        have hkE := s3 _ _ (tD _ _ (s5 _ _ hkp))
        have ebE := seqT s3 eb
        refine ⟨.ref c5, rfl, c5, rp qs.sum, 0, .int qs.sum.num, rfl, rfl, hcE, at0 _, rfl, _, rfl, ?_⟩
        by_cases h0 : qs.sum.num = 0
        · rw [h0]
          refine iteF (iteF ?_)
          -- total(some) != due
          refine ⟨_, rfl, r, .non, refs, qs, 0, 100, rfl, SqL.of (sE _ _ hr1), fr1.same sE, by omega, bd1 (by decide) (by decide), by decide, .inl ⟨rfl, rfl⟩, fun rv H5 s5 e5 => ?_⟩
          rw [e0] at e5
          refine ⟨.ref c5, rfl, dR qs.sum, dR qs.sum, dp_r e5, dp_r (seqT s5 hcE), dR_shaped _, dR_shaped _, _, rfl, ?_⟩
          rw [SeqAt.eqv_refl _ (dR_lay qs.sum)]
          refine iteF ?_
          replace sE := sE.trans s5
          replace hcE := seqT s5 hcE
          replace hkE := s5 _ _ hkE
          replace ebE := seqT s5 ebE
          -- total(some, begin) != _law_plus(due, begin)
          refine ⟨_, rfl, _, rfl, r, .ref ab, refs, qs, qb, 100, rfl, SqL.of (sE _ _ hr1), fr1.same sE, by omega, bb, by decide, .inr ⟨ab, rfl, ebE⟩, fun rw_ H6 s6 e6 => ?_⟩
          replace sE := sE.trans s6
          replace hcE := seqT s6 hcE
          replace hkE := s6 _ _ hkE
          replace ebE := seqT s6 ebE
          refine ⟨_, rfl, _, rfl, c5, ab, qs.sum, qb, 1000, 100, rfl, hcE, ebE, hb6, bb, by decide, fun py ny => ?_⟩
          have s7 := same_new ny (.tup (rp (qs.sum + qb)))
          refine ⟨dR (qs.sum + qb), dR (qs.sum + qb), dp_r (seqT s7 (by rw [Rat.add_comm qb] at e6; exact e6)), dp_r (SqT.of upd_same), dR_shaped _, dR_shaped _, _, rfl, ?_⟩
          rw [SeqAt.eqv_refl _ (dR_lay (qs.sum + qb))]
          refine iteF ?_
          replace sE := sE.trans s7
          replace hcE := seqT s7 hcE
          replace hkE := s7 _ _ hkE
          replace ebE := seqT s7 ebE
          -- total(some[::-1], start=begin) != _law_plus(due, begin)
          refine ⟨.ref r, rfl, r, refs, rfl, SqL.of (sE _ _ hr1), fun pr nr => ?_⟩
          have s8 := same_new nr (.lst refs.reverse)
          replace sE := sE.trans s8
          replace hcE := seqT s8 hcE
          replace hkE := s8 _ _ hkE
          replace ebE := seqT s8 ebE
          refine ⟨_, rfl, rfl, rfl, pr, .ref ab, refs.reverse, qs.reverse, qb, 100, rfl, SqL.of upd_same, (fr1.same sE).rev, by rw [List.length_reverse]; omega, bb, by decide, .inr ⟨ab, rfl, ebE⟩, fun rz H7 s9 e9 => ?_⟩
          replace sE := sE.trans s9
          replace hcE := seqT s9 hcE
          replace hkE := s9 _ _ hkE
          replace ebE := seqT s9 ebE
          refine ⟨_, rfl, _, rfl, c5, ab, qs.sum, qb, 1000, 100, rfl, hcE, ebE, hb6, bb, by decide, fun pz nz => ?_⟩
          have s10 := same_new nz (.tup (rp (qs.sum + qb)))
          refine ⟨dR (qs.sum + qb), dR (qs.sum + qb), dp_r (seqT s10 (by rw [Fr.sum_rev, Rat.add_comm qb] at e9; exact e9)), dp_r (SqT.of upd_same), dR_shaped _, dR_shaped _, _, rfl, ?_⟩
          rw [SeqAt.eqv_refl _ (dR_lay (qs.sum + qb))]
          refine iteF ?_
          replace sE := sE.trans s10
          replace hkE := s10 _ _ hkE
          -- some != kept
          refine ⟨.ref r, rfl, .ref kp, rfl, .list (qs.map dR), .list (qs.map dR), .lst (SqL.of (sE _ _ hr1)) (fr1.same sE).dp, .lst (SqL.of (hkE)) (fr1.same sE).dp, list_shaped _, list_shaped _, _, rfl, ?_⟩
          rw [SeqAt.eqv_refl _ (list_lay qs)]
          refine iteF ?_
          exact ⟨_, _, _, _, _, _, _, _, rfl, sE _ _ hL1⟩
        · have h0' : qs.sum ≠ 0 := fun e => h0 (by rw [e]; rfl)
          have hne : (!decide (V.int qs.sum.num = V.int 0)) = true := by simp [h0]
          rw [hne]
          refine iteT ?_
          refine ⟨_, rfl, r, .non, refs, qs, 0, 100, rfl, SqL.of (sE _ _ hr1), fr1.same sE, by omega, bd1 (by decide) (by decide), by decide, .inl ⟨rfl, rfl⟩, fun ru H4 s4 e4 => ?_⟩
          rw [e0] at e4
          refine ⟨_, rfl, ru, c5, qs.sum, qs.sum, 1000, 1000, rfl, e4, seqT s4 hcE, hb6, hb6, by decide, fun z => absurd z h0, fun _ pw nw => ?_⟩
          rw [Fr.div_self' h0']
          have s6 := same_new nw (.tup (rp 1))
          refine ⟨(by show 2 ≤ sizeLine; decide), fun px nx => ?_⟩
          have s7 := same_new nx (.tup [V.int 1, V.int 1])
          refine ⟨dR 1, dR 1, dp_r (seqT s7 (SqT.of upd_same)), dp_r (q := 1) (SqT.of upd_same), dR_shaped _, dR_shaped _, _, rfl, ?_⟩
          rw [SeqAt.eqv_refl _ (dR_lay 1)]
          refine iteF ?_
          replace s7 := (s4.trans s6).trans s7
          replace sE := sE.trans s7
          replace hcE := seqT s7 hcE
          replace hkE := s7 _ _ hkE
          replace ebE := seqT s7 ebE
          -- total(some) != due
          refine ⟨_, rfl, r, .non, refs, qs, 0, 100, rfl, SqL.of (sE _ _ hr1), fr1.same sE, by omega, bd1 (by decide) (by decide), by decide, .inl ⟨rfl, rfl⟩, fun rv H5 s5 e5 => ?_⟩
          rw [e0] at e5
          refine ⟨.ref c5, rfl, dR qs.sum, dR qs.sum, dp_r e5, dp_r (seqT s5 hcE), dR_shaped _, dR_shaped _, _, rfl, ?_⟩
          rw [SeqAt.eqv_refl _ (dR_lay qs.sum)]
          refine iteF ?_
          replace sE := sE.trans s5
          replace hcE := seqT s5 hcE
          replace hkE := s5 _ _ hkE
          replace ebE := seqT s5 ebE
          -- total(some, begin) != _law_plus(due, begin)
          refine ⟨_, rfl, _, rfl, r, .ref ab, refs, qs, qb, 100, rfl, SqL.of (sE _ _ hr1), fr1.same sE, by omega, bb, by decide, .inr ⟨ab, rfl, ebE⟩, fun rw_ H6 s6 e6 => ?_⟩
          replace sE := sE.trans s6
          replace hcE := seqT s6 hcE
          replace hkE := s6 _ _ hkE
          replace ebE := seqT s6 ebE
          refine ⟨_, rfl, _, rfl, c5, ab, qs.sum, qb, 1000, 100, rfl, hcE, ebE, hb6, bb, by decide, fun py ny => ?_⟩
          have s7 := same_new ny (.tup (rp (qs.sum + qb)))
          refine ⟨dR (qs.sum + qb), dR (qs.sum + qb), dp_r (seqT s7 (by rw [Rat.add_comm qb] at e6; exact e6)), dp_r (SqT.of upd_same), dR_shaped _, dR_shaped _, _, rfl, ?_⟩
          rw [SeqAt.eqv_refl _ (dR_lay (qs.sum + qb))]
          refine iteF ?_
          replace sE := sE.trans s7
          replace hcE := seqT s7 hcE
          replace hkE := s7 _ _ hkE
          replace ebE := seqT s7 ebE
          -- total(some[::-1], start=begin) != _law_plus(due, begin)
          refine ⟨.ref r, rfl, r, refs, rfl, SqL.of (sE _ _ hr1), fun pr nr => ?_⟩
          have s8 := same_new nr (.lst refs.reverse)
          replace sE := sE.trans s8
          replace hcE := seqT s8 hcE
          replace hkE := s8 _ _ hkE
          replace ebE := seqT s8 ebE
          refine ⟨_, rfl, rfl, rfl, pr, .ref ab, refs.reverse, qs.reverse, qb, 100, rfl, SqL.of upd_same, (fr1.same sE).rev, by rw [List.length_reverse]; omega, bb, by decide, .inr ⟨ab, rfl, ebE⟩, fun rz H7 s9 e9 => ?_⟩
          replace sE := sE.trans s9
          replace hcE := seqT s9 hcE
          replace hkE := s9 _ _ hkE
          replace ebE := seqT s9 ebE
          refine ⟨_, rfl, _, rfl, c5, ab, qs.sum, qb, 1000, 100, rfl, hcE, ebE, hb6, bb, by decide, fun pz nz => ?_⟩
          have s10 := same_new nz (.tup (rp (qs.sum + qb)))
          refine ⟨dR (qs.sum + qb), dR (qs.sum + qb), dp_r (seqT s10 (by rw [Fr.sum_rev, Rat.add_comm qb] at e9; exact e9)), dp_r (SqT.of upd_same), dR_shaped _, dR_shaped _, _, rfl, ?_⟩
          rw [SeqAt.eqv_refl _ (dR_lay (qs.sum + qb))]
          refine iteF ?_
          replace sE := sE.trans s10
          replace hkE := s10 _ _ hkE
          -- some != kept
          refine ⟨.ref r, rfl, .ref kp, rfl, .list (qs.map dR), .list (qs.map dR), .lst (SqL.of (sE _ _ hr1)) (fr1.same sE).dp, .lst (SqL.of (hkE)) (fr1.same sE).dp, list_shaped _, list_shaped _, _, rfl, ?_⟩
          rw [SeqAt.eqv_refl _ (list_lay qs)]
          refine iteF ?_
          exact ⟨_, _, _, _, _, _, _, _, rfl, sE _ _ hL1⟩
    · rintro σ H' _
      exact q H'
end
end K2

set_option Elab.async false
set_option linter.all false
set_option maxRecDepth 100000
set_option maxHeartbeats 8000000
namespace K2
open PySem PySem.Spec PyProof.Rows L2 EXB
/-- an error of the class at S is what «except S» names -/
theorem exm_self {K : PySem.W.Frag} {S : Addr} (h1 : PySem.W.subIn K (.ref S) (.type "BaseException") = some true) (h2 : PySem.W.isClsIn K S = true) (h3 : PySem.W.typeIn K (.ref S) = some (.type "type")) (h4 : PySem.W.subIn K (.ref S) (.ref S) = some true) :
    PySem.W.exmOne K (.ref S) (.ref S) = some true := by
  have e1 : (PySem.W.subIn K (.ref S) (.type "BaseException") == some true) = true := by rw [h1] <;> rfl
  have e2 : ((PySem.W.clsIn K S).isSome && PySem.W.typeIn K (.ref S) == some (.type "type")) = true := by
    have h2' : (PySem.W.clsIn K S).isSome = true := h2
    rw [h2', h3] <;> rfl
  show (if (PySem.W.subIn K (.ref S) (.type "BaseException") == some true) = true then (if ((PySem.W.clsIn K S).isSome && PySem.W.typeIn K (.ref S) == some (.type "type")) = true then PySem.W.subIn K (.ref S) (.ref S) else none) else none) = some true
  rw [if_pos e1, if_pos e2]
  exact h4
theorem all_mk {l : PySem.W.OpenLaw} {w : World} {K : PySem.W.Frag} {h : Heap} {mg : Str → Option Value} {fa C fI fT T f1 f2 f3 f4 f5 f6 f7 f8 f9 f10 f11 f12 f13 f14 f15 f16 f17 f18 f19 f20 : Addr} {oT : Obj} {nT : Nat} (X : K.In h) (G : h.Ns mainGlobals mg) (hfa : mg "law" = some (.ref fa))
    {nm q : Str} {N : Addr} {bs : List Value} {sn : List Str} {sub : List Value} {ab : Bool} {col : Option Bool} {dd : Option Addr} {m0 m1 m2 m3 m5 : Option Value}
    {od1 an1 : Option Addr} {sl1 : Array (Option Value)} {oc1 kV1 dc1 pm1 cd1 ct1 : Value}
    {od2 an2 : Option Addr} {sl2 : Array (Option Value)} {oc2 kV2 dc2 pm2 cd2 ct2 : Value}
    {od3 an3 : Option Addr} {sl3 : Array (Option Value)} {oc3 kV3 dc3 pm3 cd3 ct3 : Value}
    {od4 an4 : Option Addr} {sl4 : Array (Option Value)} {oc4 kV4 dc4 pm4 cd4 ct4 : Value}
    {od5 an5 : Option Addr} {sl5 : Array (Option Value)} {oc5 kV5 dc5 pm5 cd5 ct5 : Value}
    {od6 an6 : Option Addr} {sl6 : Array (Option Value)} {oc6 kV6 dc6 pm6 cd6 ct6 : Value}
    {od7 an7 : Option Addr} {sl7 : Array (Option Value)} {oc7 kV7 dc7 pm7 cd7 ct7 : Value}
    {od8 an8 : Option Addr} {sl8 : Array (Option Value)} {oc8 kV8 dc8 pm8 cd8 ct8 : Value}
    {od9 an9 : Option Addr} {sl9 : Array (Option Value)} {oc9 kV9 dc9 pm9 cd9 ct9 : Value}
    {od10 an10 : Option Addr} {sl10 : Array (Option Value)} {oc10 kV10 dc10 pm10 cd10 ct10 : Value}
    {od11 an11 : Option Addr} {sl11 : Array (Option Value)} {oc11 kV11 dc11 pm11 cd11 ct11 : Value}
    {od12 an12 : Option Addr} {sl12 : Array (Option Value)} {oc12 kV12 dc12 pm12 cd12 ct12 : Value}
    {od13 an13 : Option Addr} {sl13 : Array (Option Value)} {oc13 kV13 dc13 pm13 cd13 ct13 : Value}
    {od14 an14 : Option Addr} {sl14 : Array (Option Value)} {oc14 kV14 dc14 pm14 cd14 ct14 : Value}
    {od15 an15 : Option Addr} {sl15 : Array (Option Value)} {oc15 kV15 dc15 pm15 cd15 ct15 : Value}
    {od16 an16 : Option Addr} {sl16 : Array (Option Value)} {oc16 kV16 dc16 pm16 cd16 ct16 : Value}
    {od17 an17 : Option Addr} {sl17 : Array (Option Value)} {oc17 kV17 dc17 pm17 cd17 ct17 : Value}
    {od18 an18 : Option Addr} {sl18 : Array (Option Value)} {oc18 kV18 dc18 pm18 cd18 ct18 : Value}
    {od19 an19 : Option Addr} {sl19 : Array (Option Value)} {oc19 kV19 dc19 pm19 cd19 ct19 : Value}
    {od20 an20 : Option Addr} {sl20 : Array (Option Value)} {oc20 kV20 dc20 pm20 cd20 ct20 : Value}
    {odI anI : Option Addr} {slI : Array (Option Value)} {ocI kVI dcI pmI cdI ctI : Value}
    {odT anT : Option Addr} {slT : Array (Option Value)} {ocT kVT dcT pmT cdT ctT : Value}
    (a1 : PySem.W.nsIn K mainGlobals "is_whole" = some (some (.ref f1)))
    (l1 : K.lookup f1 = some ⟨oc1, od1, .func (PySem.W.fnOf "is_whole" "is_whole" (defArgs sWhole) (defBody sWhole) (defScope sWhole) .none kV1 dc1 pm1 an1 cd1 ct1), sl1⟩)
    (c1 : PySem.W.codeIn K cd1 "is_whole" = true)
    (k1 : PySem.W.keepIn K (.ref f1) = true)
    (a2 : PySem.W.nsIn K mainGlobals "is_ratio" = some (some (.ref f2)))
    (l2 : K.lookup f2 = some ⟨oc2, od2, .func (PySem.W.fnOf "is_ratio" "is_ratio" (defArgs sIsR) (defBody sIsR) (defScope sIsR) .none kV2 dc2 pm2 an2 cd2 ct2), sl2⟩)
    (c2 : PySem.W.codeIn K cd2 "is_ratio" = true)
    (k2 : PySem.W.keepIn K (.ref f2) = true)
    (a3 : PySem.W.nsIn K mainGlobals "plus" = some (some (.ref f3)))
    (l3 : K.lookup f3 = some ⟨oc3, od3, .func (PySem.W.fnOf "plus" "plus" (defArgs sPlus) (defBody sPlus) (defScope sPlus) .none kV3 dc3 pm3 an3 cd3 ct3), sl3⟩)
    (c3 : PySem.W.codeIn K cd3 "plus" = true)
    (k3 : PySem.W.keepIn K (.ref f3) = true)
    (a4 : PySem.W.nsIn K mainGlobals "minus" = some (some (.ref f4)))
    (l4 : K.lookup f4 = some ⟨oc4, od4, .func (PySem.W.fnOf "minus" "minus" (defArgs sMinus) (defBody sMinus) (defScope sMinus) .none kV4 dc4 pm4 an4 cd4 ct4), sl4⟩)
    (c4 : PySem.W.codeIn K cd4 "minus" = true)
    (k4 : PySem.W.keepIn K (.ref f4) = true)
    (a5 : PySem.W.nsIn K mainGlobals "times" = some (some (.ref f5)))
    (l5 : K.lookup f5 = some ⟨oc5, od5, .func (PySem.W.fnOf "times" "times" (defArgs sTimes) (defBody sTimes) (defScope sTimes) .none kV5 dc5 pm5 an5 cd5 ct5), sl5⟩)
    (c5 : PySem.W.codeIn K cd5 "times" = true)
    (k5 : PySem.W.keepIn K (.ref f5) = true)
    (a6 : PySem.W.nsIn K mainGlobals "over" = some (some (.ref f6)))
    (l6 : K.lookup f6 = some ⟨oc6, od6, .func (PySem.W.fnOf "over" "over" (defArgs sOver) (defBody sOver) (defScope sOver) .none kV6 dc6 pm6 an6 cd6 ct6), sl6⟩)
    (c6 : PySem.W.codeIn K cd6 "over" = true)
    (k6 : PySem.W.keepIn K (.ref f6) = true)
    (a7 : PySem.W.nsIn K mainGlobals "under" = some (some (.ref f7)))
    (l7 : K.lookup f7 = some ⟨oc7, od7, .func (PySem.W.fnOf "under" "under" (defArgs sUnder) (defBody sUnder) (defScope sUnder) .none kV7 dc7 pm7 an7 cd7 ct7), sl7⟩)
    (c7 : PySem.W.codeIn K cd7 "under" = true)
    (k7 : PySem.W.keepIn K (.ref f7) = true)
    (a8 : PySem.W.nsIn K mainGlobals "lowest" = some (some (.ref f8)))
    (l8 : K.lookup f8 = some ⟨oc8, od8, .func (PySem.W.fnOf "lowest" "lowest" (defArgs sLowest) (defBody sLowest) (defScope sLowest) .none kV8 dc8 pm8 an8 cd8 ct8), sl8⟩)
    (c8 : PySem.W.codeIn K cd8 "lowest" = true)
    (k8 : PySem.W.keepIn K (.ref f8) = true)
    (a9 : PySem.W.nsIn K mainGlobals "divisor" = some (some (.ref f9)))
    (l9 : K.lookup f9 = some ⟨oc9, od9, .func (PySem.W.fnOf "divisor" "divisor" (defArgs sDivisor) (defBody sDivisor) (defScope sDivisor) .none kV9 dc9 pm9 an9 cd9 ct9), sl9⟩)
    (c9 : PySem.W.codeIn K cd9 "divisor" = true)
    (k9 : PySem.W.keepIn K (.ref f9) = true)
    (a10 : PySem.W.nsIn K mainGlobals "_law_left" = some (some (.ref f10)))
    (l10 : K.lookup f10 = some ⟨oc10, od10, .func (PySem.W.fnOf "_law_left" "_law_left" (defArgs sLeft) (defBody sLeft) (defScope sLeft) .none kV10 dc10 pm10 an10 cd10 ct10), sl10⟩)
    (c10 : PySem.W.codeIn K cd10 "_law_left" = true)
    (k10 : PySem.W.keepIn K (.ref f10) = true)
    (a11 : PySem.W.nsIn K mainGlobals "_law_digit" = some (some (.ref f11)))
    (l11 : K.lookup f11 = some ⟨oc11, od11, .func (PySem.W.fnOf "_law_digit" "_law_digit" (defArgs sDigit) (defBody sDigit) (defScope sDigit) .none kV11 dc11 pm11 an11 cd11 ct11), sl11⟩)
    (c11 : PySem.W.codeIn K cd11 "_law_digit" = true)
    (k11 : PySem.W.keepIn K (.ref f11) = true)
    (a12 : PySem.W.nsIn K mainGlobals "_law_low" = some (some (.ref f12)))
    (l12 : K.lookup f12 = some ⟨oc12, od12, .func (PySem.W.fnOf "_law_low" "_law_low" (defArgs sLow) (defBody sLow) (defScope sLow) .none kV12 dc12 pm12 an12 cd12 ct12), sl12⟩)
    (c12 : PySem.W.codeIn K cd12 "_law_low" = true)
    (k12 : PySem.W.keepIn K (.ref f12) = true)
    (a13 : PySem.W.nsIn K mainGlobals "_law_plus" = some (some (.ref f13)))
    (l13 : K.lookup f13 = some ⟨oc13, od13, .func (PySem.W.fnOf "_law_plus" "_law_plus" (defArgs sLPlus) (defBody sLPlus) (defScope sLPlus) .none kV13 dc13 pm13 an13 cd13 ct13), sl13⟩)
    (c13 : PySem.W.codeIn K cd13 "_law_plus" = true)
    (k13 : PySem.W.keepIn K (.ref f13) = true)
    (a14 : PySem.W.nsIn K mainGlobals "_law_less" = some (some (.ref f14)))
    (l14 : K.lookup f14 = some ⟨oc14, od14, .func (PySem.W.fnOf "_law_less" "_law_less" (defArgs sLLess) (defBody sLLess) (defScope sLLess) .none kV14 dc14 pm14 an14 cd14 ct14), sl14⟩)
    (c14 : PySem.W.codeIn K cd14 "_law_less" = true)
    (k14 : PySem.W.keepIn K (.ref f14) = true)
    (a15 : PySem.W.nsIn K mainGlobals "_law_times" = some (some (.ref f15)))
    (l15 : K.lookup f15 = some ⟨oc15, od15, .func (PySem.W.fnOf "_law_times" "_law_times" (defArgs sLTimes) (defBody sLTimes) (defScope sLTimes) .none kV15 dc15 pm15 an15 cd15 ct15), sl15⟩)
    (c15 : PySem.W.codeIn K cd15 "_law_times" = true)
    (k15 : PySem.W.keepIn K (.ref f15) = true)
    (a16 : PySem.W.nsIn K mainGlobals "_law_under" = some (some (.ref f16)))
    (l16 : K.lookup f16 = some ⟨oc16, od16, .func (PySem.W.fnOf "_law_under" "_law_under" (defArgs sLUnder) (defBody sLUnder) (defScope sLUnder) .none kV16 dc16 pm16 an16 cd16 ct16), sl16⟩)
    (c16 : PySem.W.codeIn K cd16 "_law_under" = true)
    (k16 : PySem.W.keepIn K (.ref f16) = true)
    (a17 : PySem.W.nsIn K mainGlobals "_law_some" = some (some (.ref f17)))
    (l17 : K.lookup f17 = some ⟨oc17, od17, .func (PySem.W.fnOf "_law_some" "_law_some" (defArgs sSome) (defBody sSome) (defScope sSome) .none kV17 dc17 pm17 an17 cd17 ct17), sl17⟩)
    (c17 : PySem.W.codeIn K cd17 "_law_some" = true)
    (k17 : PySem.W.keepIn K (.ref f17) = true)
    (a18 : PySem.W.nsIn K mainGlobals "_law_over" = some (some (.ref f18)))
    (l18 : K.lookup f18 = some ⟨oc18, od18, .func (PySem.W.fnOf "_law_over" "_law_over" (defArgs sLOver) (defBody sLOver) (defScope sLOver) .none kV18 dc18 pm18 an18 cd18 ct18), sl18⟩)
    (c18 : PySem.W.codeIn K cd18 "_law_over" = true)
    (k18 : PySem.W.keepIn K (.ref f18) = true)
    (a19 : PySem.W.nsIn K mainGlobals "_law_right" = some (some (.ref f19)))
    (l19 : K.lookup f19 = some ⟨oc19, od19, .func (PySem.W.fnOf "_law_right" "_law_right" (defArgs sRight) (defBody sRight) (defScope sRight) .none kV19 dc19 pm19 an19 cd19 ct19), sl19⟩)
    (c19 : PySem.W.codeIn K cd19 "_law_right" = true)
    (k19 : PySem.W.keepIn K (.ref f19) = true)
    (a20 : PySem.W.nsIn K mainGlobals "law" = some (some (.ref f20)))
    (l20 : K.lookup f20 = some ⟨oc20, od20, .func (PySem.W.fnOf "law" "law" (defArgs sLaw) (defBody sLaw) (defScope sLaw) .none kV20 dc20 pm20 an20 cd20 ct20), sl20⟩)
    (c20 : PySem.W.codeIn K cd20 "law" = true)
    (k20 : PySem.W.keepIn K (.ref f20) = true)
    (aT : PySem.W.nsIn K mainGlobals "total" = some (some (.ref fT)))
    (lT : K.lookup fT = some ⟨ocT, odT, .func (PySem.W.fnOf "total" "total" (defArgs sTotal) (defBody sTotal) (defScope sTotal) (.ref T) kVT dcT pmT anT cdT ctT), slT⟩)
    (cT : PySem.W.codeIn K cdT "total" = true)
    (kT : PySem.W.keepIn K (.ref fT) = true)
    (dT : K.lookup T = some oT)
    (eT : oT.data = .seq [Value.none].toArray nT)
    (aC : PySem.W.nsIn K mainGlobals "ByNought" = some (some (.ref C)))
    (xC : K.lookup C = some (excClassObj nm q C N bs zdTail true sn sub ab col dd m0 m1 m2 m3 m5 "ZeroDivisionError.__new__"))
    (iI : PySem.W.findIn K (.ref C) "__init__" = some (some (.ref fI)))
    (tI : PySem.W.typeIn K (.ref fI) = some (.type "function"))
    (lI : K.lookup fI = some ⟨ocI, odI, .func (PySem.W.fnOf "__init__" "ByNought.__init__" (defArgs sBnInit) (defBody sBnInit) (defScope sBnInit) .none kVI dcI pmI anI cdI ctI), slI⟩)
    (cI : PySem.W.codeIn K cdI "ByNought.__init__" = true)
    (kI : PySem.W.keepIn K (.ref fI) = true)
    (kC : PySem.W.keepIn K (.ref C) = true)
    (eC : PySem.W.subIn K (.ref C) (.type "BaseException") = some true)
    (tC : PySem.W.typeIn K (.ref C) = some (.type "type"))
    (iC : PySem.W.isClsIn K C = true)
    (sC : PySem.W.subIn K (.ref C) (.ref C) = some true)
    (vV : PySem.W.findCls K (.type "ZeroDivisionError") (.type "type") "__init__" = some (.val (.builtin "ZeroDivisionError.__init__")))
    (z_abs : PySem.W.nsIn K mainGlobals "abs" = some none)
    (z_isi : PySem.W.nsIn K mainGlobals "isinstance" = some none)
    (z_int : PySem.W.nsIn K mainGlobals "int" = some none)
    (z_bool : PySem.W.nsIn K mainGlobals "bool" = some none)
    (z_tuple : PySem.W.nsIn K mainGlobals "tuple" = some none)
    (z_list : PySem.W.nsIn K mainGlobals "list" = some none)
    (z_len : PySem.W.nsIn K mainGlobals "len" = some none)
    (z_range : PySem.W.nsIn K mainGlobals "range" = some none)
    (z_zd : PySem.W.nsIn K mainGlobals "ZeroDivisionError" = some none) :
    ∃ fd : FuncData, (∀ (s : Shared) (v : Value), BindsTo s fd ⟨[v], []⟩ [("_law_script", v)]) ∧ ∀ base : Heap, K.In base → base.Ns mainGlobals mg → FnOk l.prog w K mg base CX0 10 fa fd ["_law_script"] (spLaw K) := by
  have e := hfa.symm.trans (PySem.W.mg_of X G a20)
  cases e
  have B : Blt mg := ⟨PySem.W.mg_none_of X G z_abs, PySem.W.mg_none_of X G z_isi, PySem.W.mg_none_of X G z_int, PySem.W.mg_none_of X G z_bool, PySem.W.mg_none_of X G z_tuple, PySem.W.mg_none_of X G z_list, PySem.W.mg_none_of X G z_len, PySem.W.mg_none_of X G z_range, PySem.W.mg_none_of X G z_zd⟩
  have F1 := fun_mk (st := sWhole) l1 c1 k1
  have b1 := F1.binds (ps := ["thing"]) fun _ _ _ _ _ _ us hl => match us, hl with | [_], _ => rfl
  have g1 := PySem.W.mg_of X G a1
  have F2 := fun_mk (st := sIsR) l2 c2 k2
  have b2 := F2.binds (ps := ["thing"]) fun _ _ _ _ _ _ us hl => match us, hl with | [_], _ => rfl
  have g2 := PySem.W.mg_of X G a2
  have F3 := fun_mk (st := sPlus) l3 c3 k3
  have b3 := F3.binds (ps := ["one", "other"]) fun _ _ _ _ _ _ us hl => match us, hl with | [_, _], _ => rfl
  have g3 := PySem.W.mg_of X G a3
  have F4 := fun_mk (st := sMinus) l4 c4 k4
  have b4 := F4.binds (ps := ["one", "other"]) fun _ _ _ _ _ _ us hl => match us, hl with | [_, _], _ => rfl
  have g4 := PySem.W.mg_of X G a4
  have F5 := fun_mk (st := sTimes) l5 c5 k5
  have b5 := F5.binds (ps := ["one", "other"]) fun _ _ _ _ _ _ us hl => match us, hl with | [_, _], _ => rfl
  have g5 := PySem.W.mg_of X G a5
  have F6 := fun_mk (st := sOver) l6 c6 k6
  have b6 := F6.binds (ps := ["one", "other"]) fun _ _ _ _ _ _ us hl => match us, hl with | [_, _], _ => rfl
  have g6 := PySem.W.mg_of X G a6
  have F7 := fun_mk (st := sUnder) l7 c7 k7
  have b7 := F7.binds (ps := ["one", "other"]) fun _ _ _ _ _ _ us hl => match us, hl with | [_, _], _ => rfl
  have g7 := PySem.W.mg_of X G a7
  have F8 := fun_mk (st := sLowest) l8 c8 k8
  have b8 := F8.binds (ps := ["top", "bottom"]) fun _ _ _ _ _ _ us hl => match us, hl with | [_, _], _ => rfl
  have g8 := PySem.W.mg_of X G a8
  have F9 := fun_mk (st := sDivisor) l9 c9 k9
  have b9 := F9.binds (ps := ["one", "other"]) fun _ _ _ _ _ _ us hl => match us, hl with | [_, _], _ => rfl
  have g9 := PySem.W.mg_of X G a9
  have F10 := fun_mk (st := sLeft) l10 c10 k10
  have b10 := F10.binds (ps := ["_law_cell"]) fun _ _ _ _ _ _ us hl => match us, hl with | [_], _ => rfl
  have g10 := PySem.W.mg_of X G a10
  have F11 := fun_mk (st := sDigit) l11 c11 k11
  have b11 := F11.binds (ps := ["_law_left_here", "_law_many"]) fun _ _ _ _ _ _ us hl => match us, hl with | [_, _], _ => rfl
  have g11 := PySem.W.mg_of X G a11
  have F12 := fun_mk (st := sLow) l12 c12 k12
  have b12 := F12.binds (ps := ["_law_top", "_law_bottom"]) fun _ _ _ _ _ _ us hl => match us, hl with | [_, _], _ => rfl
  have g12 := PySem.W.mg_of X G a12
  have F13 := fun_mk (st := sLPlus) l13 c13 k13
  have b13 := F13.binds (ps := ["_law_one", "_law_other"]) fun _ _ _ _ _ _ us hl => match us, hl with | [_, _], _ => rfl
  have g13 := PySem.W.mg_of X G a13
  have F14 := fun_mk (st := sLLess) l14 c14 k14
  have b14 := F14.binds (ps := ["_law_one", "_law_other"]) fun _ _ _ _ _ _ us hl => match us, hl with | [_, _], _ => rfl
  have g14 := PySem.W.mg_of X G a14
  have F15 := fun_mk (st := sLTimes) l15 c15 k15
  have b15 := F15.binds (ps := ["_law_one", "_law_other"]) fun _ _ _ _ _ _ us hl => match us, hl with | [_, _], _ => rfl
  have g15 := PySem.W.mg_of X G a15
  have F16 := fun_mk (st := sLUnder) l16 c16 k16
  have b16 := F16.binds (ps := ["_law_one", "_law_other"]) fun _ _ _ _ _ _ us hl => match us, hl with | [_, _], _ => rfl
  have g16 := PySem.W.mg_of X G a16
  have F17 := fun_mk (st := sSome) l17 c17 k17
  have b17 := F17.binds (ps := ["_law_left_here"]) fun _ _ _ _ _ _ us hl => match us, hl with | [_], _ => rfl
  have g17 := PySem.W.mg_of X G a17
  have F18 := fun_mk (st := sLOver) l18 c18 k18
  have b18 := F18.binds (ps := ["_law_one", "_law_other"]) fun _ _ _ _ _ _ us hl => match us, hl with | [_, _], _ => rfl
  have g18 := PySem.W.mg_of X G a18
  have F19 := fun_mk (st := sRight) l19 c19 k19
  have b19 := F19.binds (ps := ["_law_one", "_law_other"]) fun _ _ _ _ _ _ us hl => match us, hl with | [_, _], _ => rfl
  have g19 := PySem.W.mg_of X G a19
  have F20 := fun_mk (st := sLaw) l20 c20 k20
  have FI := fun_mk (st := sBnInit) lI cI kI
  have bI := FI.binds (ps := ["self"]) fun _ _ _ _ _ _ us hl => match us, hl with | [_], _ => rfl
  have gT := PySem.W.mg_of X G aT
  have FT : FunD K "total" "total" (defArgs sTotal) (defBody sTotal) (defScope sTotal) [V.non] [] fT _ := ⟨⟨_, _, _, _, _, _, _, _, _, _, rfl, lT, cT, .inr ⟨by simp, T, oT, [Value.none], nT, rfl, dT, eT, .cons rfl .nil⟩, .inl rfl⟩, kT⟩
  have T0 : BnT K mg C fI := ⟨⟨⟨nm, q, N, bs, sn, sub, ab, col, dd, m0, m1, m2, m3, m5, xC⟩, eC, tC, kC⟩, PySem.W.mg_of X G aC, iI, tI, exm_self eC iC tC sC, vV⟩
  have bT1 := FT.binds1 (ps := ["some", "start"]) 1 0 (by simp) rfl fun T kV doc pm an cdv ct us its hl hi => match us, its, hl, hi with | [_], [_], _, _ => ⟨_, rfl, rfl⟩
  obtain ⟨ds2, vd2, bT2⟩ := FT.binds1 (ps := ["some", "start"]) 2 1 (by simp) rfl fun T kV doc pm an cdv ct us its hl hi => match us, its, hl, hi with | [_, _], [_], _, _ => ⟨_, rfl, rfl⟩
  cases vd2
  have bTk : KBn K (PySem.W.fnOf "total" "total" (defArgs sTotal) (defBody sTotal) (defScope sTotal) (.ref T) kVT dcT pmT anT cdT ctT) ["some", "start"] 1 ["start"] (fun us ws => us ++ ws) (fun vs zs => vs ++ zs) := by
    refine ⟨fun s us ws Y h1 h2 => ?_, fun r1 r2 => r1.append r2⟩
    match us, ws, h1, h2 with
    | [u], [w'], _, _ =>
      have z : ∃ k, bindArgs (PySem.W.fnOf "total" "total" (defArgs sTotal) (defBody sTotal) (defScope sTotal) (.ref T) kVT dcT pmT anT cdT ctT) ⟨[u], (["start"] : List Str).zip [w']⟩ = seqItems? (.ref T) >>= k ∧ k (some [Value.none].toArray) = pure ((["some", "start"] : List Str).zip ([u] ++ [w'])) := ⟨_, rfl, rfl⟩
      obtain ⟨k, e1, e2⟩ := z
      refine BindsTo.of_looks fun M => ?_
      rw [e1]
      exact looks_items Y dT eT (.of_pure e2)
  refine ⟨PySem.W.fnOf "law" "law" (defArgs sLaw) (defBody sLaw) (defScope sLaw) .none kV20 dc20 pm20 an20 cd20 ct20, fun s v => .of_eq rfl, fun base _ _ => ?_⟩
  have Gdiv : FnOk l.prog w K mg base CX0 1 f9 _ ["one", "other"] spDiv := ok_div F9 B.abs
  have Glow : FnOk l.prog w K mg base CX0 2 f8 _ ["top", "bottom"] spLow := ok_lowest F8 F9 b9 g9 B.abs
  have GLlow : FnOk l.prog w K mg base CX0 2 f12 _ ["_law_top", "_law_bottom"] spLow := ok_low F12 B.abs
  have Gplus : FnOk l.prog w K mg base CX0 3 f3 _ ["one", "other"] _ := ok_Plus F3 Glow k8 b8 g8
  have Gminus : FnOk l.prog w K mg base CX0 3 f4 _ ["one", "other"] _ := ok_Minus F4 Glow k8 b8 g8
  have Gtimes : FnOk l.prog w K mg base CX0 3 f5 _ ["one", "other"] _ := ok_Times F5 Glow k8 b8 g8
  have GLplus : FnOk l.prog w K mg base CX0 3 f13 _ ["_law_one", "_law_other"] _ := ok_LPlus F13 GLlow k12 b12 g12
  have GLless : FnOk l.prog w K mg base CX0 3 f14 _ ["_law_one", "_law_other"] _ := ok_LLess F14 GLlow k12 b12 g12
  have GLtimes : FnOk l.prog w K mg base CX0 3 f15 _ ["_law_one", "_law_other"] _ := ok_LTimes F15 GLlow k12 b12 g12
  have Gunder : FnOk l.prog w K mg base CX0 3 f7 _ ["one", "other"] _ := ok_Under F7
  have GLunder : FnOk l.prog w K mg base CX0 3 f16 _ ["_law_one", "_law_other"] _ := ok_LUnder F16
  have Gi : FnOk l.prog w K mg base CX0 2 fI _ ["self"] (spEi C) := ok_bn FI T0 B
  have Gover : FnOk l.prog w K mg base (L2.CX l.prog w) 4 f6 _ ["one", "other"] (spOver K C) := ok_over F6 T0 Gi bI Glow k8 b8 g8
  have GLover : FnOk l.prog w K mg base CX0 5 f18 _ ["_law_one", "_law_other"] _ := ok_lover F18 T0 Gover k6 b6 g6
  have Gwhole : FnOk l.prog w K mg base CX0 1 f1 _ ["thing"] (spWhole K) := ok_whole F1 B
  have Gisr : FnOk l.prog w K mg base CX0 2 f2 _ ["thing"] (spIsR K) := ok_isr F2 Gwhole k1 b1 g1 Gdiv k9 b9 g9 B
  have Gtotal : FnOk l.prog w K mg base CX0 4 fT _ ["some", "start"] (spTotal K) := ok_total FT Gplus k3 b3 g3
  have Gleft : FnOk l.prog w K mg base CX0 1 f10 _ ["_law_cell"] spLeft := ok_left F10 B
  have Gdigit : FnOk l.prog w K mg base CX0 2 f11 _ ["_law_left_here", "_law_many"] spDigit := ok_digit F11
  have Gsome : FnOk l.prog w K mg base CX0 3 f17 _ ["_law_left_here"] (spSome K) := ok_some F17 Gdigit k11 b11 g11 GLlow k12 b12 g12 B
  have DR : Defs l.prog w K mg base 5 := ⟨⟨_, _, Gplus.mono (by decide), k3, b3, g3⟩, ⟨_, _, Gminus.mono (by decide), k4, b4, g4⟩, ⟨_, _, Gtimes.mono (by decide), k5, b5, g5⟩, ⟨_, _, Gunder.mono (by decide), k7, b7, g7⟩,
    ⟨_, _, GLplus.mono (by decide), k13, b13, g13⟩, ⟨_, _, GLless.mono (by decide), k14, b14, g14⟩, ⟨_, _, GLtimes.mono (by decide), k15, b15, g15⟩, ⟨_, _, GLunder.mono (by decide), k16, b16, g16⟩,
    ⟨_, _, GLover, k18, b18, g18⟩, ⟨_, _, GLlow.mono (by decide), k12, b12, g12⟩⟩
  have Gright : FnOk l.prog w K mg base CX0 6 f19 _ ["_law_one", "_law_other"] (spRight K) := ok_right F19 DR B
  have D2 : Defs2 l.prog w K mg base C 9 := ⟨⟨_, _, Gleft.mono (by decide), k10, b10, g10⟩, ⟨_, _, Gsome.mono (by decide), k17, b17, g17⟩, ⟨_, _, GLplus.mono (by decide), k13, b13, g13⟩, ⟨_, _, Gright.mono (by decide), k19, b19, g19⟩,
    ⟨_, _, Gisr.mono (by decide), k2, b2, g2⟩, ⟨_, _, Gover.mono (by decide), k6, b6, g6⟩, ⟨_, _, Gtotal.mono (by decide), kT, bT1, bT2, bTk, gT⟩⟩
  exact ok_law F20 D2 B
end K2
open PySem PySem.W PyProof.Rows
set_option maxRecDepth 100000 in
set_option maxHeartbeats 0 in
theorem PySem.Challenge.cw_besttelling_k02_fractions_reckoned_holds : PySem.Challenge.rw_besttelling_k02_fractions_reckoned.Holds := by
  w_on; o_law; k_head; (case hw => w_witness2)
  k_fill
  refine L2.walk_of (l := PySem.Challenge.rw_besttelling_k02_fractions_reckoned) (n := 63) (k := 10) (x := "_law_script") (CX := fun _ => L2.CX0) (sp := fun w => K2.spLaw _) rfl (by decide) rfl ⟨rfl, by decide, by decide⟩ (fun w h Y => PySem.W.kIn_of Y) ?F (fun _ _ a ns hl _ hS => ⟨a, ns, rfl, hS, hl, fun _ => rfl⟩) (fun _ _ _ _ _ h => h)
  case F =>
    intro w mg fa h KX G hmg
    refine' K2.all_mk KX G hmg ?a1 ?l1 ?c1 ?k1 ?a2 ?l2 ?c2 ?k2 ?a3 ?l3 ?c3 ?k3 ?a4 ?l4 ?c4 ?k4 ?a5 ?l5 ?c5 ?k5 ?a6 ?l6 ?c6 ?k6 ?a7 ?l7 ?c7 ?k7 ?a8 ?l8 ?c8 ?k8 ?a9 ?l9 ?c9 ?k9 ?a10 ?l10 ?c10 ?k10 ?a11 ?l11 ?c11 ?k11 ?a12 ?l12 ?c12 ?k12 ?a13 ?l13 ?c13 ?k13 ?a14 ?l14 ?c14 ?k14 ?a15 ?l15 ?c15 ?k15 ?a16 ?l16 ?c16 ?k16 ?a17 ?l17 ?c17 ?k17 ?a18 ?l18 ?c18 ?k18 ?a19 ?l19 ?c19 ?k19 ?a20 ?l20 ?c20 ?k20 ?aT ?lT ?cT ?kT ?dT ?eT ?aC ?xC ?iI ?tI ?lI ?cI ?kI ?kC ?eC ?tC ?iC ?sC ?vV ?z_abs ?z_isi ?z_int ?z_bool ?z_tuple ?z_list ?z_len ?z_range ?z_zd
    (case a1 => k_is)
    (case l1 => k_is)
    (case c1 => k_is)
    (case k1 => k_is)
    (case a2 => k_is)
    (case l2 => k_is)
    (case c2 => k_is)
    (case k2 => k_is)
    (case a3 => k_is)
    (case l3 => k_is)
    (case c3 => k_is)
    (case k3 => k_is)
    (case a4 => k_is)
    (case l4 => k_is)
    (case c4 => k_is)
    (case k4 => k_is)
    (case a5 => k_is)
    (case l5 => k_is)
    (case c5 => k_is)
    (case k5 => k_is)
    (case a6 => k_is)
    (case l6 => k_is)
    (case c6 => k_is)
    (case k6 => k_is)
    (case a7 => k_is)
    (case l7 => k_is)
    (case c7 => k_is)
    (case k7 => k_is)
    (case a8 => k_is)
    (case l8 => k_is)
    (case c8 => k_is)
    (case k8 => k_is)
    (case a9 => k_is)
    (case l9 => k_is)
    (case c9 => k_is)
    (case k9 => k_is)
    (case a10 => k_is)
    (case l10 => k_is)
    (case c10 => k_is)
    (case k10 => k_is)
    (case a11 => k_is)
    (case l11 => k_is)
    (case c11 => k_is)
    (case k11 => k_is)
    (case a12 => k_is)
    (case l12 => k_is)
    (case c12 => k_is)
    (case k12 => k_is)
    (case a13 => k_is)
    (case l13 => k_is)
    (case c13 => k_is)
    (case k13 => k_is)
    (case a14 => k_is)
    (case l14 => k_is)
    (case c14 => k_is)
    (case k14 => k_is)
    (case a15 => k_is)
    (case l15 => k_is)
    (case c15 => k_is)
    (case k15 => k_is)
    (case a16 => k_is)
    (case l16 => k_is)
    (case c16 => k_is)
    (case k16 => k_is)
    (case a17 => k_is)
    (case l17 => k_is)
    (case c17 => k_is)
    (case k17 => k_is)
    (case a18 => k_is)
    (case l18 => k_is)
    (case c18 => k_is)
    (case k18 => k_is)
    (case a19 => k_is)
    (case l19 => k_is)
    (case c19 => k_is)
    (case k19 => k_is)
    (case a20 => k_is)
    (case l20 => k_is)
    (case c20 => k_is)
    (case k20 => k_is)
    (case aT => k_is)
    (case lT => k_is)
    (case cT => k_is)
    (case kT => k_is)
    (case dT => k_is)
    (case eT => rfl)
    (case aC => k_is)
    (case xC => k_is)
    (case iI => k_is)
    (case tI => k_is)
    (case lI => k_is)
    (case cI => k_is)
    (case kI => k_is)
    (case kC => k_is)
    (case eC => k_is)
    (case tC => k_is)
    (case iC => k_is)
    (case sC => first | rfl | k_is)
    (case vV => first | rfl | decide +kernel | k_is)
    (case z_abs => k_is)
    (case z_isi => k_is)
    (case z_int => k_is)
    (case z_bool => k_is)
    (case z_tuple => k_is)
    (case z_list => k_is)
    (case z_len => k_is)
    (case z_range => k_is)
    (case z_zd => k_is)
