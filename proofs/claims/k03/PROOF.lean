import PyProof.Rows.All
import Wide.All
import OpenK.AllK
import Wide.FinOn
import KE.KStateDown
import HandS.ForMost
import HandS.ForExc
import HandS.Defaults
import HandS.Property
import HandS.MakeKw
import HandS.IsInst
import HandS.Flow
import HandS.Style
import HandS.Wide
import HandS.OwnEq
import HandS.Conv
import HandS.Deep
import HandS.Head0
import HandS.Head1
import HandS.Head2
import HandS.HeadEnd
import HandS.HeadHook1
import HandS.HeadHook2
import KE.GoesMore
import OpenK.KOps
import KE.KOpsOwn
import HandS.More
import HandS.Dict
import PySem.Challenge.RW_rainvalleys_k03_fractions_in_order
set_option Elab.async false
set_option linter.all false
set_option maxRecDepth 100000
set_option maxHeartbeats 4000000
/-! Words of this proof: operators on values by short names, the steps of a reading, what a call of a def asks. -/
namespace Rv
open PySem PySem.Spec PyProof.Rows L2
abbrev oAdd : R2 := rI0 fun i j => .int (i + j)
abbrev oSub : R2 := rI0 fun i j => .int (i - j)
abbrev oMul : R2 := rI CMul fun i j => .int (i * j)
abbrev oMulW : R2 := rI CMulW fun i j => .int (i * j)
abbrev oDiv : R2 := rI CDivW fun i j => .int (i / j)
abbrev oMod : R2 := rI (fun _ j => 0 < j) fun i j => .int (i % j)
abbrev oPow : R2 := rI CPow fun i j => .int (i ^ j.toNat)
abbrev oLt : R2 := rI0 fun i j => .bl (decide (i < j))
abbrev oLe : R2 := rI0 fun i j => .bl (decide (i ≤ j))
abbrev oGt : R2 := rI0 fun i j => .bl (decide (j < i))
abbrev oGe : R2 := rI0 fun i j => .bl (decide (j ≤ i))
abbrev oIsN : R2 := fun x y H Q => y = .non ∧ Q (.bl (decide (x = .non))) H
abbrev oNotN : R2 := fun x y H Q => y = .non ∧ Q (.bl (!decide (x = .non))) H
abbrev cLen (K : PySem.W.Frag) : List V → Hp → VK → Prop := fun xs H Q => ∃ p ys, xs = [.ref p] ∧ (SqL K H p ys ∨ SqT K H p ys) ∧ Q (.int ys.length) H
abbrev cInt : List V → Hp → VK → Prop := fun xs H Q => (∃ i, xs = [.int i] ∧ Q (.int i) H) ∨ ∃ k, xs = [.bl k] ∧ Q (.int (if k then 1 else 0)) H
abbrev cAbs : List V → Hp → VK → Prop := fun xs H Q => ∃ i, xs = [.int i] ∧ Q (.int (if i < 0 then -i else i)) H
abbrev cList (K : PySem.W.Frag) : List V → Hp → VK → Prop := fun xs H Q => ∃ p ys, xs = [.ref p] ∧ (SqL K H p ys ∨ SqT K H p ys) ∧ ∀ l, H l = none → Q (.ref l) (upd H l (.lst ys))
abbrev cTuple (K : PySem.W.Frag) : List V → Hp → VK → Prop := fun xs H Q => ∃ p ys, xs = [.ref p] ∧ ((SqL K H p ys ∧ ∀ l, H l = none → Q (.ref l) (upd H l (.tup ys))) ∨ (SqT K H p ys ∧ Q (.ref p) H))
abbrev cMax2 : List V → Hp → VK → Prop := fun xs H Q => ∃ i j, xs = [.int i, .int j] ∧ Q (.int (if j > i then j else i)) H
abbrev cMin2 : List V → Hp → VK → Prop := fun xs H Q => ∃ i j, xs = [.int i, .int j] ∧ Q (.int (if j < i then j else i)) H

/-- a def of the module as its callers see it -/
structure Cal (P : Program) (w : World) (K : PySem.W.Frag) (mg : Str → Option Value) (base : Heap) (CX : CXT) (k : Nat) (x : Str) (ps : List Str) (sp : Sp) : Prop where
  ex : ∃ f fd, FnOk P w K mg base CX k f fd ps sp ∧ mg x = some (.ref f) ∧ PySem.W.keepIn K (.ref f) = true ∧ Binds K fd ps []
section
variable {X : Cx} {CX : CXT} {k : Nat} {x : Str} {ps : List Str} {sp : Sp} {E : XK} {p pos : Pos} {e : Expr} {es : List Expr} {t : TA}
theorem pe_cal (c : Cal X.prog X.w X.K X.mg X.base CX k x ps sp) (hr : Room k X.A) (hg : Gl X x) (hx : Passes CX X E) (ha : PA X (e :: es) t) (hdb : (x == ("__debug__" : Str)) = false := by decide)
    (he : starEach (e :: es) X.env = (false, eval e X.env) :: starEach es X.env := by rfl) (hpl : (backTo pos (starEach es X.env)).any (·.1) = false := by rfl) :
    PE X (.Call (.Name x p) (e :: es) [] pos) (tCall sp [] E t) := by
  obtain ⟨f, fd, F, hm, hk, hb⟩ := c.ex
  first
    | exact pe_call F hr hg hm hk hb .nil hx ha hdb he hpl
    | exact pe_call F hr hg hm hk hb .nil hx ha
end

section
variable {K : PySem.W.Frag} {σ : L2.St} {H : Hp} {Q : VK} {D : Ends} {v x y : V} {i j : Int} {n : Nat} {ta tb te to ti : TE} {t u c : TT} {tr : TA} {b : Bool} {r : R2} {s1 s2 : TS} {g : TG} {p : Addr} {xs : List V} {TQ : Bool → Hp → Prop} {AQ : List V → Hp → Prop} {HQ : Hp → Prop} {GQ : L2.St → Hp → Prop}
theorem w_var (h : σ[n]? = some (some v)) (q : Q v H) : tVar n σ H Q := ⟨v, h, q⟩
theorem w_c (q : Q v H) : tC v σ H Q := q
theorem w_op (q : ta σ H fun x H1 => tb σ H1 fun y H2 => r x y H2 Q) : tOp r ta tb σ H Q := q
theorem w_un {r : V → Hp → VK → Prop} (q : ta σ H fun x H1 => r x H1 Q) : tUn r ta σ H Q := q
theorem w_U {g : Int → V} (q : Q (g i) H) : rU g (.int i) H Q := ⟨i, rfl, q⟩
theorem w_test (q : ta σ H fun x H' => ∃ k, x = .bl k ∧ TQ k H') : tTest ta σ H TQ := q
theorem w_tB (q : ta σ H fun x H' => ∃ k, x = .bl k ∧ TQ k H') : tB ta σ H TQ := q
theorem w_bl (q : TQ b H) : ∃ k, V.bl b = .bl k ∧ TQ k H := ⟨b, rfl, q⟩
theorem w_I0 {g : Int → Int → V} (q : Q (g i j) H) : rI0 g (.int i) (.int j) H Q := ⟨i, j, rfl, rfl, q⟩
theorem w_I {C : Int → Int → Prop} {g : Int → Int → V} (hc : C i j) (q : Q (g i j) H) : rI C g (.int i) (.int j) H Q := ⟨i, j, rfl, rfl, hc, q⟩
theorem w_eq (h : scal x y = true) (q : Q (.bl (decide (x = y))) H) : rEq x y H Q := ⟨h, q⟩
theorem w_eqI (q : Q (.bl (decide (i = j))) H) : rEq (.int i) (.int j) H Q := ⟨rfl, by
  have e : decide (V.int i = V.int j) = decide (i = j) := by
    by_cases h : i = j
    · rw [h, decide_eq_true rfl, decide_eq_true rfl]
    · rw [decide_eq_false h, decide_eq_false (fun z => h (V.int.inj z))]
  rw [e]
  exact q⟩
theorem w_neI (q : Q (.bl (!decide (i = j))) H) : rNe (.int i) (.int j) H Q := ⟨rfl, by
  have e : decide (V.int i = V.int j) = decide (i = j) := by
    by_cases h : i = j
    · rw [h, decide_eq_true rfl, decide_eq_true rfl]
    · rw [decide_eq_false h, decide_eq_false (fun z => h (V.int.inj z))]
  rw [e]
  exact q⟩
theorem w_cons (q : ta σ H fun x H1 => tr σ H1 fun xs H2 => AQ (x :: xs) H2) : tCons ta tr σ H AQ := q
theorem w_nil (q : AQ [] H) : tNil σ H AQ := q
theorem w_seq (q : s1 { D with nx := s2 D } σ H) : tSeq s1 s2 D σ H := q
theorem w_seqA (q : te σ H fun x H1 => g x σ H1 (s2 D)) : tSeq (tAsg te g) s2 D σ H := q
theorem w_seqD (q : te σ H fun _ H1 => s2 D σ H1) : tSeq (tDrop te) s2 D σ H := q
theorem w_seqP {m : Nat} (q : tr σ H fun vs H1 => ∃ v w, vs = [v, w] ∧ s2 D ((σ.set n (some v)).set m (some w)) H1) : tSeq (tPar n m tr) s2 D σ H := q
/-- behind s1 the word W holds, whatever way was gone -/
theorem w_cut (W : L2.St → Hp → Prop) (h : ∀ N : L2.St → Hp → Prop, (∀ σ' H', W σ' H' → N σ' H') → s1 { D with nx := N } σ H) (k : ∀ σ' H', W σ' H' → s2 D σ' H') : tSeq s1 s2 D σ H := h _ k
theorem w_next (q : D.nx σ H) : tNext D σ H := q
theorem w_asg (q : te σ H fun x H1 => g x σ H1 D.nx) : tAsg te g D σ H := q
theorem w_gn (q : GQ (σ.set n (some v)) H) : gName n v σ H GQ := q
theorem w_gsub {s : TSet} (q : to σ H fun o H1 => ti σ H1 fun i H2 => s o i v H2 fun H3 => GQ σ H3) : gSub to ti s v σ H GQ := q
theorem w_setL {k : Int} {j : Nat} (h : H p = some (.lst xs)) (hj : ixN xs.length k = some j) (q : HQ (upd H p (.lst (xs.set j v)))) : rSetL (.ref p) (.int k) v H HQ := ⟨p, xs, k, j, rfl, rfl, h, hj, q⟩
theorem w_ret (q : te σ H D.rt) : tRet te D σ H := q
theorem w_drop (q : te σ H fun _ H1 => D.nx σ H1) : tDrop te D σ H := q
theorem w_ifs (q : c σ H fun b H1 => if b = true then s1 D σ H1 else s2 D σ H1) : tIfS c s1 s2 D σ H := q
theorem w_if (q : c σ H fun b H1 => if b = true then ta σ H1 Q else tb σ H1 Q) : tIf c ta tb σ H Q := q
theorem w_and (q : t σ H fun c H1 => if c = true then u σ H1 TQ else TQ false H1) : tAnd t u σ H TQ := q
theorem w_or (q : t σ H fun c H1 => if c = true then TQ true H1 else u σ H1 TQ) : tOr t u σ H TQ := q
theorem w_not (q : t σ H fun c H1 => TQ (!c) H1) : tNot t σ H TQ := q
theorem w_andV (q : ta σ H fun x H1 => ∃ c, x = .bl c ∧ if c = true then tb σ H1 Q else Q (.bl false) H1) : tAndV ta tb σ H Q := q
theorem w_orV (q : ta σ H fun x H1 => ∃ c, x = .bl c ∧ if c = true then Q (.bl true) H1 else tb σ H1 Q) : tOrV ta tb σ H Q := q
theorem w_notV (q : ta σ H fun x H1 => ∃ c, x = .bl c ∧ Q (.bl (!c)) H1) : tNotV ta σ H Q := q
theorem w_ixL (h : SqL K H p xs) (ha : atI xs i = some v) (q : Q v H) : rIxL K (.ref p) (.int i) H Q := ⟨p, xs, i, v, rfl, rfl, h, ha, q⟩
theorem w_ixT (h : SqT K H p xs) (ha : atI xs i = some v) (q : Q v H) : rIxT K (.ref p) (.int i) H Q := ⟨p, xs, i, v, rfl, rfl, h, ha, q⟩
theorem w_cb {r : List V → Hp → VK → Prop} (q : tr σ H fun vs H1 => r vs H1 Q) : tCB r tr σ H Q := q
theorem w_lenL (h : SqL K H p xs) (q : Q (.int xs.length) H) : cLen K [.ref p] H Q := ⟨p, xs, rfl, .inl h, q⟩
theorem w_lenT (h : SqT K H p xs) (q : Q (.int xs.length) H) : cLen K [.ref p] H Q := ⟨p, xs, rfl, .inr h, q⟩
theorem w_intB (q : Q (.int (if b then 1 else 0)) H) : cInt [.bl b] H Q := .inr ⟨b, rfl, q⟩
theorem w_intI (q : Q (.int i) H) : cInt [.int i] H Q := .inl ⟨i, rfl, q⟩
theorem w_abs (q : Q (.int (if i < 0 then -i else i)) H) : cAbs [.int i] H Q := ⟨i, rfl, q⟩
theorem w_call {sp : Sp} {dvs : List V} {E : XK} (q : tr σ H fun vs H1 => sp (vs ++ dvs) H1 Q E) : tCall sp dvs E tr σ H Q := q
theorem w_lst (q : tr σ H fun xs H1 => xs.length ≤ sizeLine ∧ ∀ p, H1 p = none → Q (.ref p) (upd H1 p (.lst xs))) : tLst tr σ H Q := q
theorem w_tup (q : tr σ H fun xs H1 => xs.length ≤ sizeLine ∧ ∀ p, H1 p = none → Q (.ref p) (upd H1 p (.tup xs))) : tTup tr σ H Q := q
theorem w_par {m : Nat} (q : tr σ H fun vs H1 => ∃ v w, vs = [v, w] ∧ D.nx ((σ.set n (some v)).set m (some w)) H1) : tPar n m tr D σ H := q
theorem w_sl {r : V → Option Int → Option Int → Hp → VK → Prop} {tl th : TO} (q : te σ H fun x H1 => tl σ H1 fun l H2 => th σ H2 fun u H3 => r x l u H3 Q) : tSl r te tl th σ H Q := q
theorem w_slL {lo hi : Option Int} (h : SqL K H p xs) (q : ∀ q', H q' = none → Q (.ref q') (upd H q' (.lst (cutV xs lo hi)))) : rSlL K (.ref p) lo hi H Q := ⟨p, xs, rfl, h, q⟩
theorem w_noPart {OQ : Option Int → Hp → Prop} (q : OQ none H) : tNoPart σ H OQ := q
theorem w_part {OQ : Option Int → Hp → Prop} (q : te σ H fun x H1 => ∃ i, x = .int i ∧ OQ (some i) H1) : tPart te σ H OQ := q
theorem w_ex1 {P : Int → Prop} (q : P i) : ∃ j, V.int i = .int j ∧ P j := ⟨i, rfl, q⟩
theorem w_exb {P : Bool → Prop} (q : P b) : ∃ j, V.bl b = .bl j ∧ P j := ⟨b, rfl, q⟩
theorem w_nx {f : L2.St → Hp → Prop} {r : VK} {k c : L2.St → Hp → Prop} {σ : L2.St} {H : Hp} (q : f σ H) : Ends.nx ⟨f, r, k, c⟩ σ H := q
theorem w_rt {f : L2.St → Hp → Prop} {r : VK} {k c : L2.St → Hp → Prop} {v : V} {H : Hp} (q : r v H) : Ends.rt ⟨f, r, k, c⟩ v H := q
theorem w_yes {TQ : Bool → Hp → Prop} {σ : L2.St} {H : Hp} (q : TQ true H) : tYes σ H TQ := q
theorem iteNT {A B : Prop} (h : B) : if (!true) = true then A else B := iteF h
theorem iteNF {A B : Prop} (h : A) : if (!false) = true then A else B := iteT h
theorem iteRf {α : Type} [DecidableEq α] {z : α} {A B : Prop} (h : A) : if decide (z = z) = true then A else B := by
  rw [decide_eq_true rfl]
  exact iteT h
theorem iteNRf {α : Type} [DecidableEq α] {z : α} {A B : Prop} (h : B) : if (!decide (z = z)) = true then A else B := by
  rw [decide_eq_true rfl]
  exact iteF h
/-- a test whose answer is open: both ways -/
theorem w_both {c A B : Prop} [Decidable c] (h1 : c → A) (h2 : ¬ c → B) : if decide c = true then A else B := by
  by_cases h : c
  · rw [decide_eq_true h]
    exact iteT (h1 h)
  · rw [decide_eq_false h]
    exact iteF (h2 h)
theorem w_bothN {c A B : Prop} [Decidable c] (h1 : ¬ c → A) (h2 : c → B) : if (!decide c) = true then A else B := by
  by_cases h : c
  · rw [decide_eq_true h]
    exact iteF (h2 h)
  · rw [decide_eq_false h]
    exact iteT (h1 h)
theorem w_bool {A B : Prop} {b : Bool} (h1 : b = true → A) (h2 : b = false → B) : if b = true then A else B := by
  cases b with
  | true => exact iteT (h1 rfl)
  | false => exact iteF (h2 rfl)
end
theorem pow_c {i j : Int} (h : 0 ≤ j) (h2 : j ≤ 1000000) (h3 : -18446744073709551616 < i) (h4 : i < 18446744073709551616) : CPow i j := ⟨h, h2, by
  have e : (2 : Nat) ^ 64 = 18446744073709551616 := by decide
  omega⟩
theorem mul_l {i j : Int} (h3 : -18446744073709551616 < i) (h4 : i < 18446744073709551616) : CMul i j := .inl ⟨by
  have e : (2 : Int) ^ 64 = 18446744073709551616 := by decide
  omega, by
  have e : (2 : Int) ^ 64 = 18446744073709551616 := by decide
  omega⟩
theorem mul_r {i j : Int} (h3 : -18446744073709551616 < j) (h4 : j < 18446744073709551616) : CMul i j := .inr ⟨by
  have e : (2 : Int) ^ 64 = 18446744073709551616 := by decide
  omega, by
  have e : (2 : Int) ^ 64 = 18446744073709551616 := by decide
  omega⟩
/-- all that H tracked, but the object at d, stands as it was -/
def But (d : Addr) (H H' : Hp) : Prop := ∀ b o, b ≠ d → H b = some o → H' b = some o
theorem But.refl (d : Addr) (H : Hp) : But d H H := fun _ _ _ h => h
theorem But.trans {d : Addr} {H H1 H2 : Hp} (a : But d H H1) (b : But d H1 H2) : But d H H2 := fun c o n h => b c o n (a c o n h)
theorem But.wr {d : Addr} {H H' : Hp} {o : HO} (a : But d H H') : But d H (upd H' d o) := fun c u n h => by
  rw [upd_ne n]
  exact a c u n h
theorem But.new {d p : Addr} {H H' : Hp} {o : HO} (a : But d H H') (h : H' p = none) : But d H (upd H' p o) := fun c u n z => by
  have q := a c u n z
  rw [upd_ne (ne_of_none q h)]
  exact q
theorem But.same {d : Addr} {H H' : Hp} (a : Same H H') : But d H H' := fun c u _ z => a c u z
theorem same_new {p : Addr} {H H' : Hp} {o : HO} (a : Same H H') (h : H' p = none) : Same H (upd H' p o) := fun c u z => by
  have q := a c u z
  rw [upd_ne (ne_of_none q h)]
  exact q
theorem But.sq {K : PySem.W.Frag} {d a : Addr} {H H' : Hp} {xs : List V} (e : But d H H') (n : a ≠ d) (h : SqL K H a xs) : SqL K H' a xs := by
  rcases h with (h | ⟨o, h⟩) | h
  · exact .inl (.inl (e _ _ n h))
  · exact .inl (.inr ⟨o, e _ _ n h⟩)
  · exact .inr h
theorem But.free {d : Addr} {H H' : Hp} (e : But d H H') {l : Addr} (n : l ≠ d) (h : H' l = none) : H l = none := by
  cases q : H l with
  | none => rfl
  | some o =>
    rw [e l o n q] at h
    cases h
theorem sq_lst {K : PySem.W.Frag} {H : Hp} {a : Addr} {xs : List V} (h : H a = some (.lst xs)) : SqL K H a xs := .inl (.inl h)
theorem sq_tup {K : PySem.W.Frag} {H : Hp} {a : Addr} {xs : List V} (h : H a = some (.tup xs)) : SqT K H a xs := .inl (.inl h)
theorem at_nat {xs : List V} {j : Nat} {v : V} (h : xs[j]? = some v) : atI xs (j : Int) = some v := atI_nat h
theorem szl {n : Nat} (h : n ≤ 100000) : n ≤ sizeLine := Nat.le_trans h (by decide)
end Rv
namespace Rv
open PySem PySem.Spec PyProof.Rows L2
/-- a module's name that holds an int -/
theorem pe_gint {X : Cx} {x : Str} {i : Int} {pos : Pos} (h : ∃ u, X.mg x = some (.int i u)) (hg : Gl X x) (hd : (x == ("__debug__" : Str)) = false := by decide) : PE X (.Name x pos) (tC (.int i)) := by
  obtain ⟨u, h⟩ := h
  exact pe_glob hg h ⟨u, rfl⟩ hd
/-- a class of the module whose instances are made by its __init__ (dvs: the defaults that fill up) -/
structure CalM (P : Program) (w : World) (K : PySem.W.Frag) (mg : Str → Option Value) (base : Heap) (CX : CXT) (k : Nat) (x : Str) (C : Addr) (ps : List Str) (sp : Sp) (dvs : List V) : Prop where
  ex : ∃ f fd ds, FnOk P w K mg base CX k f fd ps sp ∧ Mk K C f ∧ mg x = some (.ref C) ∧ Binds K fd ps ds ∧ Vals dvs ds
/-- a property of a class that hands back a field -/
structure CalP (P : Program) (w : World) (K : PySem.W.Frag) (mg : Str → Option Value) (base : Heap) (CX : CXT) (k : Nat) (C : Addr) (f : Str) (sp : Sp) : Prop where
  ex : ∃ p g fd, FnOk P w K mg base CX k g fd ["self"] sp ∧ Cls K C ∧ PropOf K C f p g ∧ Binds K fd ["self"] []
/-- a method of a class -/
structure CalT (P : Program) (w : World) (K : PySem.W.Frag) (mg : Str → Option Value) (base : Heap) (CX : CXT) (k : Nat) (C : Addr) (m : Str) (ps : List Str) (sp : Sp) : Prop where
  ex : ∃ f fd, FnOk P w K mg base CX k f fd ps sp ∧ Cls K C ∧ Meth K C m f ∧ Binds K fd ps []
section
variable {X : Cx} {CX : CXT} {k : Nat} {x f m : Str} {ps : List Str} {sp : Sp} {E : XK} {p pos apos : Pos} {e o : Expr} {es : List Expr} {t : TA} {ta : TE} {C : Addr} {dvs : List V}
theorem pe_calm (c : CalM X.prog X.w X.K X.mg X.base CX k x C ps sp dvs) (hr : Room (k + 1) X.A) (hg : Gl X x) (hx : Passes CX X E) (ha : PA X (e :: es) t) (hdb : (x == ("__debug__" : Str)) = false := by decide)
    (he : starEach (e :: es) X.env = (false, eval e X.env) :: starEach es X.env := by rfl) (hpl : (backTo pos (starEach es X.env)).any (·.1) = false := by rfl) :
    PE X (.Call (.Name x p) (e :: es) [] pos) (tMake C sp dvs E t) := by
  obtain ⟨f, fd, ds, F, M, hm, hb, hd⟩ := c.ex
  exact pe_make M F hr hg hm hb hd hx ha hdb he hpl
theorem pe_calp (c : CalP X.prog X.w X.K X.mg X.base CX k C f sp) (hr : Room (k + 1) X.A) (hx : Passes CX X.nox E) (ha : PE X e ta) (hab : attributeBase e f X.env (eval e X.env) = eval e X.env) :
    PE X (.Attribute e f pos) (tProp C sp [] E ta) := by
  obtain ⟨q, g, fd, F, cl, hp, hb⟩ := c.ex
  exact pe_prop ha cl hp F hr hb .nil hx hab
theorem pe_calt {pl : Sem Bool} (c : CalT X.prog X.w X.K X.mg X.base CX k C m ps sp) (hr : Room k X.A) (hx : Passes CX X E) (ho : PE X o ta) (ha : PA X (e :: es) t)
    (he : starEach (e :: es) X.env = (false, eval e X.env) :: starEach es X.env := by rfl) (hpl : (backTo pos (starEach es X.env)).any (·.1) = false := by rfl)
    (ht : eval (.Call (.Attribute o m apos) (e :: es) [] pos) X.env = (do let ov ← eval o X.env; standAt apos.atName; let (f, first) ← holding [ov] (getMethod ov m pl); callWith pos f first (backTo pos (starEach (e :: es) X.env)) (backToKw pos (keywordEach [] X.env))) := by rfl) :
    PE X (.Call (.Attribute o m apos) (e :: es) [] pos) (tMeth C m sp [] E ta t) := by
  obtain ⟨f, fd, F, cl, hm, hb⟩ := c.ex
  exact pe_meth ho cl hm F hr hb .nil hx ha he hpl ht
theorem pe_calt0 {pl : Sem Bool} (c : CalT X.prog X.w X.K X.mg X.base CX k C m ps sp) (hr : Room k X.A) (hx : Passes CX X E) (ho : PE X o ta)
    (ht : eval (.Call (.Attribute o m apos) [] [] pos) X.env = (do let ov ← eval o X.env; standAt apos.atName; let (f, first) ← holding [ov] (getMethod ov m pl); callWith pos f first (backTo pos (starEach [] X.env)) (backToKw pos (keywordEach [] X.env))) := by rfl) :
    PE X (.Call (.Attribute o m apos) [] [] pos) (tMeth C m sp [] E ta tNil) := by
  obtain ⟨f, fd, F, cl, hm, hb⟩ := c.ex
  exact pe_meth0 ho cl hm F hr hb .nil hx ht
end
/-- == of a class's own -/
structure CalE (P : Program) (w : World) (K : PySem.W.Frag) (mg : Str → Option Value) (base : Heap) (CX : CXT) (k : Nat) (C : Addr) (R : Addr → Addr → Hp → Prop) : Prop where
  ex : ∃ f fd, FnOk P w K mg base CX k f fd ["self", "other"] (spEq R) ∧ PySem.W.findIn K (.ref C) "__eq__" = some (some (.ref f)) ∧ PySem.W.isFn K (.ref f) = true ∧ Binds K fd ["self", "other"] []
theorem op_cale {X : Cx} {CX : CXT} {k : Nat} {C : Addr} {R : Addr → Addr → Hp → Prop} {E : XK} (c : CalE X.prog X.w X.K X.mg X.base CX k C R) (hr : Room k X.A) (hx : Passes CX X E) : OpR X (compareOp .Eq) (rEqG (DIns C R)) := by
  obtain ⟨f, fd, F, h1, h2, hb⟩ := c.ex
  exact op_eqG (rcG_ins F h1 h2 hb hx) hr
end Rv
namespace Rv
open PySem PySem.Spec PyProof.Rows L2
section
variable {K : PySem.W.Frag} {σ : L2.St} {H : Hp} {Q : VK} {D : Ends} {v x y : V} {i j : Int} {n slot : Nat} {ta tb tc te to ti tv tl : TE} {t u c tt : TT} {tr : TA} {b : Bool} {r r' : R2} {s1 s2 : TS} {g : TG} {p a d C dx : Addr} {xs : List V} {f : Str} {fs : List (Str × V)} {GQ2 : Hp → Prop}
theorem w_chain (q : ta σ H fun x H1 => tb σ H1 fun y H2 => r x y H2 fun z H3 => ∃ k, z = .bl k ∧ (if k = true then tc σ H3 fun w' H4 => r' y w' H4 Q else Q (.bl false) H3)) : tChain r r' ta tb tc σ H Q := q
theorem w_fld (hn : σ[n]? = some (some (.ref a))) (ho : H a = some (.ins C dx fs)) (hc : Cls K C) (hf : NoAttr K C f) (hl : fs.lookup f = some v) (q : Q v H) : tFld K (tVar n) f σ H Q := ⟨_, hn, a, C, dx, fs, v, rfl, ho, hc, hf, hl, q⟩
theorem w_prop {sp : Sp} {E : XK} (hn : σ[n]? = some (some (.ref a))) (ho : H a = some (.ins C dx fs)) (q : sp [.ref a] H Q E) : tProp C sp [] E (tVar n) σ H Q := ⟨_, hn, a, dx, fs, rfl, ho, q⟩
theorem w_sfld (q : tv σ H fun y H1 => to σ H1 fun x H2 => ∃ a C dx fs, x = .ref a ∧ H2 a = some (.ins C dx fs) ∧ Cls K C ∧ NoAttr K C f ∧ fs.length < 1000 ∧ D.nx σ (upd H2 a (.ins C dx (putF f y fs)))) : sFld K to tv f D σ H := q
theorem w_put (ho : H a = some (.ins C dx fs)) (hc : Cls K C) (hf : NoAttr K C f) (hl : fs.length < 1000) (q : GQ2 (upd H a (.ins C dx (putF f y fs)))) : ∃ a' C' dx' fs', V.ref a = .ref a' ∧ H a' = some (.ins C' dx' fs') ∧ Cls K C' ∧ NoAttr K C' f ∧ fs'.length < 1000 ∧ GQ2 (upd H a' (.ins C' dx' (putF f y fs'))) := ⟨a, C, dx, fs, rfl, ho, hc, hf, hl, q⟩
/-- a call of a maker -/
theorem w_make {sp : Sp} {dvs : List V} {E : XK} (q : tr σ H fun vs H1 => ∀ x dx, H1 x = none → H1 dx = none → dx ≠ x → sp (.ref x :: (vs ++ dvs)) (upd (upd H1 dx (.own x)) x (.ins C dx [])) (fun v H2 => v = .non ∧ Q (.ref x) H2) E) : tMake C sp dvs E tr σ H Q := q
/-- for i in range(n) -/
theorem w_forR {n : Nat} (hn : n ≤ 100000) (ha : ∀ AQ : List V → Hp → Prop, AQ [.int (n : Int)] H → tr σ H AQ) (Pv : Nat → L2.St → Hp → Prop) (h0 : Pv 0 σ H)
    (hs : ∀ i σ' H', i < n → Pv i σ' H' → s1 { D with nx := Pv (i + 1), ct := Pv (i + 1), bk := D.nx } (σ'.set slot (some (.int (i : Int)))) H') (hd : ∀ σ' H', Pv n σ' H' → D.nx σ' H') : tFor (iRng1 tr) (gName slot) s1 D σ H := by
  refine ha _ ⟨(n : Int), rfl, by omega, by omega, ?_⟩
  rw [show ((n : Int)).toNat = n from Int.toNat_natCast n]
  refine for_range Pv h0 (fun i σ' H' hi q => ?_) hd
  show s1 _ (σ'.set slot (some (.int (0 + (i : Int))))) H'
  rw [Int.zero_add]
  exact hs i σ' H' hi q
/-- for x in a list -/
theorem w_forL (ha : ∀ Q : VK, Q (.ref a) H → tl σ H Q) (hx : SqL K H a xs) (Pv : Nat → L2.St → Hp → Prop) (h0 : Pv 0 σ H) (hl : ∀ i σ' H', i ≤ xs.length → Pv i σ' H' → SqL K H' a xs)
    (hs : ∀ i x σ' H', xs[i]? = some x → Pv i σ' H' → g x σ' H' fun σ2 H2 => s1 { D with nx := Pv (i + 1), ct := Pv (i + 1), bk := D.nx } σ2 H2) (hd : ∀ σ' H', Pv xs.length σ' H' → D.nx σ' H') : tFor (iList K tl) g s1 D σ H :=
  ha _ ⟨a, rfl, ⟨xs, hx⟩, for_list Pv h0 hl hs hd⟩
theorem w_forT (ha : ∀ Q : VK, Q (.ref a) H → tl σ H Q) (hx : SqT K H a xs) (Pv : Nat → L2.St → Hp → Prop) (h0 : Pv 0 σ H) (hl : ∀ i σ' H', i ≤ xs.length → Pv i σ' H' → SqT K H' a xs)
    (hs : ∀ i x σ' H', xs[i]? = some x → Pv i σ' H' → g x σ' H' fun σ2 H2 => s1 { D with nx := Pv (i + 1), ct := Pv (i + 1), bk := D.nx } σ2 H2) (hd : ∀ σ' H', Pv xs.length σ' H' → D.nx σ' H') : tFor (iTup K tl) g s1 D σ H :=
  ha _ ⟨a, rfl, ⟨xs, hx⟩, for_tup Pv h0 hl hs hd⟩
/-- for i, x in enumerate(a list): each turn has a new pair -/
theorem w_forE (ha : ∀ AQ : List V → Hp → Prop, AQ [.ref a] H → tr σ H AQ) (hx : SqL K H a xs) (Pv : Nat → L2.St → Hp → Prop) (h0 : Pv 0 σ H) (hl : ∀ i σ' H', Pv i σ' H' → SqL K H' a xs)
    (hs : ∀ i x T σ' H', xs[i]? = some x → Pv i σ' H' → H' T = none → g (.ref T) σ' (upd H' T (.tup [.int (i : Int), x])) fun σ2 H2 => s1 { D with nx := Pv (i + 1), ct := Pv (i + 1), bk := D.nx } σ2 H2)
    (hd : ∀ σ' H', Pv xs.length σ' H' → D.nx σ' H') : tFor (iEnum K tr) g s1 D σ H := by
  refine ha _ ⟨a, xs, rfl, hx, fun i m σ' H' => m = xs.length - i ∧ i ≤ xs.length ∧ Pv i σ' H', ⟨xs.length, by simp, Nat.zero_le _, h0⟩, ?_⟩
  rintro i m σ' H' ⟨rfl, hi, q⟩
  have hq := hl i σ' H' q
  by_cases hlt : i < xs.length
  · refine .inr ⟨⟨xs, xs[i], hq, List.getElem?_eq_getElem hlt⟩, fun σ2 H2 => Pv (i + 1) σ2 H2, fun σ2 H2 q2 => ⟨xs.length - (i + 1), by omega, rfl, hlt, q2⟩, ?_⟩
    rintro x H2 ⟨T, z, rfl, nT, rfl, hz⟩
    exact hs i z T σ' H' (hz xs hq) q nT
  · have e : i = xs.length := by omega
    subst e
    exact .inl ⟨⟨xs, hq, Nat.le_refl _⟩, hd σ' H' q⟩
/-- while -/
theorem w_while (W : Nat → L2.St → Hp → Prop) {m : Nat} (h0 : W m σ H) (hs : ∀ m σ' H', W m σ' H' → c σ' H' fun b H1 => if b = true then (∃ N : L2.St → Hp → Prop, (∀ σ2 H2, N σ2 H2 → ∃ m', m' < m ∧ W m' σ2 H2) ∧ s1 { D with nx := N, ct := N, bk := D.nx } σ' H1) else D.nx σ' H1) : tWhile c s1 D σ H := ⟨W, ⟨m, h0⟩, hs⟩
theorem w_turn {W : Nat → L2.St → Hp → Prop} {m : Nat} {σ' : L2.St} {H1 : Hp} {D2 : Ends} (h : s1 { D2 with nx := fun σ2 H2 => ∃ m', m' < m ∧ W m' σ2 H2, ct := fun σ2 H2 => ∃ m', m' < m ∧ W m' σ2 H2, bk := D2.nx } σ' H1) :
    ∃ N : L2.St → Hp → Prop, (∀ σ2 H2, N σ2 H2 → ∃ m', m' < m ∧ W m' σ2 H2) ∧ s1 { D2 with nx := N, ct := N, bk := D2.nx } σ' H1 := ⟨_, fun _ _ z => z, h⟩
/-- [e for x in range(n)] -/
theorem w_lcR {n : Nat} (hn : n ≤ 100000) (ha : ∀ AQ : List V → Hp → Prop, AQ [.int (n : Int)] H → tr σ H AQ) (J : Addr → List V → Hp → Prop) (h0 : ∀ D, H D = none → J D [] (upd H D (.lst [])))
    (hs : ∀ D acc H1, acc.length < n → J D acc H1 → te ((σ.set slot none).set slot (some (.int (acc.length : Int)))) H1 fun y H2 => ∃ bcc, H2 D = some (.lst bcc) ∧ bcc.length < sizeLine ∧ ∃ ccc, ccc.length = acc.length + 1 ∧ J D ccc (upd H2 D (.lst (bcc ++ [y]))))
    (hd : ∀ D acc H1, acc.length = n → J D acc H1 → Q (.ref D) H1) : tLc (iRng1 tr) (gName slot) tYes te [slot] σ H Q := by
  refine ha _ ⟨(n : Int), rfl, by omega, by omega, ?_⟩
  rw [show ((n : Int)).toNat = n from Int.toNat_natCast n]
  intro D nD
  refine lc_range (fun i H1 => ∃ acc, acc.length = i ∧ J D acc H1) ⟨[], rfl, h0 D nD⟩ ?_ (fun H1 ⟨acc, e, q⟩ => hd D acc H1 e q)
  rintro i H1 hi ⟨acc, rfl, q⟩
  refine ⟨?_, ?_⟩
  · show ((σ.set slot none).set slot _).set slot none = σ.set slot none
    rw [List.set_set, List.set_set]
  · show te _ H1 _
    rw [Int.zero_add]
    exact hs D acc H1 hi q
/-- what a turn of a comprehension ends with -/
theorem w_app {J : Addr → List V → Hp → Prop} {D2 : Addr} {acc : List V} {H2 : Hp} (h : H2 D2 = some (.lst acc)) (hl : acc.length ≤ 100000) (q : J D2 (acc ++ [y]) (upd H2 D2 (.lst (acc ++ [y])))) :
    ∃ bcc, H2 D2 = some (.lst bcc) ∧ bcc.length < sizeLine ∧ ∃ ccc, ccc.length = acc.length + 1 ∧ J D2 ccc (upd H2 D2 (.lst (bcc ++ [y]))) :=
  ⟨acc, h, Nat.lt_of_lt_of_le (by omega : acc.length < 100001) (by decide), acc ++ [y], by rw [List.length_append]; rfl, q⟩
end
end Rv
namespace Rv
open PySem PySem.Spec PyProof.Rows L2
section
variable {K : PySem.W.Frag} {σ : L2.St} {H : Hp} {Q : VK} {D : Ends} {v x y : V} {i j : Int} {n slot : Nat} {ta tb tc te to ti tv tl : TE} {t u c tt : TT} {tr : TA} {b b2 : Bool} {g : TG} {p a l : Addr} {xs ys : List V} {vs : List Nat}
theorem w_bm {r : V → List V → Hp → VK → Prop} (hn : σ[n]? = some (some (.ref l))) (hl : H l = some (.lst xs)) (q : tr σ H fun ws H2 => r (.ref l) ws H2 Q) : tBM K "list" r (tVar n) tr σ H Q := ⟨_, hn, .inl ⟨rfl, _, sq_lst hl⟩, q⟩
theorem w_bm0 {r : V → List V → Hp → VK → Prop} (hn : σ[n]? = some (some (.ref l))) (hl : H l = some (.lst xs)) (q : r (.ref l) [] H Q) : tBM0 K "list" r (tVar n) σ H Q := ⟨_, hn, .inl ⟨rfl, _, sq_lst hl⟩, q⟩
theorem w_appR (hl : H l = some (.lst xs)) (hz : xs.length ≤ 100000) (q : Q .non (upd H l (.lst (xs ++ [y])))) : rAppend (.ref l) [y] H Q := ⟨l, xs, y, rfl, rfl, hl, Nat.lt_of_lt_of_le (by omega : xs.length < 100001) (by decide), q⟩
theorem w_clear (hl : H l = some (.lst xs)) (q : Q .non (upd H l (.lst []))) : rClear (.ref l) [] H Q := ⟨l, xs, rfl, rfl, hl, q⟩
theorem w_eqB (q : Q (.bl (decide (b = b2))) H) : rEq (.bl b) (.bl b2) H Q := ⟨rfl, by
  have e : decide (V.bl b = V.bl b2) = decide (b = b2) := by
    by_cases h : b = b2
    · rw [h, decide_eq_true rfl, decide_eq_true rfl]
    · rw [decide_eq_false h, decide_eq_false (fun z => h (V.bl.inj z))]
  rw [e]
  exact q⟩
/-- a list, two lists that are at hand -/
def iAt (K : PySem.W.Frag) (a : Addr) : TI := fun _ H R => (∃ xs, SqL K H a xs) ∧ R (Itl K a) H
theorem w_lcl (q : tl σ H fun x H1 => ∃ a, x = .ref a ∧ tLc (iAt K a) g tt te vs σ H1 Q) : tLc (iList K tl) g tt te vs σ H Q := q
theorem w_lcA (hx : SqL K H a xs) (J : Addr → Nat → List V → Hp → Prop) (h0 : ∀ D, H D = none → J D 0 [] (upd H D (.lst []))) (hl : ∀ D i acc H1, J D i acc H1 → SqL K H1 a xs)
    (hs : ∀ D i acc x H1, xs[i]? = some x → J D i acc H1 → g x (wipe σ vs) H1 fun σ2 H2 => wipe σ2 vs = wipe σ vs ∧ tt σ2 H2 fun b H3 => if b = true then te σ2 H3 fun y H4 => ∃ bcc, H4 D = some (.lst bcc) ∧ bcc.length < sizeLine ∧ ∃ ccc, J D (i + 1) ccc (upd H4 D (.lst (bcc ++ [y]))) else ∃ ccc, J D (i + 1) ccc H3)
    (hd : ∀ D acc H1, J D xs.length acc H1 → Q (.ref D) H1) : tLc (iAt K a) g tt te vs σ H Q := by
  refine ⟨⟨xs, hx⟩, fun D nD => ?_⟩
  exact lc_list (fun i H1 => ∃ acc, J D i acc H1) ⟨[], h0 D nD⟩ (fun i H1 _ ⟨acc, q⟩ => hl D i acc H1 q) (fun i x H1 hx ⟨acc, q⟩ => hs D i acc x H1 hx q) fun H1 ⟨acc, q⟩ => hd D acc H1 q
def iAtZ (K : PySem.W.Frag) (a b : Addr) : TI := fun _ H R => (∃ xs ys, SqL K H a xs ∧ SqL K H b ys) ∧ R (Itz K a b) H
theorem w_lcz (q : tr σ H fun ws H1 => ∃ a b xs ys, ws = [.ref a, .ref b] ∧ SqL K H1 a xs ∧ SqL K H1 b ys ∧ ∀ D, H1 D = none → ∃ W : Nat → Nat → Hp → Prop, (∃ m, W 0 m (upd H1 D (.lst []))) ∧ ∀ i m H, W i m H →
      ((Itz K a b).stop i H ∧ Q (.ref D) H) ∨ ((Itz K a b).go i H ∧ ∃ Nx : Hp → Prop, (∀ H', Nx H' → ∃ m', m' < m ∧ W (i + 1) m' H') ∧ ∀ x H', (Itz K a b).yld i H x H' → g x (wipe σ vs) H' fun σ2 H2 =>
        wipe σ2 vs = wipe σ vs ∧ tt σ2 H2 fun b H3 => if b = true then te σ2 H3 fun y H4 => ∃ acc, H4 D = some (.lst acc) ∧ acc.length < sizeLine ∧ Nx (upd H4 D (.lst (acc ++ [y]))) else Nx H3)) : tLc (iZip K tr) g tt te vs σ H Q := q
/-- the body of a comprehension over zip, by a word J of the turn -/
theorem w_lcZ {bb : Addr} (J : Addr → Nat → List V → Hp → Prop) {H1 : Hp} {Dd : Addr} (h0 : J Dd 0 [] (upd H1 Dd (.lst []))) (hl : ∀ i acc H2, J Dd i acc H2 → SqL K H2 a xs ∧ SqL K H2 bb ys)
    (hs : ∀ i acc x y T H2, xs[i]? = some x → ys[i]? = some y → J Dd i acc H2 → H2 T = none → g (.ref T) (wipe σ vs) (upd H2 T (.tup [x, y])) fun σ2 H3 => wipe σ2 vs = wipe σ vs ∧ tt σ2 H3 fun b H4 => if b = true then te σ2 H4 fun z H5 => ∃ bcc, H5 Dd = some (.lst bcc) ∧ bcc.length < sizeLine ∧ ∃ ccc, J Dd (i + 1) ccc (upd H5 Dd (.lst (bcc ++ [z]))) else ∃ ccc, J Dd (i + 1) ccc H4)
    (hd : ∀ acc H2, J Dd (min xs.length ys.length) acc H2 → Q (.ref Dd) H2) :
    ∃ W : Nat → Nat → Hp → Prop, (∃ m, W 0 m (upd H1 Dd (.lst []))) ∧ ∀ i m H, W i m H →
      ((Itz K a bb).stop i H ∧ Q (.ref Dd) H) ∨ ((Itz K a bb).go i H ∧ ∃ Nx : Hp → Prop, (∀ H', Nx H' → ∃ m', m' < m ∧ W (i + 1) m' H') ∧ ∀ x H', (Itz K a bb).yld i H x H' → g x (wipe σ vs) H' fun σ2 H2 =>
        wipe σ2 vs = wipe σ vs ∧ tt σ2 H2 fun b H3 => if b = true then te σ2 H3 fun y H4 => ∃ acc, H4 Dd = some (.lst acc) ∧ acc.length < sizeLine ∧ Nx (upd H4 Dd (.lst (acc ++ [y]))) else Nx H3) := by
  refine ⟨fun i m H2 => m = min xs.length ys.length - i ∧ i ≤ min xs.length ys.length ∧ ∃ acc, J Dd i acc H2, ⟨min xs.length ys.length, by simp, Nat.zero_le _, [], h0⟩, ?_⟩
  rintro i m H2 ⟨rfl, hi, acc, q⟩
  obtain ⟨q1, q2⟩ := hl i acc H2 q
  by_cases hlt : i < min xs.length ys.length
  · have k1 : i < xs.length := by omega
    have k2 : i < ys.length := by omega
    refine .inr ⟨⟨xs, ys, xs[i], ys[i], q1, q2, List.getElem?_eq_getElem k1, List.getElem?_eq_getElem k2⟩, fun H' => ∃ ccc, J Dd (i + 1) ccc H', fun H' z => ⟨min xs.length ys.length - (i + 1), by omega, rfl, hlt, z⟩, ?_⟩
    rintro z H' ⟨T, x, y, rfl, nT, rfl, hx, hy⟩
    exact hs i acc x y T H2 (hx xs q1) (hy ys q2) q nT
  · have e : i = min xs.length ys.length := by omega
    subst e
    exact .inl ⟨⟨xs, ys, q1, q2, by omega⟩, hd acc H2 q⟩
end
end Rv
namespace Rv
open PySem PySem.Spec PyProof.Rows L2
/-! what the top leaves behind, beyond defs and methods: properties, an own ==, getters -/
def prA (K : PySem.W.Frag) (x f : Str) : Addr := He.ma K (He.ga K x) f
def gtA (K : PySem.W.Frag) (x f : Str) : Addr := match PySem.W.recIn K (prA K x f) "property" with
  | some (.ref g :: _) => g
  | _ => 0
def prB (K : PySem.W.Frag) (x f : Str) : Bool := He.eqO (PySem.W.findIn K (.ref (He.ga K x)) f) (some (some (.ref (prA K x f)))) &&
  (He.eqO (PySem.W.specialIn K (.ref (prA K x f)) "__get__") (some (some (.builtin "property.__get__"))) && (decide (PySem.W.takesIn K (.ref (prA K x f)) = some true) &&
    (match PySem.W.recIn K (prA K x f) "property" with
      | some (.ref _ :: _) => true
      | _ => false)))
theorem pr_of {K : PySem.W.Frag} {x f : Str} (h : prB K x f = true) : PropOf K (He.ga K x) f (prA K x f) (gtA K x f) := by
  obtain ⟨h1, h⟩ := He.ba h
  obtain ⟨h2, h⟩ := He.ba h
  obtain ⟨h3, h4⟩ := He.ba h
  refine ⟨He.eqO_ok h1, He.eqO_ok h2, of_decide_eq_true h3, ?_⟩
  unfold gtA
  cases q : PySem.W.recIn K (prA K x f) "property" with
  | none =>
    rw [q] at h4
    cases h4
  | some l =>
    rw [q] at h4
    match l, h4 with
    | .ref g :: r, _ => exact ⟨r, rfl⟩
/-- the class x has no __class__ of its own -/
def clB (K : PySem.W.Frag) (x : Str) : Bool := He.eqO (PySem.W.findIn K (.ref (He.ga K x)) "__class__") (some (some (.builtin "object.__class__"))) &&
  (He.eqO (PySem.W.specialIn K (.builtin "object.__class__") "__get__") (some (some (.builtin "getset_descriptor.__get__"))) && (decide (PySem.W.takesIn K (.builtin "object.__class__") = some true) && decide (PySem.W.mroIn K (He.ga K x) (.type "object") = some true)))
/-- the text of a function at an address -/
def txt (K : PySem.W.Frag) (a : Addr) : He.FnW := match K.lookup a with
  | some o => (match o.data with
    | .func z => some (z.name, z.qualname, z.params, z.body, z.scope, z.globals, z.closure, z.builtins)
    | _ => none)
  | none => none
def isNn : Value → Bool
  | .none => true
  | _ => false
def txB (K : PySem.W.Frag) (a : Addr) (q : Str) : Bool := PySem.W.keepIn K (.ref a) && (match K.lookup a with
  | some o => (match o.data with
    | .func z => PySem.W.codeIn K z.code q && isNn z.defaults
    | _ => false)
  | none => false)
/-- a getter: its class, the property's name, its function's text -/
structure Gt where
  cl : Str
  pr : Str
  qual : Str
  params : Arguments
  body : List Stmt
  scope : Scope
def Gt.val (g : Gt) : He.FnW := some (g.pr, g.qual, g.params, .stmts g.body, g.scope, mainGlobals, [], builtinsNs)
theorem gt_fun {K : PySem.W.Frag} {g : Gt} {a : Addr} (e : txt K a = g.val) (c : txB K a g.qual = true) : ∃ z, FunD K g.pr g.qual g.params g.body g.scope [] [] a z := by
  obtain ⟨kp, c⟩ := He.ba c
  unfold txt at e
  cases q : K.lookup a with
  | none =>
    rw [q] at e
    cases e
  | some o =>
    obtain ⟨o1, o2, o3, o4⟩ := o
    rw [q] at e c
    cases o3 with
    | func z =>
      obtain ⟨z1, z2, z3, z4, z5, z6, z7, z8, z9, z10, z11, z12, z13, z14, z15⟩ := z
      have e2 : (some (z1, z2, z3, z4, z5, z6, z7, z15) : He.FnW) = some (g.pr, g.qual, g.params, .stmts g.body, g.scope, mainGlobals, [], builtinsNs) := e
      simp only [Option.some.injEq, Prod.mk.injEq] at e2
      obtain ⟨r1, r2, r3, r4, r5, r6, r7, r8⟩ := e2
      subst r1 r2 r3 r4 r5 r6 r7 r8
      obtain ⟨u1, u2⟩ := He.ba (show (PySem.W.codeIn K z13 _ && isNn z8) = true from c)
      cases z8 with
      | none => exact ⟨_, ⟨o1, o2, _, z9, z10, z11, z12, z13, z14, o4, rfl, q, u1, .inl ⟨rfl, rfl⟩, .inl rfl⟩, kp⟩
      | _ => cases u2
    | _ => cases c
/-! the hook: facts, defs, getters, one more test -/
abbrev AlR : Type := He.AlD × (Bool × List He.FnW)
def obsR (fa : List He.Fa) (fn : List He.DefD) (gs : List Gt) (ex : PySem.W.Frag → Bool) (K : PySem.W.Frag) : AlR :=
  (He.obsD fa fn K, (ex K && gs.all fun g => txB K (gtA K g.cl g.pr) g.qual, gs.map fun g => txt K (gtA K g.cl g.pr)))
def valR (fn : List He.DefD) (gs : List Gt) : AlR := (He.valD fn, (true, gs.map Gt.val))
def SaysR (fa : List He.Fa) (fn : List He.DefD) (gs : List Gt) (ex : PySem.W.Frag → Bool) (K : PySem.W.Frag) : Prop := obsR fa fn gs ex K = valR fn gs
def obsRG (n : Nat) (fa : List He.Fa) (fn : List He.DefD) (gs : List Gt) (ex : PySem.W.Frag → Bool) (g : Addr → Option Obj) : AlR := obsR fa fn gs ex (He.frG g (cStatics :: He.asD g n))
def hookR (n : Nat) (fa : List He.Fa) (fn : List He.DefD) (gs : List Gt) (ex : PySem.W.Frag → Bool) : PySem.W.Hook where
  α := AlR
  obs := fun s => obsRG n fa fn gs ex s.heap.get?
  val := fun _ => valR fn gs
  says := fun _ h => ∃ K : PySem.W.Frag, K.In h ∧ SaysR fa fn gs ex K
  of := fun _ _ e => ⟨_, He.frG_in, e⟩
  keeps := fun _ _ _ ⟨K, hK, c⟩ k => ⟨K, PySem.W.Frag.In.keeps hK k, c⟩
theorem obsRG_eq {n : Nat} {fa : List He.Fa} {fn : List He.DefD} {gs : List Gt} {ex : PySem.W.Frag → Bool} {g : Addr → Option Obj} {s : Shared} (h : ∀ a, g a = s.heap.get? a) : obsRG n fa fn gs ex g = (hookR n fa fn gs ex).obs s := by
  have e : g = s.heap.get? := funext h
  rw [e] <;> rfl
section
variable {fa : List He.Fa} {fn : List He.DefD} {gs : List Gt} {ex : PySem.W.Frag → Bool} {K : PySem.W.Frag}
theorem SaysR.d (c : SaysR fa fn gs ex K) : He.SaysD fa fn K := congrArg (fun z : AlR => z.1) c
theorem SaysR.x (c : SaysR fa fn gs ex K) : ex K = true := (He.ba (show (ex K && gs.all fun g => txB K (gtA K g.cl g.pr) g.qual) = true from congrArg (fun z : AlR => z.2.1) c)).1
theorem SaysR.g (c : SaysR fa fn gs ex K) (i : Nat) {g : Gt} (h : gs[i]? = some g := by rfl) : ∃ z, FunD K g.pr g.qual g.params g.body g.scope [] [] (gtA K g.cl g.pr) z := by
  have c1 := (He.ba (show (ex K && gs.all fun g => txB K (gtA K g.cl g.pr) g.qual) = true from congrArg (fun z : AlR => z.2.1) c)).2
  have e : gs.map (fun g => txt K (gtA K g.cl g.pr)) = gs.map Gt.val := congrArg (fun z : AlR => z.2.2) c
  have e2 : (gs.map fun g => txt K (gtA K g.cl g.pr))[i]? = (gs.map Gt.val)[i]? := by rw [e]
  rw [List.getElem?_map, List.getElem?_map, h] at e2
  exact gt_fun (Option.some.inj e2) (List.all_eq_true.mp c1 g (List.mem_of_getElem? h))
end
end Rv
namespace Rv
open PySem PySem.Spec PyProof.Rows L2
/-! ### the law's draws: a list of the cells, a place, a number in use, a seed -/
def DrawsAt (H : Hp) (d c : Addr) : Prop := ∃ (ns : List Int) (pos num seed : Int), H d = some (.lst [.ref c, .int pos, .int num, .int seed]) ∧ H c = some (.lst (ns.map V.int)) ∧ c ≠ d ∧ 0 ≤ pos ∧ 0 ≤ num ∧ 0 ≤ seed ∧ seed < 2147483647
theorem DrawsAt.new {H H' : Hp} {d c : Addr} (h : DrawsAt H d c) (e : Same H H') : DrawsAt H' d c := by
  obtain ⟨ns, pos, num, seed, h1, h2, h3⟩ := h
  exact ⟨ns, pos, num, seed, e _ _ h1, e _ _ h2, h3⟩
theorem DrawsAt.wr {H : Hp} {d c a : Addr} {o : HO} (h : DrawsAt H d c) (n1 : a ≠ d) (n2 : a ≠ c) : DrawsAt (upd H a o) d c := by
  obtain ⟨ns, pos, num, seed, h1, h2, h3⟩ := h
  exact ⟨ns, pos, num, seed, by rw [upd_ne n1.symm]; exact h1, by rw [upd_ne n2.symm]; exact h2, h3⟩
theorem DrawsAt.nd {H : Hp} {d c a : Addr} (h : DrawsAt H d c) (n : H a = none) : a ≠ d := by
  obtain ⟨ns, pos, num, seed, h1, h2, h3⟩ := h
  intro e
  rw [e, h1] at n
  cases n
theorem DrawsAt.nc {H : Hp} {d c a : Addr} (h : DrawsAt H d c) (n : H a = none) : a ≠ c := by
  obtain ⟨ns, pos, num, seed, h1, h2, h3⟩ := h
  intro e
  rw [e, h2] at n
  cases n
def spDraw (K : PySem.W.Frag) : Sp := fun vs H Q _ => ∃ (d c : Addr) (many : Int), vs = [.ref d, .int many] ∧ DrawsAt H d c ∧ 0 < many ∧ many < 2 ^ 200 ∧
  ∀ r H', 0 ≤ r → r < many → But d H H' → DrawsAt H' d c → Q (.int r) H'
def spDraws (K : PySem.W.Frag) : Sp := fun vs H Q _ => ∃ (a : Addr) (ns : List Int), vs = [.ref a] ∧ SqL K H a (ns.map V.int) ∧ ∀ d c H', H d = none → H c = none → Same H H' → DrawsAt H' d c → Q (.ref d) H'
theorem map_int_at {ns : List Int} {j : Nat} (h : j < ns.length) : (ns.map V.int)[j]? = some (V.int ns[j]) := by
  rw [List.getElem?_map, List.getElem?_eq_getElem h]
  rfl
theorem cell_at {ns : List Int} {z : Int} (h0 : 0 ≤ z) (h : z < ((ns.map V.int).length : Int)) : ∃ y, atI (ns.map V.int) z = some (V.int y) := by
  rw [List.length_map] at h
  have e : z = ((z.toNat : Nat) : Int) := (Int.toNat_of_nonneg h0).symm
  have q : (ns.map V.int)[z.toNat]? = some (V.int (ns[z.toNat]'(by omega))) := map_int_at (by omega)
  exact ⟨_, at_of e q⟩
theorem divw {i j : Int} (h : 0 < j) (hb : j < 2 ^ 200) : CDivW i j := by
  refine wide_div (b := 201) h ?_ (by decide) (by decide)
  have e : (2 : Int) ^ 200 = ((2 ^ 200 : Nat) : Int) := rfl
  have e2 : (2 ^ 200 : Nat) < 2 ^ 201 := by decide
  omega
theorem cut_map (ns : List Int) (lo hi : Option Int) : ∃ ms : List Int, cutV (ns.map V.int) lo hi = ms.map V.int := by
  unfold cutV
  rw [← List.map_drop, ← List.map_take]
  exact ⟨_, rfl⟩
def t__law_draws (K : PySem.W.Frag) : TS :=
  (tRet (tLst (tCons (tSl (rSlL K) (tVar 0) tNoPart (tPart (tC (.int 63)))) (tCons (tC (.int 0)) (tCons (tC (.int 0)) (tCons (tC (.int 5)) tNil))))))
def t__law_draw (K : PySem.W.Frag) : TS :=
  (tSeq (tAsg (tOp (rIxL K) (tVar 0) (tC (.int 0))) (gName 2))
    (tSeq (tIfS (tAnd (tTest (tOp rEq (tOp (rIxL K) (tVar 0) (tC (.int 2))) (tC (.int 0)))) (tAnd (tTest (tOp oLt (tOp (rIxL K) (tVar 0) (tC (.int 1))) (tCB (cLen K) (tCons (tVar 2) tNil)))) (tTest (tOp oGe (tOp (rIxL K) (tVar 2) (tOp (rIxL K) (tVar 0) (tC (.int 1)))) (tOp oPow (tC (.int 10)) (tC (.int 18))))))) (tSeq (tAsg (tOp (rIxL K) (tVar 2) (tOp (rIxL K) (tVar 0) (tC (.int 1)))) (gSub (tVar 0) (tC (.int 2)) rSetL))
    (tAsg (tOp oAdd (tOp (rIxL K) (tVar 0) (tC (.int 1))) (tC (.int 1))) (gSub (tVar 0) (tC (.int 1)) rSetL))) tNext)
    (tSeq (tIfS (tTest (tOp oGt (tOp (rIxL K) (tVar 0) (tC (.int 2))) (tC (.int 0)))) (tSeq (tAsg (tOp oMod (tOp (rIxL K) (tVar 0) (tC (.int 2))) (tVar 1)) (gName 3))
    (tSeq (tAsg (tOp oDiv (tOp (rIxL K) (tVar 0) (tC (.int 2))) (tVar 1)) (gSub (tVar 0) (tC (.int 2)) rSetL))
    (tRet (tVar 3)))) tNext)
    (tSeq (tAsg (tC (.int 0)) (gName 4))
    (tSeq (tIfS (tTest (tOp oLt (tOp (rIxL K) (tVar 0) (tC (.int 1))) (tCB (cLen K) (tCons (tVar 2) tNil)))) (tSeq (tAsg (tOp (rIxL K) (tVar 2) (tOp (rIxL K) (tVar 0) (tC (.int 1)))) (gName 4))
    (tAsg (tOp oAdd (tOp (rIxL K) (tVar 0) (tC (.int 1))) (tC (.int 1))) (gSub (tVar 0) (tC (.int 1)) rSetL))) tNext)
    (tSeq (tAsg (tOp oMod (tOp oAdd (tOp oAdd (tOp oMul (tOp (rIxL K) (tVar 0) (tC (.int 3))) (tC (.int 48271))) (tOp oMod (tVar 4) (tC (.int 1999993)))) (tC (.int 11))) (tC (.int 2147483647))) (gSub (tVar 0) (tC (.int 3)) rSetL))
    (tSeq (tAsg (tOp oMod (tOp oPow (tOp (rIxL K) (tVar 0) (tC (.int 3))) (tC (.int 5))) (tC (.int 2147483647))) (gName 5))
    (tSeq (tIfS (tTest (tOp oGt (tVar 1) (tOp oPow (tC (.int 10)) (tC (.int 9))))) (tAsg (tOp oAdd (tOp oPow (tVar 5) (tC (.int 4))) (tVar 5)) (gName 5)) tNext)
    (tRet (tOp oMod (tVar 5) (tVar 1)))))))))))
local macro_rules | `(tactic| walk_at "rv st") => `(tactic| first
  | with_reducible refine iteT ?_ | with_reducible refine iteF ?_ | with_reducible refine w_nx ?_ | with_reducible refine w_yes ?_ | with_reducible refine w_rt ?_ | with_reducible refine iteNT ?_ | with_reducible refine iteNF ?_ | with_reducible refine iteNRf ?_ | with_reducible refine iteRf ?_ | with_reducible refine w_seqA ?_ | with_reducible refine w_seqD ?_ | with_reducible refine w_seqP ?_ | with_reducible refine w_asg ?_ | with_reducible refine w_ret ?_ | with_reducible refine w_drop ?_ | with_reducible refine w_ifs ?_ | with_reducible refine w_next ?_ | with_reducible refine w_par ?_
  | with_reducible refine w_op ?_ | with_reducible refine w_un ?_ | ((with_reducible show tVar _ _ _ _); refine' w_var ?hv ?_; (case hv => exact rfl)) | with_reducible refine w_c ?_ | with_reducible refine w_test ?_ | with_reducible refine w_tB ?_
  | with_reducible refine w_bl ?_ | with_reducible refine w_I0 ?_ | with_reducible refine w_U ?_ | with_reducible refine w_eqI ?_ | with_reducible refine w_neI ?_
  | with_reducible refine w_cons ?_ | with_reducible refine w_nil ?_ | with_reducible refine w_gn ?_ | with_reducible refine w_gsub ?_ | with_reducible refine w_and ?_ | with_reducible refine w_or ?_ | with_reducible refine w_not ?_
  | with_reducible refine w_andV ?_ | with_reducible refine w_orV ?_ | with_reducible refine w_notV ?_ | with_reducible refine w_if ?_ | with_reducible refine w_cb ?_ | with_reducible refine w_call ?_ | with_reducible refine w_lst ?_ | with_reducible refine w_tup ?_
  | with_reducible refine w_sl ?_ | with_reducible refine w_noPart ?_ | with_reducible refine w_part ?_ | with_reducible refine w_ex1 ?_ | with_reducible refine w_exb ?_ | with_reducible refine w_intB ?_ | with_reducible refine w_intI ?_ | with_reducible refine w_abs ?_)
local macro_rules | `(tactic| walk_at "rv ix") => `(tactic| ((with_reducible show rIxL _ _ _ _ _); refine' w_ixL (sq_lst ?ha) ?hb ?_; (case ha => first | exact upd_same | assumption); (case hb => first | exact rfl | assumption)))
local macro_rules | `(tactic| walk_at "rv ar") => `(tactic| first
  | (refine' w_I ?hc ?_; (case hc => first | (show (0 : Int) < _; first | assumption | decide | omega) | exact pow_c (by decide) (by decide) (by first | decide | omega) (by first | decide | omega) | exact mul_r (by first | decide | omega) (by first | decide | omega) | exact mul_l (by first | decide | omega) (by first | decide | omega) | exact divw (by first | assumption | decide | omega) (by first | assumption | decide | omega))))
local macro_rules | `(tactic| walk_at "rv go") => `(tactic| repeat first | walk_at "rv st" | walk_at "rv ix" | ((with_reducible show rI _ _ _ _ _ _); walk_at "rv ar"))
theorem p_draws {K : PySem.W.Frag} {vs : List V} {H : Hp} {Q : VK} {E : XK} (h : spDraws K vs H Q E) : t__law_draws K { nx := fun _ H' => Q .non H', rt := Q } (start ["_law_script"] vs) H := by
  obtain ⟨a, ns, rfl, hS, k⟩ := h
  unfold t__law_draws
  walk_at "rv go"
  refine w_slL hS fun p np => ?_
  walk_at "rv go"
  refine ⟨szl (by simp), fun q nq => ?_⟩
  have npq : p ≠ q := fun e => by
    rw [e, upd_same] at nq
    cases nq
  have nH : H q = none := by
    rw [upd_ne npq.symm] at nq
    exact nq
  obtain ⟨ms, em⟩ := cut_map ns none (some 63)
  refine k q p _ nH np (same_new (same_new (Same.refl H) np) nq) ⟨ms, 0, 0, 5, upd_same, ?_, npq, by decide, by decide, by decide, by decide⟩
  rw [upd_ne npq, upd_same, em]
theorem p_draw {K : PySem.W.Frag} {vs : List V} {H : Hp} {Q : VK} {E : XK} (h : spDraw K vs H Q E) : t__law_draw K { nx := fun _ H' => Q .non H', rt := Q } (start ["_law_draws_here", "_law_many", "_law_cells", "_law_value", "_law_cell", "_law_mixed"] vs) H := by
  obtain ⟨d, c, many, rfl, ⟨ns, pos, num, seed, hd, hc, ncd, hp, hn, hs, hs2⟩, hm, hm2, k⟩ := h
  have e18 : (0 : Int) < 10 ^ (18 : Int).toNat := by decide
  have sqc : ∀ {H1 : Hp}, But d H H1 → SqL K H1 c (ns.map V.int) := fun e => sq_lst (e _ _ ncd hc)
  unfold t__law_draw
  walk_at "rv go"
  -- a number is taken from the cells, or not
  refine w_cut (fun σ' H1 => ∃ pos num : Int, σ' = [some (.ref d), some (.int many), some (.ref c), none, none, none] ∧ H1 d = some (.lst [.ref c, .int pos, .int num, .int seed]) ∧ But d H H1 ∧ 0 ≤ pos ∧ 0 ≤ num) (fun N key => ?_) ?_
  · refine w_ifs ?_
    walk_at "rv go"
    refine w_both (fun h1 => ?_) (fun h1 => ?_)
    · walk_at "rv go"
      refine w_lenL (sq_lst hc) ?_
      walk_at "rv go"
      refine w_both (fun h2 => ?_) (fun h2 => ?_)
      · obtain ⟨y, hy⟩ := cell_at hp h2
        walk_at "rv go"
        refine w_both (fun h3 => ?_) (fun h3 => ?_)
        · walk_at "rv go"
          refine w_setL hd rfl ?_
          walk_at "rv go"
          refine w_setL upd_same rfl ?_
          refine key _ _ ⟨pos + 1, y, rfl, upd_same, (But.refl d H).wr.wr, by omega, by omega⟩
        · walk_at "rv go"
          exact key _ _ ⟨pos, num, rfl, hd, But.refl d H, hp, hn⟩
      · walk_at "rv go"
        exact key _ _ ⟨pos, num, rfl, hd, But.refl d H, hp, hn⟩
    · walk_at "rv go"
      exact key _ _ ⟨pos, num, rfl, hd, But.refl d H, hp, hn⟩
  · rintro σ1 H1 ⟨pos, num, rfl, hd, b1, hp, hn⟩
    refine w_seq ?_
    walk_at "rv go"
    refine w_both (fun h1 => ?_) (fun h1 => ?_)
    · -- a digit of the number
      walk_at "rv go"
      refine w_setL hd rfl ?_
      walk_at "rv go"
      refine k _ _ (Int.emod_nonneg _ (by omega)) (Int.emod_lt_of_pos _ hm) b1.wr ⟨ns, pos, num / many, seed, upd_same, b1.wr _ _ ncd hc, ncd, hp, Int.ediv_nonneg hn (by omega), hs, hs2⟩
    · -- from the seed
      walk_at "rv go"
      refine w_cut (fun σ' H2 => ∃ pos cell : Int, σ' = [some (.ref d), some (.int many), some (.ref c), none, some (.int cell), none] ∧ H2 d = some (.lst [.ref c, .int pos, .int num, .int seed]) ∧ But d H H2 ∧ 0 ≤ pos) (fun N key => ?_) ?_
      · walk_at "rv go"
        refine w_lenL (sqc b1) ?_
        walk_at "rv go"
        refine w_both (fun h2 => ?_) (fun h2 => ?_)
        · obtain ⟨y, hy⟩ := cell_at hp h2
          walk_at "rv go"
          refine w_ixL (sqc b1) hy ?_
          walk_at "rv go"
          refine w_setL hd rfl ?_
          exact key _ _ ⟨pos + 1, y, rfl, upd_same, b1.wr, by omega⟩
        · refine w_next ?_
          exact key _ _ ⟨pos, 0, rfl, hd, b1, hp⟩
      · rintro σ2 H2 ⟨pos, cell, rfl, hd, b2, hp⟩
        walk_at "rv go"
        refine w_setL hd rfl ?_
        have s1 : 0 ≤ (seed * 48271 + cell % 1999993 + 11) % 2147483647 := Int.emod_nonneg _ (by decide)
        have s2 : (seed * 48271 + cell % 1999993 + 11) % 2147483647 < 2147483647 := Int.emod_lt_of_pos _ (by decide)
        generalize (seed * 48271 + cell % 1999993 + 11) % 2147483647 = sd at s1 s2
        walk_at "rv go"
        have m1 : 0 ≤ sd ^ (5 : Int).toNat % 2147483647 := Int.emod_nonneg _ (by decide)
        have m2 : sd ^ (5 : Int).toNat % 2147483647 < 2147483647 := Int.emod_lt_of_pos _ (by decide)
        generalize sd ^ (5 : Int).toNat % 2147483647 = mx at m1 m2
        have fin : ∀ z : Int, Q (.int (z % many)) (upd H2 d (.lst [.ref c, .int pos, .int num, .int sd])) := fun z =>
          k _ _ (Int.emod_nonneg _ (by omega)) (Int.emod_lt_of_pos _ hm) b2.wr ⟨ns, pos, num, sd, upd_same, b2.wr _ _ ncd hc, ncd, hp, hn, s1, s2⟩
        refine w_seq ?_
        refine w_ifs ?_
        walk_at "rv go"
        refine w_both (fun h2 => ?_) (fun h2 => ?_)
        · walk_at "rv go"
          exact fin _
        · walk_at "rv go"
          exact fin _
end Rv
/-! enumerate of a tuple, and of a list or a tuple. -/
namespace PySem
open Sem (wp)
open AutoSeq1 (wpAny_loadPart')
theorem rv_enum_newT (l : Addr) (items : Array Value) (n : Nat) (dct : Option Addr) (sl : Array (Option Value)) :
    Meets (Builtin.«enumerate.__new__» ⟨[.type "enumerate", .ref l], []⟩) (fun _ R s => s.heap.get? l = some { cls := .type "tuple", dict := dct, data := .seq items n, slots := sl } ∧
      R (.ok (.ret (.ref (s.heap.push { cls := .type "tuple_iterator", data := .fields #[.ref l, .int 0 0] }).objs.size)))
        { s with heap := (s.heap.push { cls := .type "tuple_iterator", data := .fields #[.ref l, .int 0 0] }).push { cls := .type "enumerate", data := .fields #[.none, .bool false, .ref s.heap.objs.size, rawInt 0, .none, .none] } }) :=
  .of_wp fun prog w A R s h => by
    obtain ⟨hp, g, d, tk, os⟩ := s
    obtain ⟨hl, h⟩ := h
    have hsub := sub_enumerate
    have hL : Heap.IsTuple (Shared.heap ⟨hp, g, d, tk, os⟩) l items := ⟨_, hl, rfl, n, rfl⟩
    wp_walk using wpAny_loadPart' hl
    refine wpAny_stack_any fun st => wpAny_pure ?_
    split
    · rename_i c _ _ _ _ _
      cases (c == Value.type "enumerate")
      · wp_walk using wpAny_loadPart' hl, wpAny_pyIter_tuple hL
        exact ⟨_, rfl, h⟩
      · wp_walk using wpAny_loadPart' hl, wpAny_pyIter_tuple hL
        exact ⟨_, rfl, h⟩
    · wp_walk using wpAny_loadPart' hl, wpAny_pyIter_tuple hL
      exact ⟨_, rfl, h⟩
section
variable {prog : Program} {w : World} {A : Around} {E : Value → Shared → Prop} {s : Shared}
theorem rv_call_enumT {l : Addr} {items : Array Value} {Q : Value → Shared → Prop} (hL : s.heap.IsTuple l items)
    (h : ∀ h', IsEnum h' (s.heap.objs.size + 1) s.heap.objs.size 0 .none → h'.IsTupleIter s.heap.objs.size l 0 → h'.objs.size = s.heap.objs.size + 2 →
      (∀ b o, s.heap.get? b = some o → h'.get? b = some o) → Q (.ref (s.heap.objs.size + 1)) { s with heap := h' }) :
    wpAny (model prog w) A (call (.type "enumerate") [.ref l]) Q E s := by
  obtain ⟨⟨c, dct, dt, sl⟩, hl, hc, n, hd⟩ := hL
  replace hc : c = .type "tuple" := hc
  replace hd : dt = .seq items n := hd
  subst hc hd
  refine callType_new F.called_enumerate (by decide) (F.typeCall_enumerate_1 _) (F.newCall_enumerate_1 _) (fun obj => F.args_object_init_2 obj _) F.entry_enumerate_new
    (rv_enum_newT l items n dct sl) ⟨hl, ?_⟩
  have hz : (s.heap.push { cls := .type "tuple_iterator", data := .fields #[.ref l, .int 0 0] }).objs.size = s.heap.objs.size + 1 := Heap.size_push ..
  show _ ∧ _
  rw [hz]
  have he : IsEnum ((s.heap.push { cls := .type "tuple_iterator", data := .fields #[.ref l, .int 0 0] }).push
      { cls := .type "enumerate", data := .fields #[.none, .bool false, .ref s.heap.objs.size, rawInt 0, .none, .none] }) (s.heap.objs.size + 1) s.heap.objs.size 0 .none := by
    have := Heap.get?_push_size (s.heap.push { cls := .type "tuple_iterator", data := .fields #[.ref l, .int 0 0] })
      (o := { cls := .type "enumerate", data := .fields #[.none, .bool false, .ref s.heap.objs.size, rawInt 0, .none, .none] }) rfl
    rw [hz] at this
    exact this
  refine ⟨⟨_, he, rfl⟩, h _ he ⟨_, Heap.get?_push_of_some _ (Heap.get?_push_size _ rfl), rfl, rfl⟩ (by rw [Heap.size_push, hz]) fun b o x => Heap.get?_push_of_some _ (Heap.get?_push_of_some _ x)⟩
theorem rv_enum_endT {e it l : Addr} {i : Nat} {items : Array Value} {old : Value} {Q : Option Value → Shared → Prop} (hh : A.handled = none)
    (he : IsEnum s.heap e it i old) (hit : s.heap.IsTupleIter it l i) (hl : s.heap.IsTuple l items) (hx : items[i]? = none)
    (hQ : ∀ h', Heap.ExtBut it s.heap h' → Q none { s with heap := h' }) : wpAny (model prog w) A (pyNext (.ref e)) Q E s := by
  have hT : s.TypeIs (.ref e) "enumerate" := ⟨_, he, rfl⟩
  unfold pyNext
  refine wpAny_bind (wpAny_attempt (wpAny_callSpecial?_slot (name := Str.ofString "__next__") hT F.slot_enumerate_next
    (wpAny_call_entry F.slot_enumerate_next hT F.entry_enumerate_next ?_ (F.args_enumerate_next_1 _))))
  show wpAny _ _ (field (.ref e) 2 >>= _) _ _ _
  refine wpAny_bind (wpAny_field he rfl (x := .ref it) rfl ?_)
  refine wpAny_bind (wpAny_nextOf_tuple_end hh hit hl hx fun h' x he' hx' => ?_)
  obtain ⟨o, ho, hc⟩ := hx'
  refine wpAny_bind (wpAny_isInstance (T := "StopIteration") (b := true) ⟨o, ho, hc⟩ isSubtype_stop ?_)
  exact wpAny_pure (hQ _ he')
end
end PySem
namespace Rv
open PySem PySem.Spec PyProof.Rows L2
/-- the tuple at a, each item in a new pair -/
def IteT (K : PySem.W.Frag) (a : Addr) : It :=
  ⟨fun i H => ∃ (xs : List V) (x : V), SqT K H a xs ∧ xs[i]? = some x, fun i H v H' => ∃ T x, v = .ref T ∧ H T = none ∧ H' = upd H T (.tup [.int (i : Nat), x]) ∧ ∀ xs, SqT K H a xs → xs[i]? = some x, fun i H => ∃ xs : List V, SqT K H a xs ∧ xs.length ≤ i⟩
theorem turn_enumT {P : Program} {w : World} {K : PySem.W.Frag} {elts : List Expr} {kk : Nat} {tpos : Pos} (a e it : Addr) :
    Turn P w K (.Tuple elts kk tpos) (IteT K a) [e, it] e (fun i h => (∃ old, IsEnum h e it ((i : Nat) : Int) old) ∧ h.IsTupleIter it a i ∧ e ≠ it ∧ a ≠ it ∧ e ≠ a) where
  mem := by simp
  obj := fun i h st b hb => by
    obtain ⟨⟨old, he⟩, ⟨o, ho, hc, hd⟩, _⟩ := st
    have e' : b = e ∨ b = it := by simpa using hb
    rcases e' with z | z
    · rw [z]
      exact ⟨_, he, fun v q => nomatch q⟩
    · rw [z]
      exact ⟨o, ho, fun v q => by rw [hd] at q; cases q⟩
  keep := fun i h h' st k => let ⟨⟨old, he⟩, hi, hne⟩ := st; ⟨⟨old, k e (by simp) _ he⟩, hi.at fun o q => k it (by simp) o q, hne⟩
  item := by
    intro X hP hw hK hc i pins s σ H E I hf st hg
    subst hP hw hK
    obtain ⟨⟨old, he⟩, hit, hne, hai, hea⟩ := st
    obtain ⟨xs, x, hq, hx⟩ := hg
    obtain ⟨its, rv, p, hz⟩ := I.tuple hq
    obtain ⟨u, hu, ru⟩ := rv.get hx
    have hel : e < s.heap.objs.size := Heap.lt_size he
    have hil : it < s.heap.objs.size := by obtain ⟨_, q, _⟩ := hit; exact Heap.lt_size q
    have hil2 : i < its.toArray.size := by
      rw [List.size_toArray]
      exact (List.getElem?_eq_some_iff.mp hu).1
    refine wpAny_pyNext_enum_itemD (Draws.tuple (A := X.A.in1) (I.ok.hd hc) it a hai its.toArray) he ⟨hit, p⟩ hil2 hne (by simp [hne, hea]) fun u' h' tk hu' ho hst' hT hsz hk => ?_
    obtain ⟨hit', _⟩ := hst'
    have eu : u' = u := by
      have h1 : its[i]? = some u' := by simpa using hu'
      rw [hu] at h1
      exact (Option.some.inj h1).symm
    subst eu
    refine ⟨_, rfl, wpAny_letOwnedTupleGo_enum (s := { s with heap := h', toks := tk + 1 }) ho fun h'' he' sb => ?_⟩
    have hT2 : h''.get? s.heap.objs.size = some { cls := .type "tuple", data := .seq #[.int i tk, u'] } := (sb.2 _ (Nat.ne_of_gt hel)).trans hT
    have new : ObjOk X.prog X.w (upd H s.heap.objs.size (.tup [.int (i : Nat), x])) h'' s.heap.objs.size (.tup [.int (i : Nat), x]) :=
      ⟨by show 2 ≤ sizeLine; decide, [.int i tk, u'], .cons ⟨_, rfl⟩ (.cons ru .nil), ⟨_, hT2, rfl, _, rfl⟩⟩
    have I1 : Inv X pins σ (upd H s.heap.objs.size (.tup [.int (i : Nat), x])) { s with heap := h'', toks := tk + 1 } :=
      I.turnedNew (t' := tk + 1) (ch := [e, it]) (fun b ob hb q => (sb.2 b (fun z => hb (by simp [z]))).trans (hk b ob (fun z => hb (by simp [z])) (fun z => hb (by simp [z])) q)) hf (Nat.le_refl _) new
    refine ⟨.ref s.heap.objs.size, _, I1, rfl, ⟨_, x, rfl, I.hok.fresh (Nat.le_refl _), rfl, fun ys hy => by rw [I.tuple_inj hy hq]; exact hx⟩, ⟨⟨u', ?_⟩, hit'.at fun o q => (sb.2 it (Ne.symm hne)).trans q, hne, hai, hea⟩, fun b hb => ?_⟩
    · have e1 : ((i + 1 : Nat) : Int) = (i : Int) + 1 := by omega
      rw [e1]
      exact he'
    · have hb' : b < s.heap.objs.size := by
        have e' : b = e ∨ b = it := by simpa using hb
        rcases e' with z | z
        · rw [z]; exact hel
        · rw [z]; exact hil
      rw [upd_ne (Nat.ne_of_lt hb')]
      exact (hf b hb).1
  done := by
    intro X hP hw hK hc i pins s σ H E I hf st hg
    subst hP hw hK
    obtain ⟨⟨old, he⟩, hit, hne, hai, hea⟩ := st
    obtain ⟨xs, hq, hx⟩ := hg
    obtain ⟨its, rv, p, hz⟩ := I.tuple hq
    obtain ⟨f0, f1, f2, f3, f4, f5⟩ := hf it (by simp)
    have hl := rv.length
    exact rv_enum_endT (I.ok.hd hc) he hit (show s.heap.IsTuple a its.toArray from p) (by simp; omega) fun h' eb => ⟨rfl, I.turned (t' := s.toks) (fun b o hb q => eb b o hb q) f0 f1 f3 f4 f5⟩
  self := fun A i s Q E st h => let ⟨⟨_, he⟩, _⟩ := st; wpAny_pyIter_enum he h
/-- enumerate of a list or a tuple -/
def iEnumA (K : PySem.W.Frag) (ta : TA) : TI := fun σ H R => ta σ H fun vs H1 => ∃ a xs, vs = [.ref a] ∧ ((SqL K H1 a xs ∧ R (Ite K a) H1) ∨ (SqT K H1 a xs ∧ R (IteT K a) H1))
theorem pi_enumA {X : Cx} {e : Expr} {ta : TA} {p pos tpos : Pos} {elts : List Expr} {kk : Nat} (hg : Gl X "enumerate") (hm : X.mg "enumerate" = none) (ha : PA X [e] ta) (hs : starEach [e] X.env = [(false, eval e X.env)] := by rfl) :
    PI X (.Tuple elts kk tpos) (.Call (.Name "enumerate" p) [e] [] pos) (iEnumA X.K ta) := by
  refine ⟨fun pins s σ H R I h => ?_⟩
  refine Call_ (ld_blt I hg hm boot_enumerate (PyProof.Rows.callWith_type1 (thn (ha.run pos pins s σ H _ I h) fun us s1 ⟨vs, H1, I1, r1, q1⟩ => ?_) hs rfl))
  obtain ⟨a, xs, ex, hq⟩ := q1
  subst ex
  cases r1 with
  | cons r rr =>
    cases rr
    cases r
    rcases hq with ⟨hq, q⟩ | ⟨hq, q⟩
    · obtain ⟨its, rv, p', hz⟩ := I1.list hq
      refine call_enumerate_list p'.isList fun h' he hit hsz hk => wpAny_pyIter_enum he ?_
      have I2 : Inv X pins σ H1 { s1 with heap := h' } := I1.kept (t' := s1.toks) hk
      refine ⟨s1.heap.objs.size + 1, [s1.heap.objs.size + 1, s1.heap.objs.size], _, _, H1, rfl, I2, turn_enum a (s1.heap.objs.size + 1) s1.heap.objs.size, ⟨⟨.none, he⟩, hit, Nat.succ_ne_self _⟩, fun b hb => ?_, q⟩
      have e' : b = s1.heap.objs.size + 1 ∨ b = s1.heap.objs.size := by simpa using hb
      have hle : s1.heap.objs.size ≤ b := by
        rcases e' with z | z
        · rw [z]; exact Nat.le_add_right _ _
        · rw [z]; exact Nat.le_refl _
      exact I1.fpOk hle (I1.hok.fresh hle)
    · obtain ⟨its, rv, p', hz⟩ := I1.tuple hq
      have al : a < s1.heap.objs.size := by
        obtain ⟨_, q1, _⟩ := p'
        exact Heap.lt_size q1
      refine rv_call_enumT (show s1.heap.IsTuple a its.toArray from p') fun h' he hit hsz hk => wpAny_pyIter_enum he ?_
      have I2 : Inv X pins σ H1 { s1 with heap := h' } := I1.kept (t' := s1.toks) hk
      refine ⟨s1.heap.objs.size + 1, [s1.heap.objs.size + 1, s1.heap.objs.size], _, _, H1, rfl, I2, turn_enumT a (s1.heap.objs.size + 1) s1.heap.objs.size, ⟨⟨.none, he⟩, hit, Nat.succ_ne_self _, Nat.ne_of_lt al, Nat.ne_of_gt (Nat.lt_succ_of_lt al)⟩, fun b hb => ?_, q⟩
      have e' : b = s1.heap.objs.size + 1 ∨ b = s1.heap.objs.size := by simpa using hb
      have hle : s1.heap.objs.size ≤ b := by
        rcases e' with z | z
        · rw [z]; exact Nat.le_add_right _ _
        · rw [z]; exact Nat.le_refl _
      exact I1.fpOk hle (I1.hok.fresh hle)
section
variable {K : PySem.W.Frag} {σ : L2.St} {H : Hp} {Q : VK} {D : Ends} {tr : TA} {g : TG} {s1 : TS} {a : Addr} {xs : List V}
/-- for i, x in enumerate(a list or a tuple): each turn has a new pair -/
theorem w_forEA (ha : ∀ AQ : List V → Hp → Prop, AQ [.ref a] H → tr σ H AQ) (hx : SqL K H a xs ∨ SqT K H a xs) (Pv : Nat → L2.St → Hp → Prop) (h0 : Pv 0 σ H) (hl : ∀ i σ' H', Pv i σ' H' → (SqL K H a xs → SqL K H' a xs) ∧ (SqT K H a xs → SqT K H' a xs))
    (hs : ∀ i x T σ' H', xs[i]? = some x → Pv i σ' H' → H' T = none → g (.ref T) σ' (upd H' T (.tup [.int (i : Int), x])) fun σ2 H2 => s1 { D with nx := Pv (i + 1), ct := Pv (i + 1), bk := D.nx } σ2 H2)
    (hd : ∀ σ' H', Pv xs.length σ' H' → D.nx σ' H') : tFor (iEnumA K tr) g s1 D σ H := by
  rcases hx with hx | hx
  · refine ha _ ⟨a, xs, rfl, .inl ⟨hx, fun i m σ' H' => m = xs.length - i ∧ i ≤ xs.length ∧ Pv i σ' H', ⟨xs.length, by simp, Nat.zero_le _, h0⟩, ?_⟩⟩
    rintro i m σ' H' ⟨rfl, hi, q⟩
    have hq := (hl i σ' H' q).1 hx
    by_cases hlt : i < xs.length
    · refine .inr ⟨⟨xs, xs[i], hq, List.getElem?_eq_getElem hlt⟩, fun σ2 H2 => Pv (i + 1) σ2 H2, fun σ2 H2 q2 => ⟨xs.length - (i + 1), by omega, rfl, hlt, q2⟩, ?_⟩
      rintro x H2 ⟨T, z, rfl, nT, rfl, hz⟩
      exact hs i z T σ' H' (hz xs hq) q nT
    · have e : i = xs.length := by omega
      subst e
      exact .inl ⟨⟨xs, hq, Nat.le_refl _⟩, hd σ' H' q⟩
  · refine ha _ ⟨a, xs, rfl, .inr ⟨hx, fun i m σ' H' => m = xs.length - i ∧ i ≤ xs.length ∧ Pv i σ' H', ⟨xs.length, by simp, Nat.zero_le _, h0⟩, ?_⟩⟩
    rintro i m σ' H' ⟨rfl, hi, q⟩
    have hq := (hl i σ' H' q).2 hx
    by_cases hlt : i < xs.length
    · refine .inr ⟨⟨xs, xs[i], hq, List.getElem?_eq_getElem hlt⟩, fun σ2 H2 => Pv (i + 1) σ2 H2, fun σ2 H2 q2 => ⟨xs.length - (i + 1), by omega, rfl, hlt, q2⟩, ?_⟩
      rintro x H2 ⟨T, z, rfl, nT, rfl, hz⟩
      exact hs i z T σ' H' (hz xs hq) q nT
    · have e : i = xs.length := by omega
      subst e
      exact .inl ⟨⟨xs, hq, Nat.le_refl _⟩, hd σ' H' q⟩
end
end Rv
namespace Rv
open PySem PySem.Spec PyProof.Rows L2
theorem draw_call {K : PySem.W.Frag} {H : Hp} {Q : VK} {E : XK} {d c : Addr} {many : Int} (h : DrawsAt H d c) (h1 : 0 < many) (h2 : many < 2 ^ 200) (k : ∀ r H', 0 ≤ r → r < many → But d H H' → DrawsAt H' d c → Q (.int r) H') :
    spDraw K ([.ref d, .int many] ++ []) H Q E := ⟨d, c, many, rfl, h, h1, h2, k⟩
/-- a height, a width of the law -/
def HOk1 (z : Int) : Prop := -1000000000000000000000000000000 ≤ z ∧ z ≤ 1000000000000000000000000000000
def WOk1 (z : Int) : Prop := 1 ≤ z ∧ z ≤ 1000000000000000000000000000000
def spHeights (K : PySem.W.Frag) : Sp := fun vs H Q _ => ∃ d c, vs = [.ref d] ∧ DrawsAt H d c ∧
  ∀ p H' (hs : List Int), 1 ≤ hs.length → hs.length ≤ 60 → (∀ z ∈ hs, HOk1 z) → But d H H' → DrawsAt H' d c → H p = none → H' p = some (.lst (hs.map V.int)) → Q (.ref p) H'
def spWidths (K : PySem.W.Frag) : Sp := fun vs H Q _ => ∃ d c, ∃ n : Nat, vs = [.ref d, .int (n : Int)] ∧ n ≤ 60 ∧ DrawsAt H d c ∧
  ∀ p H' (ws : List Int), ws.length = n → (∀ z ∈ ws, WOk1 z) → But d H H' → DrawsAt H' d c → H p = none → H' p = some (.lst (ws.map V.int)) → Q (.ref p) H'
theorem map_app (l : List Int) (z : Int) : l.map V.int ++ [V.int z] = (l ++ [z]).map V.int := by rw [List.map_append]; rfl
/-! values: is it an integer -/
inductive Whole (K : PySem.W.Frag) (H : Hp) : V → Prop where
  | int (i : Int) : Whole K H (.int i)
  | bl (b : Bool) : Whole K H (.bl b)
  | other {v : V} {t : Value} (h : TyX K H v t) (k : PySem.W.kitOne K t (.type "int") = some false) (n1 : ∀ i, v ≠ .int i) : Whole K H v
def isI : V → Bool
  | .int _ => true
  | _ => false
def inI (lo hi : Int) : V → Bool
  | .int i => decide (lo ≤ i) && decide (i ≤ hi)
  | _ => false
def spWhole (K : PySem.W.Frag) : Sp := fun vs H Q _ => ∃ v, vs = [v] ∧ Whole K H v ∧ Q (.bl (isI v)) H
def spWithin (K : PySem.W.Frag) : Sp := fun vs H Q _ => ∃ v lo hi, vs = [v, .int lo, .int hi] ∧ Whole K H v ∧ Q (.bl (inI lo hi v)) H
/-- the first place whose value is not within, if any, from place n on -/
def outs (lo hi : Int) : List V → Nat → V
  | [], _ => .non
  | v :: r, n => if inI lo hi v = true then outs lo hi r (n + 1) else .int (n : Int)
def spOutside (K : PySem.W.Frag) : Sp := fun vs H Q _ => ∃ a lo hi xs, vs = [.ref a, .int lo, .int hi] ∧ (SqL K H a xs ∨ SqT K H a xs) ∧ (∀ x ∈ xs, Whole K H x) ∧ ∀ H', Same H H' → Q (outs lo hi xs 0) H'
theorem outs_none {lo hi : Int} : ∀ {xs : List V} {n : Nat}, (∀ x ∈ xs, inI lo hi x = true) → outs lo hi xs n = .non
  | [], _, _ => rfl
  | x :: r, n, h => by
    unfold outs
    rw [if_pos (h x List.mem_cons_self)]
    exact outs_none fun y hy => h y (List.mem_cons_of_mem _ hy)
theorem isi_of {K : PySem.W.Frag} {H : Hp} {Q : VK} {x c : V} {t u : Value} {b : Bool} (h1 : ClsV c u) (h2 : TyX K H x t) (h3 : PySem.W.kitOne K t u = some b) (q : Q (.bl b) H) : rIsi K [x, c] H Q := ⟨x, c, t, u, b, rfl, h1, h2, h3, q⟩
theorem kit_ii {K : PySem.W.Frag} : PySem.W.kitOne K (.type "int") (.type "int") = some true := kit_ty (by decide +kernel)
theorem kit_ib {K : PySem.W.Frag} : PySem.W.kitOne K (.type "int") (.type "bool") = some false := kit_ty (by decide +kernel)
theorem kit_bi {K : PySem.W.Frag} : PySem.W.kitOne K (.type "bool") (.type "int") = some true := kit_ty (by decide +kernel)
theorem kit_bb {K : PySem.W.Frag} : PySem.W.kitOne K (.type "bool") (.type "bool") = some true := kit_ty (by decide +kernel)
theorem kit_ll {K : PySem.W.Frag} : PySem.W.kitOne K (.type "list") (.type "list") = some true := kit_ty (by decide +kernel)
theorem kit_tl {K : PySem.W.Frag} : PySem.W.kitOne K (.type "tuple") (.type "list") = some false := kit_ty (by decide +kernel)
theorem kit_tt {K : PySem.W.Frag} : PySem.W.kitOne K (.type "tuple") (.type "tuple") = some true := kit_ty (by decide +kernel)
/-- a row that is a list or a tuple -/
def RowAt (K : PySem.W.Frag) (H : Hp) (a : Addr) (xs : List V) : Prop := H a = some (.lst xs) ∨ H a = some (.tup xs)
theorem RowAt.same {K : PySem.W.Frag} {H H' : Hp} {a : Addr} {xs : List V} (h : RowAt K H a xs) (e : Same H H') : RowAt K H' a xs := h.elim (fun h => .inl (e _ _ h)) fun h => .inr (e _ _ h)
def spRow (K : PySem.W.Frag) : Sp := fun vs H Q _ => ∃ a lo hi xs, vs = [.ref a, .int lo, .int hi] ∧ RowAt K H a xs ∧ ∀ H', Same H H' → Q (.bl (decide (lo ≤ (xs.length : Int)) && decide ((xs.length : Int) ≤ hi))) H'
/-- heights, widths that are valid -/
def spCheckH (K : PySem.W.Frag) : Sp := fun vs H Q _ => ∃ a, ∃ hs : List Int, vs = [.ref a] ∧ RowAt K H a (hs.map V.int) ∧ 1 ≤ hs.length ∧ hs.length ≤ 60 ∧ (∀ z ∈ hs, HOk1 z) ∧ ∀ H', Same H H' → Q .non H'
def spCheckW (K : PySem.W.Frag) : Sp := fun vs H Q _ => ∃ a, ∃ ws : List Int, vs = [.ref a, .int (ws.length : Int)] ∧ RowAt K H a (ws.map V.int) ∧ (∀ z ∈ ws, WOk1 z) ∧ ∀ H', Same H H' → Q .non H'
def pfl (t1 t2 : Addr) : List (Str × V) := putF "column_widths" (.ref t2) (putF "column_heights" (.ref t1) [])
theorem n_hw : ¬ (("column_heights" : Str) = "column_widths") := by decide +kernel
theorem pfl_h (t1 t2 : Addr) : (pfl t1 t2).lookup ("column_heights" : Str) = some (.ref t1) := by
  unfold pfl
  rw [lookup_putF, if_neg n_hw, lookup_putF, if_pos rfl]
theorem pfl_w (t1 t2 : Addr) : (pfl t1 t2).lookup ("column_widths" : Str) = some (.ref t2) := by
  unfold pfl
  rw [lookup_putF, if_pos rfl]
/-- a Profile stands at p -/
def ProfAt (K : PySem.W.Frag) (C : Addr) (H : Hp) (p : Addr) (hs ws : List Int) : Prop := ∃ dx t1 t2, H p = some (.ins C dx (pfl t1 t2)) ∧ H t1 = some (.tup (hs.map V.int)) ∧ H t2 = some (.tup (ws.map V.int))
theorem ProfAt.same {K : PySem.W.Frag} {C : Addr} {H H' : Hp} {p : Addr} {hs ws : List Int} (h : ProfAt K C H p hs ws) (e : Same H H') : ProfAt K C H' p hs ws := by
  obtain ⟨dx, t1, t2, h1, h2, h3⟩ := h
  exact ⟨dx, t1, t2, e _ _ h1, e _ _ h2, e _ _ h3⟩
/-- what is told of the class as the top has made it -/
structure PCls (K : PySem.W.Frag) (C : Addr) : Prop where
  cl : Cls K C
  nH : NoAttr K C "column_heights"
  nW : NoAttr K C "column_widths"
  cA : PySem.W.findIn K (.ref C) "__class__" = some (some (.builtin "object.__class__"))
  cG : PySem.W.specialIn K (.builtin "object.__class__") "__get__" = some (some (.builtin "getset_descriptor.__get__"))
  cT : PySem.W.takesIn K (.builtin "object.__class__") = some true
  cM : PySem.W.mroIn K C (.type "object") = some true
def spInit (K : PySem.W.Frag) (C : Addr) : Sp := fun vs H Q _ => ∃ p dx a, ∃ wv : V, ∃ hs ws : List Int, vs = [.ref p, .ref a, wv] ∧ PCls K C ∧ H p = some (.ins C dx []) ∧ RowAt K H a (hs.map V.int) ∧ 1 ≤ hs.length ∧ hs.length ≤ 60 ∧ (∀ z ∈ hs, HOk1 z) ∧
  ((wv = .non ∧ ws = List.replicate hs.length 1) ∨ ∃ b, wv = .ref b ∧ RowAt K H b (ws.map V.int) ∧ ws.length = hs.length ∧ ∀ z ∈ ws, WOk1 z) ∧ ∀ H', ProfAt K C H' p hs ws → (∀ b o, b ≠ p → H b = some o → H' b = some o) → Q .non H'
/-- two profiles that are equal, of the class at C -/
def PEq (K : PySem.W.Frag) (C : Addr) : Addr → Addr → Hp → Prop := fun a b H => PCls K C ∧ ∃ hs ws, ProfAt K C H a hs ws ∧ ProfAt K C H b hs ws
def t__law_heights (K : PySem.W.Frag) : TS :=
  (tSeq (tAsg (tOp oAdd (tC (.int 1)) (tCall (spDraw K) [] E0 (tCons (tVar 0) (tCons (tOp (rIxL K) (tLst (tCons (tC (.int 9)) (tCons (tC (.int 60)) tNil))) (tCB cInt (tCons (tOp rEq (tCall (spDraw K) [] E0 (tCons (tVar 0) (tCons (tC (.int 4)) tNil))) (tC (.int 3))) tNil))) tNil)))) (gName 1))
    (tSeq (tAsg (tOp (rIxL K) (tLst (tCons (tC (.int 2)) (tCons (tC (.int 7)) (tCons (tOp oPow (tC (.int 10)) (tC (.int 6))) (tCons (tOp oPow (tC (.int 10)) (tC (.int 30))) tNil))))) (tCall (spDraw K) [] E0 (tCons (tVar 0) (tCons (tC (.int 4)) tNil)))) (gName 2))
    (tRet (tLc (iRng1 (tCons (tVar 1) tNil)) (gName 3) tYes (tOp oSub (tCall (spDraw K) [] E0 (tCons (tVar 0) (tCons (tOp oAdd (tOp oMul (tC (.int 2)) (tVar 2)) (tC (.int 1))) tNil))) (tVar 2)) [3]))))
def t__law_widths (K : PySem.W.Frag) : TS :=
  (tSeq (tAsg (tOp (rIxL K) (tLst (tCons (tC (.int 1)) (tCons (tC (.int 3)) (tCons (tOp oPow (tC (.int 10)) (tC (.int 30))) tNil)))) (tCall (spDraw K) [] E0 (tCons (tVar 0) (tCons (tC (.int 3)) tNil)))) (gName 2))
    (tRet (tLc (iRng1 (tCons (tVar 1) tNil)) (gName 3) tYes (tOp oAdd (tC (.int 1)) (tCall (spDraw K) [] E0 (tCons (tVar 0) (tCons (tVar 2) tNil)))) [3])))
def t_is_whole (K : PySem.W.Frag) : TS :=
  (tRet (tAndV (tCB (rIsi K) (tCons (tVar 0) (tCons (tC (.ty "int")) tNil))) (tNotV (tCB (rIsi K) (tCons (tVar 0) (tCons (tC (.ty "bool")) tNil))))))
def t_is_whole_within (K : PySem.W.Frag) : TS :=
  (tRet (tAndV (tCall (spWhole K) [] E0 (tCons (tVar 0) tNil)) (tChain oLe oLe (tVar 1) (tVar 0) (tVar 2))))
def t_first_outside (K : PySem.W.Frag) : TS :=
  (tSeq (tFor (iEnumA K (tCons (tVar 0) tNil)) (gTup K 2 (gCons (gName 3) (gCons (gName 4) gNil))) (tIfS (tNot (tB (tCall (spWithin K) [] E0 (tCons (tVar 4) (tCons (tVar 1) (tCons (tVar 2) tNil)))))) (tRet (tVar 3)) tNext))
    (tRet (tC .non)))
def t_is_row (K : PySem.W.Frag) : TS :=
  (tRet (tAndV (tCB (rIsiT K) (tCons (tVar 0) (tCons (tTup (tCons (tC (.ty "list")) (tCons (tC (.ty "tuple")) tNil))) tNil))) (tChain oLe oLe (tVar 1) (tCB (cLen K) (tCons (tVar 0) tNil)) (tVar 2))))
def t_check_heights (K : PySem.W.Frag) : TS :=
  (tSeq (tIfS (tNot (tB (tCall (spRow K) [] E0 (tCons (tVar 0) (tCons (tC (.int 1)) (tCons (tC (.int 60)) tNil)))))) tNever tNext)
    (tSeq (tAsg (tCall (spOutside K) [] E0 (tCons (tVar 0) (tCons (tUn (rU fun i => .int (-i)) (tC (.int 1000000000000000000000000000000))) (tCons (tC (.int 1000000000000000000000000000000)) tNil)))) (gName 1))
    (tIfS (tTest (tOp oNotN (tVar 1) (tC .non))) tNever tNext)))
def t_check_widths (K : PySem.W.Frag) : TS :=
  (tSeq (tIfS (tNot (tB (tCall (spRow K) [] E0 (tCons (tVar 0) (tCons (tVar 1) (tCons (tVar 1) tNil)))))) tNever tNext)
    (tSeq (tAsg (tCall (spOutside K) [] E0 (tCons (tVar 0) (tCons (tC (.int 1)) (tCons (tC (.int 1000000000000000000000000000000)) tNil)))) (gName 2))
    (tIfS (tTest (tOp oNotN (tVar 2) (tC .non))) tNever tNext)))
def t_Profile___init__ (K : PySem.W.Frag) (C_Profile : Addr) : TS :=
  (tSeq (tDrop (tCall (spCheckH K) [] E0 (tCons (tVar 1) tNil)))
    (tSeq (tIfS (tTest (tOp oIsN (tVar 2) (tC .non))) (tAsg (tOp rRep (tLst (tCons (tC (.int 1)) tNil)) (tCB (cLen K) (tCons (tVar 1) tNil))) (gName 2)) tNext)
    (tSeq (tDrop (tCall (spCheckW K) [] E0 (tCons (tVar 2) (tCons (tCB (cLen K) (tCons (tVar 1) tNil)) tNil))))
    (tSeq (sFld K (tVar 0) (tCB (cTuple K) (tCons (tVar 1) tNil)) "column_heights")
    (sFld K (tVar 0) (tCB (cTuple K) (tCons (tVar 2) tNil)) "column_widths")))))
def t_Profile___eq__ (K : PySem.W.Frag) (C_Profile : Addr) : TS :=
  (tRet (tAndV (tCB (rIsi K) (tCons (tVar 1) (tCons (tC (.ref C_Profile)) tNil))) (tAndV (tOp (rEqD K) (tFld K (tVar 0) "column_heights") (tFld K (tVar 1) "column_heights")) (tOp (rEqD K) (tFld K (tVar 0) "column_widths") (tFld K (tVar 1) "column_widths")))))
local macro_rules | `(tactic| walk_at "rv st") => `(tactic| first
  | with_reducible refine iteT ?_ | with_reducible refine iteF ?_ | with_reducible refine w_nx ?_ | with_reducible refine w_yes ?_ | with_reducible refine w_rt ?_ | with_reducible refine iteNT ?_ | with_reducible refine iteNF ?_ | with_reducible refine iteNRf ?_ | with_reducible refine iteRf ?_ | with_reducible refine w_seqA ?_ | with_reducible refine w_seqD ?_ | with_reducible refine w_seqP ?_ | with_reducible refine w_asg ?_ | with_reducible refine w_ret ?_ | with_reducible refine w_drop ?_ | with_reducible refine w_ifs ?_ | with_reducible refine w_next ?_ | with_reducible refine w_par ?_
  | with_reducible refine w_op ?_ | with_reducible refine w_un ?_ | ((with_reducible show tVar _ _ _ _); refine' w_var ?hv ?_; (case hv => exact rfl)) | with_reducible refine w_c ?_ | with_reducible refine w_test ?_ | with_reducible refine w_tB ?_
  | with_reducible refine w_bl ?_ | with_reducible refine w_I0 ?_ | with_reducible refine w_U ?_ | with_reducible refine w_eqI ?_ | with_reducible refine w_neI ?_
  | with_reducible refine w_cons ?_ | with_reducible refine w_nil ?_ | with_reducible refine w_gn ?_ | with_reducible refine w_gsub ?_ | with_reducible refine w_and ?_ | with_reducible refine w_or ?_ | with_reducible refine w_not ?_
  | with_reducible refine w_andV ?_ | with_reducible refine w_orV ?_ | with_reducible refine w_notV ?_ | with_reducible refine w_if ?_ | with_reducible refine w_cb ?_ | with_reducible refine w_call ?_ | with_reducible refine w_lst ?_ | with_reducible refine w_tup ?_
  | with_reducible refine w_sl ?_ | with_reducible refine w_noPart ?_ | with_reducible refine w_part ?_ | with_reducible refine w_ex1 ?_ | with_reducible refine w_exb ?_ | with_reducible refine w_intB ?_ | with_reducible refine w_intI ?_ | with_reducible refine w_abs ?_)
local macro_rules | `(tactic| walk_at "rv ix") => `(tactic| ((with_reducible show rIxL _ _ _ _ _); refine' w_ixL (sq_lst ?ha) ?hb ?_; (case ha => first | exact upd_same | assumption); (case hb => first | exact rfl | assumption)))
local macro_rules | `(tactic| walk_at "rv ar") => `(tactic| first
  | (refine' w_I ?hc ?_; (case hc => first | (show (0 : Int) < _; first | assumption | decide | omega) | exact pow_c (by decide) (by decide) (by first | decide | omega) (by first | decide | omega) | exact mul_r (by first | decide | omega) (by first | decide | omega) | exact mul_l (by first | decide | omega) (by first | decide | omega) | exact divw (by first | assumption | decide | omega) (by first | assumption | decide | omega))))
local macro_rules | `(tactic| walk_at "rv go") => `(tactic| repeat first | walk_at "rv st" | walk_at "rv ix" | ((with_reducible show rI _ _ _ _ _ _); walk_at "rv ar"))
theorem p_heights {K : PySem.W.Frag} {vs : List V} {H : Hp} {Q : VK} {E : XK} (h : spHeights K vs H Q E) : t__law_heights K { nx := fun _ H' => Q .non H', rt := Q } (start ["_law_draws_here", "_law_many", "_law_size", "_law_k"] vs) H := by
  obtain ⟨d, c, rfl, hD, k⟩ := h
  unfold t__law_heights
  walk_at "rv go"
  refine ⟨szl (by decide), fun p1 n1 => ?_⟩
  have n1d : p1 ≠ d := hD.nd n1
  walk_at "rv go"
  have b1 : But d H (upd H p1 (.lst [.int 9, .int 60])) := (But.refl d H).new n1
  refine draw_call (hD.new (same_new (Same.refl H) n1)) (by decide) (by decide) fun r1 H1 r1a r1b e1 D1 => ?_
  walk_at "rv go"
  have l1 : H1 p1 = some (.lst [.int 9, .int 60]) := e1 _ _ n1d upd_same
  have hm : ∃ m : Int, 0 < m ∧ m ≤ 60 ∧ atI [V.int 9, V.int 60] (if decide (r1 = 3) then 1 else 0) = some (.int m) := by
    by_cases z : r1 = 3
    · rw [decide_eq_true z]
      exact ⟨60, by decide, by decide, rfl⟩
    · rw [decide_eq_false z]
      exact ⟨9, by decide, by decide, rfl⟩
  obtain ⟨m, m0, m60, em⟩ := hm
  refine w_ixL (sq_lst l1) em ?_
  walk_at "rv go"
  refine draw_call D1 m0 (Int.lt_of_le_of_lt m60 (by decide)) fun r2 H2 r2a r2b e2 D2 => ?_
  walk_at "rv go"
  refine ⟨szl (by decide), fun p2 n2 => ?_⟩
  walk_at "rv go"
  have n2d : p2 ≠ d := D2.nd n2
  refine draw_call (D2.new (same_new (Same.refl H2) n2)) (by decide) (by decide) fun r3 H3 r3a r3b e3 D3 => ?_
  have l3 : H3 p2 = some (.lst [.int 2, .int 7, .int (10 ^ Int.toNat 6), .int (10 ^ Int.toNat 30)]) := e3 _ _ n2d upd_same
  have hz : ∃ z : Int, 0 < z ∧ z ≤ 1000000000000000000000000000000 ∧ atI [V.int 2, V.int 7, V.int (10 ^ Int.toNat 6), V.int (10 ^ Int.toNat 30)] r3 = some (.int z) := by
    have c : r3 = 0 ∨ r3 = 1 ∨ r3 = 2 ∨ r3 = 3 := by omega
    rcases c with rfl | rfl | rfl | rfl
    · exact ⟨2, by decide, by decide, rfl⟩
    · exact ⟨7, by decide, by decide, rfl⟩
    · exact ⟨10 ^ Int.toNat 6, by decide, by decide, rfl⟩
    · exact ⟨10 ^ Int.toNat 30, by decide, by decide, rfl⟩
  obtain ⟨z, z0, z1, ez⟩ := hz
  refine w_ixL (sq_lst l3) ez ?_
  walk_at "rv go"
  have eN : (((1 + r2).toNat : Nat) : Int) = 1 + r2 := Int.toNat_of_nonneg (by omega)
  have b3 : But d H H3 := ((b1.trans e1).trans e2).trans (((But.refl d H2).new n2).trans e3)
  refine w_lcR (n := (1 + r2).toNat) (by omega) (fun AQ q => ?_) (fun D acc H' => ∃ hs : List Int, acc = hs.map V.int ∧ (∀ z ∈ hs, HOk1 z) ∧ But d H H' ∧ DrawsAt H' d c ∧ H' D = some (.lst acc) ∧ D ≠ d ∧ D ≠ c ∧ H D = none) (fun D nD => ?_) ?_ ?_
  · rw [eN] at q
    walk_at "rv go"
    exact q
  · exact ⟨[], rfl, (fun _ h => nomatch h), b3.new nD, D3.new (same_new (Same.refl H3) nD), upd_same, D3.nd nD, D3.nc nD, b3.free (D3.nd nD) nD⟩
  · rintro D acc H' hl ⟨hs, rfl, hok, b, DD, hD', nDd, nDc, nD⟩
    walk_at "rv go"
    refine draw_call DD (by omega) (Int.lt_of_le_of_lt (b := 2000000000000000000000000000001) (by omega) (by decide)) fun r H4 ra rb e4 D4 => ?_
    walk_at "rv go"
    have b4 := b.trans e4
    refine w_app (J := fun D acc H' => ∃ hs : List Int, acc = hs.map V.int ∧ (∀ z ∈ hs, HOk1 z) ∧ But d H H' ∧ DrawsAt H' d c ∧ H' D = some (.lst acc) ∧ D ≠ d ∧ D ≠ c ∧ H D = none) (e4 _ _ nDd hD') (by rw [List.length_map] at hl ⊢; omega) ⟨hs ++ [r - z], (by rw [map_app]), ?_, ?_, D4.wr nDd nDc, upd_same, nDd, nDc, nD⟩
    · intro y hy
      rcases List.mem_append.mp hy with h | h
      · exact hok y h
      · rw [List.mem_singleton.mp h]
        exact ⟨by omega, by omega⟩
    · exact fun c o nc h => by
        have q := b4 c o nc h
        rw [upd_ne (ne_of_none h nD)]
        exact q
  · rintro D acc H' hl ⟨hs, rfl, hok, b, DD, hD', nDd, nDc, nD⟩
    rw [List.length_map] at hl
    exact k D H' hs (by omega) (by omega) hok b DD nD hD'
theorem p_widths {K : PySem.W.Frag} {vs : List V} {H : Hp} {Q : VK} {E : XK} (h : spWidths K vs H Q E) : t__law_widths K { nx := fun _ H' => Q .non H', rt := Q } (start ["_law_draws_here", "_law_many", "_law_size", "_law_k"] vs) H := by
  obtain ⟨d, c, n, rfl, hn, hD, k⟩ := h
  unfold t__law_widths
  walk_at "rv go"
  refine ⟨szl (by decide), fun p1 n1 => ?_⟩
  have n1d : p1 ≠ d := hD.nd n1
  walk_at "rv go"
  refine draw_call (hD.new (same_new (Same.refl H) n1)) (by decide) (by decide) fun r1 H1 r1a r1b e1 D1 => ?_
  walk_at "rv go"
  have b1 : But d H H1 := But.trans ((But.refl d H).new n1) e1
  have l1 : H1 p1 = some (.lst [.int 1, .int 3, .int (10 ^ Int.toNat 30)]) := e1 _ _ n1d upd_same
  have hz : ∃ z : Int, 0 < z ∧ z ≤ 1000000000000000000000000000000 ∧ atI [V.int 1, V.int 3, V.int (10 ^ Int.toNat 30)] r1 = some (.int z) := by
    have c : r1 = 0 ∨ r1 = 1 ∨ r1 = 2 := by omega
    rcases c with rfl | rfl | rfl
    · exact ⟨1, by decide, by decide, rfl⟩
    · exact ⟨3, by decide, by decide, rfl⟩
    · exact ⟨10 ^ Int.toNat 30, by decide, by decide, rfl⟩
  obtain ⟨z, z0, z1, ez⟩ := hz
  refine w_ixL (sq_lst l1) ez ?_
  walk_at "rv go"
  refine w_lcR (n := n) (by omega) (fun AQ q => ?_) (fun D acc H' => ∃ hs : List Int, acc = hs.map V.int ∧ (∀ z ∈ hs, WOk1 z) ∧ But d H H' ∧ DrawsAt H' d c ∧ H' D = some (.lst acc) ∧ D ≠ d ∧ D ≠ c ∧ H D = none) (fun D nD => ?_) ?_ ?_
  · walk_at "rv go"
    exact q
  · exact ⟨[], rfl, (fun _ h => nomatch h), b1.new nD, D1.new (same_new (Same.refl H1) nD), upd_same, D1.nd nD, D1.nc nD, b1.free (D1.nd nD) nD⟩
  · rintro D acc H' hl ⟨hs, rfl, hok, b, DD, hD', nDd, nDc, nD⟩
    walk_at "rv go"
    refine draw_call DD (by omega) (Int.lt_of_le_of_lt (b := 2000000000000000000000000000001) (by omega) (by decide)) fun r H4 ra rb e4 D4 => ?_
    walk_at "rv go"
    have b4 := b.trans e4
    refine w_app (J := fun D acc H' => ∃ hs : List Int, acc = hs.map V.int ∧ (∀ z ∈ hs, WOk1 z) ∧ But d H H' ∧ DrawsAt H' d c ∧ H' D = some (.lst acc) ∧ D ≠ d ∧ D ≠ c ∧ H D = none) (e4 _ _ nDd hD') (by rw [List.length_map] at hl ⊢; omega) ⟨hs ++ [1 + r], (by rw [map_app]), ?_, ?_, D4.wr nDd nDc, upd_same, nDd, nDc, nD⟩
    · intro y hy
      rcases List.mem_append.mp hy with h | h
      · exact hok y h
      · rw [List.mem_singleton.mp h]
        exact ⟨by omega, by omega⟩
    · exact fun c o nc h => by
        have q := b4 c o nc h
        rw [upd_ne (ne_of_none h nD)]
        exact q
  · rintro D acc H' hl ⟨hs, rfl, hok, b, DD, hD', nDd, nDc, nD⟩
    rw [List.length_map] at hl
    exact k D H' hs hl hok b DD nD hD'
theorem ty_same {K : PySem.W.Frag} {H H' : Hp} {v : V} {t : Value} (h : TyX K H v t) (e : Same H H') : TyX K H' v t := by
  cases h with
  | base h =>
    cases h with
    | non => exact .base .non
    | bl x => exact .base (.bl x)
    | int i => exact .base (.int i)
    | str x => exact .base (.str x)
    | flt x => exact .base (.flt x)
    | lst h => exact .base (.lst (e _ _ h))
    | frz h => exact .base (.frz (e _ _ h))
    | tup h => exact .base (.tup (e _ _ h))
    | dK h => exact .base (.dK (e _ _ h))
    | dT h => exact .base (.dT (e _ _ h))
    | ins h cl ha hn htk hm => exact .base (.ins (e _ _ h) cl ha hn htk hm)
  | byt b => exact .byt b
  | set h => exact .set (e _ _ h)
  | kList h c => exact .kList h c
  | kTuple h c => exact .kTuple h c
  | kDict h c => exact .kDict h c
  | fTuple h => exact .fTuple (e _ _ h)
  | fDict h => exact .fDict (e _ _ h)
theorem Whole.same {K : PySem.W.Frag} {H H' : Hp} {v : V} (h : Whole K H v) (e : Same H H') : Whole K H' v := by
  cases h with
  | int i => exact .int i
  | bl b => exact .bl b
  | other h k n => exact .other (ty_same h e) k n
theorem whole_int {K : PySem.W.Frag} {H : Hp} {v : V} (h : Whole K H v) : ∃ t, TyX K H v t ∧ PySem.W.kitOne K t (.type "int") = some (isI v || match v with | .bl _ => true | _ => false) := by
  cases h with
  | int i => exact ⟨_, .base (.int i), kit_ii⟩
  | bl b => exact ⟨_, .base (.bl b), kit_bi⟩
  | other h k n1 =>
    refine ⟨_, h, ?_⟩
    rw [k]
    cases v with
    | int i => exact absurd rfl (n1 i)
    | bl b =>
      cases h with
      | base hb =>
        cases hb
        rw [kit_bi] at k
        cases k
    | _ => rfl
theorem p_whole {K : PySem.W.Frag} {vs : List V} {H : Hp} {Q : VK} {E : XK} (h : spWhole K vs H Q E) : t_is_whole K { nx := fun _ H' => Q .non H', rt := Q } (start ["value"] vs) H := by
  obtain ⟨v, rfl, hw, k⟩ := h
  unfold t_is_whole
  obtain ⟨t, h1, h2⟩ := whole_int hw
  walk_at "rv go"
  refine isi_of (.ty "int") h1 h2 ?_
  walk_at "rv go"
  cases v with
  | int i =>
    refine iteT ?_
    walk_at "rv go"
    refine isi_of (.ty "bool") (.base (.int i)) kit_ib ?_
    walk_at "rv go"
    exact k
  | bl b =>
    refine iteT ?_
    walk_at "rv go"
    refine isi_of (.ty "bool") (.base (.bl b)) kit_bb ?_
    walk_at "rv go"
    exact k
  | _ => exact k
theorem p_within {K : PySem.W.Frag} {vs : List V} {H : Hp} {Q : VK} {E : XK} (h : spWithin K vs H Q E) : t_is_whole_within K { nx := fun _ H' => Q .non H', rt := Q } (start ["value", "least", "greatest"] vs) H := by
  obtain ⟨v, lo, hi, rfl, hw, k⟩ := h
  unfold t_is_whole_within
  walk_at "rv go"
  refine ⟨v, rfl, hw, ?_⟩
  walk_at "rv go"
  cases v with
  | int i =>
    refine iteT ?_
    refine w_chain ?_
    walk_at "rv go"
    refine w_both (fun h => ?_) (fun h => ?_)
    · walk_at "rv go"
      have e : inI lo hi (.int i) = decide (i ≤ hi) := by
        show (decide (lo ≤ i) && decide (i ≤ hi)) = _
        rw [decide_eq_true h, Bool.true_and]
      rw [e] at k
      exact k
    · have e : inI lo hi (.int i) = false := by
        show (decide (lo ≤ i) && decide (i ≤ hi)) = _
        rw [decide_eq_false h, Bool.false_and]
      rw [e] at k
      exact k
  | _ => exact k
theorem sqT_same0 {K : PySem.W.Frag} {H H' : Hp} {a : Addr} {xs : List V} (h : SqT K H a xs) (e : Same H H') : SqT K H' a xs := by
  rcases h with (h | ⟨o, h⟩) | h
  · exact .inl (.inl (e _ _ h))
  · exact .inl (.inr ⟨o, e _ _ h⟩)
  · exact .inr h
theorem p_outside {K : PySem.W.Frag} {vs : List V} {H : Hp} {Q : VK} {E : XK} (h : spOutside K vs H Q E) : t_first_outside K { nx := fun _ H' => Q .non H', rt := Q } (start ["values", "least", "greatest", "index", "value"] vs) H := by
  obtain ⟨a, lo, hi, xs, rfl, hS, hw, k⟩ := h
  unfold t_first_outside
  refine w_seq ?_
  refine w_forEA (fun AQ q => ?_) hS (fun i σ' H' => ∃ u v : Option V, σ' = [some (.ref a), some (.int lo), some (.int hi), u, v] ∧ Same H H' ∧ outs lo hi xs 0 = outs lo hi (xs.drop i) i) ⟨none, none, rfl, Same.refl H, by rw [List.drop_zero]⟩ (fun i σ' H' ⟨_, _, _, e, _⟩ => ⟨fun z => e.seq z, fun z => sqT_same0 z e⟩) ?_ ?_
  · walk_at "rv go"
    exact q
  · rintro i x T σ' H' hx ⟨u, v, rfl, e, ho⟩ nT
    refine ⟨T, _, rfl, sq_tup upd_same, rfl, _, _, rfl, ?_⟩
    refine ⟨_, _, rfl, rfl, ?_⟩
    have e2 : Same H (upd H' T (.tup [.int (i : Int), x])) := same_new e nT
    have hil : i < xs.length := (List.getElem?_eq_some_iff.mp hx).1
    have hxe : xs[i] = x := (List.getElem?_eq_some_iff.mp hx).2
    have ed : xs.drop i = x :: xs.drop (i + 1) := by rw [List.drop_eq_getElem_cons hil, hxe]
    refine w_ifs ?_
    walk_at "rv go"
    refine ⟨x, lo, hi, rfl, ?_, ?_⟩
    · exact (hw x (List.mem_of_getElem? hx)).same e2
    · walk_at "rv go"
      rw [ed] at ho
      cases hb : inI lo hi x with
      | true =>
        refine iteF ?_
        refine w_next ?_
        refine ⟨_, _, rfl, e2, ?_⟩
        rw [ho]
        show (if inI lo hi x = true then _ else _) = _
        rw [if_pos hb]
      | false =>
        refine iteT ?_
        walk_at "rv go"
        have q := k _ e2
        rw [ho] at q
        have e3 : outs lo hi (x :: xs.drop (i + 1)) i = .int (i : Int) := by
          show (if inI lo hi x = true then _ else _) = _
          rw [hb, if_neg Bool.false_ne_true]
        rw [e3] at q
        exact q
  · rintro σ' H' ⟨u, v, rfl, e, ho⟩
    walk_at "rv go"
    rw [List.drop_length] at ho
    have q := k _ e
    rw [ho] at q
    exact q
theorem p_row {K : PySem.W.Frag} {vs : List V} {H : Hp} {Q : VK} {E : XK} (h : spRow K vs H Q E) : t_is_row K { nx := fun _ H' => Q .non H', rt := Q } (start ["values", "least", "most"] vs) H := by
  obtain ⟨a, lo, hi, xs, rfl, hR, k⟩ := h
  unfold t_is_row
  walk_at "rv go"
  refine ⟨szl (by decide), fun p np => ?_⟩
  have e := same_new (o := .tup [.ty "list", .ty "tuple"]) (Same.refl H) np
  walk_at "rv go"
  have hR2 := hR.same (K := K) e
  have ty : ∃ t, TyX K (upd H p (.tup [.ty "list", .ty "tuple"])) (.ref a) t ∧ PySem.W.kitAny K t [.type "list", .type "tuple"] = some true := by
    rcases hR2 with h | h
    · exact ⟨_, .base (.lst h), kitAny_cons kit_ll (fun z => nomatch z) (fun _ => rfl)⟩
    · exact ⟨_, .base (.tup h), kitAny_cons kit_tl (fun _ => kitAny_cons kit_tt (fun z => nomatch z) (fun _ => rfl)) (fun z => nomatch z)⟩
  obtain ⟨t, h1, h2⟩ := ty
  refine ⟨.ref a, p, _, t, _, true, rfl, upd_same, .cons (.ty "list") (.cons (.ty "tuple") .nil), h1, h2, ?_⟩
  walk_at "rv go"
  refine w_chain ?_
  walk_at "rv go"
  have hl : ∀ Q : VK, Q (.int (xs.length : Int)) (upd H p (.tup [.ty "list", .ty "tuple"])) → cLen K [.ref a] (upd H p (.tup [.ty "list", .ty "tuple"])) Q := fun Q q => by
    rcases hR2 with h | h
    · exact w_lenL (sq_lst h) q
    · exact w_lenT (sq_tup h) q
  refine hl _ ?_
  walk_at "rv go"
  have q := k _ e
  refine w_both (fun z => ?_) (fun z => ?_)
  · walk_at "rv go"
    rw [decide_eq_true z, Bool.true_and] at q
    exact q
  · rw [decide_eq_false z, Bool.false_and] at q
    exact q
theorem row_call {K : PySem.W.Frag} {H : Hp} {Q : VK} {E : XK} {a : Addr} {lo hi : Int} {xs : List V} (h : RowAt K H a xs) (h1 : lo ≤ (xs.length : Int)) (h2 : (xs.length : Int) ≤ hi) (k : ∀ H', Same H H' → Q (.bl true) H') :
    spRow K ([.ref a, .int lo, .int hi] ++ []) H Q E := ⟨a, lo, hi, xs, rfl, h, fun H' e => by
  rw [decide_eq_true h1, decide_eq_true h2]
  exact k H' e⟩
theorem outside_call {K : PySem.W.Frag} {H : Hp} {Q : VK} {E : XK} {a : Addr} {lo hi : Int} {zs : List Int} (h : RowAt K H a (zs.map V.int)) (hz : ∀ z ∈ zs, lo ≤ z ∧ z ≤ hi) (k : ∀ H', Same H H' → Q .non H') :
    spOutside K ([.ref a, .int lo, .int hi] ++ []) H Q E := by
  have hm : ∀ x ∈ zs.map V.int, ∃ z, x = V.int z ∧ lo ≤ z ∧ z ≤ hi := fun x hx => by
    obtain ⟨z, h1, h2⟩ := List.mem_map.mp hx
    exact ⟨z, h2.symm, hz z h1⟩
  refine ⟨a, lo, hi, _, rfl, h.elim (fun h => .inl (sq_lst h)) (fun h => .inr (sq_tup h)), fun x hx => ?_, fun H' e => ?_⟩
  · obtain ⟨z, rfl, _⟩ := hm x hx
    exact .int z
  · rw [outs_none fun x hx => ?_]
    · exact k H' e
    · obtain ⟨z, rfl, h1, h2⟩ := hm x hx
      show (decide (lo ≤ z) && decide (z ≤ hi)) = true
      rw [decide_eq_true h1, decide_eq_true h2]
      rfl
theorem p_checkH {K : PySem.W.Frag} {vs : List V} {H : Hp} {Q : VK} {E : XK} (h : spCheckH K vs H Q E) : t_check_heights K { nx := fun _ H' => Q .non H', rt := Q } (start ["heights", "wrong"] vs) H := by
  obtain ⟨a, hs, rfl, ha, h1, h60, hok, k⟩ := h
  unfold t_check_heights
  refine w_seq ?_
  refine w_ifs ?_
  walk_at "rv go"
  refine row_call ha (by rw [List.length_map]; omega) (by rw [List.length_map]; omega) fun H1 e1 => ?_
  walk_at "rv go"
  refine outside_call (ha.same e1) (fun z hz => hok z hz) fun H2 e2 => ?_
  refine w_gn ?_
  refine w_ifs ?_
  walk_at "rv go"
  refine ⟨rfl, ?_⟩
  walk_at "rv go"
  exact k H2 (e1.trans e2)
theorem p_checkW {K : PySem.W.Frag} {vs : List V} {H : Hp} {Q : VK} {E : XK} (h : spCheckW K vs H Q E) : t_check_widths K { nx := fun _ H' => Q .non H', rt := Q } (start ["widths", "many", "wrong"] vs) H := by
  obtain ⟨a, ws, rfl, ha, hok, k⟩ := h
  unfold t_check_widths
  refine w_seq ?_
  refine w_ifs ?_
  walk_at "rv go"
  refine row_call ha (by rw [List.length_map]; omega) (by rw [List.length_map]; omega) fun H1 e1 => ?_
  walk_at "rv go"
  refine outside_call (ha.same e1) (fun z hz => hok z hz) fun H2 e2 => ?_
  refine w_gn ?_
  refine w_ifs ?_
  walk_at "rv go"
  refine ⟨rfl, ?_⟩
  walk_at "rv go"
  exact k H2 (e1.trans e2)
theorem tup_call {K : PySem.W.Frag} {H : Hp} {Q : VK} {a : Addr} {xs : List V} (h : RowAt K H a xs) (k : ∀ l H', Same H H' → H' l = some (.tup xs) → Q (.ref l) H') : cTuple K [.ref a] H Q := by
  rcases h with h | h
  · exact ⟨a, xs, rfl, .inl ⟨sq_lst h, fun l nl => k l _ (same_new (Same.refl H) nl) upd_same⟩⟩
  · exact ⟨a, xs, rfl, .inr ⟨sq_tup h, k a H (Same.refl H) h⟩⟩
theorem w_lenR {K : PySem.W.Frag} {H : Hp} {Q : VK} {a : Addr} {xs : List V} (h : RowAt K H a xs) (q : Q (.int xs.length) H) : cLen K [.ref a] H Q :=
  h.elim (fun h => w_lenL (sq_lst h) q) fun h => w_lenT (sq_tup h) q
theorem p_init {K : PySem.W.Frag} {C : Addr} {vs : List V} {H : Hp} {Q : VK} {E : XK} (h : spInit K C vs H Q E) : t_Profile___init__ K C { nx := fun _ H' => Q .non H', rt := Q } (start ["self", "heights", "widths"] vs) H := by
  obtain ⟨p, dx, a, wv, hs, ws, rfl, P, hp, ha, h1, h60, hok, hw, k⟩ := h
  unfold t_Profile___init__
  walk_at "rv go"
  refine ⟨a, hs, rfl, ha, h1, h60, hok, fun H1 e1 => ?_⟩
  refine w_cut (fun σ' H' => ∃ b, σ' = [some (.ref p), some (.ref a), some (.ref b)] ∧ RowAt K H' b (ws.map V.int) ∧ ws.length = hs.length ∧ (∀ z ∈ ws, WOk1 z) ∧ Same H H') (fun N key => ?_) ?_
  · refine w_ifs ?_
    rcases hw with ⟨rfl, rfl⟩ | ⟨b, rfl, hb, hl, hwok⟩
    · walk_at "rv go"
      refine ⟨rfl, ?_⟩
      walk_at "rv go"
      refine ⟨szl (by decide), fun q nq => ?_⟩
      walk_at "rv go"
      refine w_lenR (ha.same (same_new e1 nq)) ?_
      walk_at "rv go"
      refine ⟨q, _, _, rfl, rfl, upd_same, by omega, by rw [List.length_map]; omega, by rw [List.length_map]; exact szl (by simp; omega), fun r nr => ?_⟩
      walk_at "rv go"
      refine key _ _ ⟨r, rfl, .inl ?_, by simp, fun z hz => ?_, same_new (same_new e1 nq) nr⟩
      · rw [upd_same, List.map_replicate, List.length_map, Int.toNat_natCast, List.flatten_replicate_singleton]
      · rw [(List.mem_replicate.mp hz).2]
        exact ⟨by decide, by decide⟩
    · walk_at "rv go"
      refine ⟨rfl, ?_⟩
      have e : decide (V.ref b = V.non) = false := decide_eq_false fun z => nomatch z
      rw [e]
      walk_at "rv go"
      exact key _ _ ⟨b, rfl, hb.same e1, hl, hwok, e1⟩
  · rintro σ2 H2 ⟨b, rfl, hb, hl, hwok, e2⟩
    walk_at "rv go"
    refine w_lenR (ha.same e2) ?_
    walk_at "rv go"
    refine ⟨b, ws, ?_, hb, hwok, fun H3 e3 => ?_⟩
    · show [V.ref b, V.int ((hs.map V.int).length : Int)] = _
      rw [List.length_map, hl]
    have e23 := e2.trans e3
    refine w_seq ?_
    refine w_sfld ?_
    walk_at "rv go"
    refine tup_call (ha.same e23) fun t1 H4 e4 h1 => ?_
    walk_at "rv go"
    have e24 := e23.trans e4
    refine w_put (e24 _ _ hp) P.cl P.nH (by decide) ?_
    refine w_nx ?_
    refine w_sfld ?_
    walk_at "rv go"
    have ne_p : ∀ {c : Addr} {ys : List V}, RowAt K H4 c ys → c ≠ p := fun {c ys} q z => by
      have q2 := e24 _ _ hp
      rw [← z] at q2
      rcases q with q | q
      · rw [q] at q2
        cases q2
      · rw [q] at q2
        cases q2
    have t1p : t1 ≠ p := ne_p (.inr h1)
    have hb4 : RowAt K H4 b (ws.map V.int) := (hb.same e3).same e4
    have bp : b ≠ p := ne_p hb4
    have hb5 : RowAt K (upd H4 p (.ins C dx (putF "column_heights" (.ref t1) []))) b (ws.map V.int) := by
      unfold RowAt
      rw [upd_ne bp]
      exact hb4
    refine tup_call hb5 fun t2 H5 e5 h2 => ?_
    have hp5 := e5 _ _ (upd_same (H := H4) (a := p))
    have t2p : t2 ≠ p := fun z => by
      rw [z, hp5] at h2
      cases h2
    walk_at "rv go"
    refine w_put (fs := putF "column_heights" (.ref t1) []) hp5 P.cl P.nW (by show (1 : Nat) < 1000; decide) ?_
    refine k _ ⟨dx, t1, t2, upd_same, ?_, ?_⟩ fun c o nc hc => ?_
    · rw [upd_ne t1p]
      exact e5 _ _ (by rw [upd_ne t1p]; exact h1)
    · rw [upd_ne t2p]
      exact h2
    · rw [upd_ne nc]
      exact e5 _ _ (by rw [upd_ne nc]; exact e24 _ _ hc)
theorem dp_ints {K : PySem.W.Frag} {H : Hp} : ∀ zs : List Int, DpAll K H (zs.map V.int) (zs.map PyData.int)
  | [] => .nil
  | z :: r => .cons (.int z) (dp_ints r)
theorem kit_self {K : PySem.W.Frag} {C : Addr} : PySem.W.kitOne K (.ref C) (.ref C) = some true := if_pos (beq_self_eq_true _)
theorem lay_ints : ∀ zs : List Int, PyData.canLayAll0 (zs.map PyData.int) = true ∧ PyData.depthAll (zs.map PyData.int) = 0
  | [] => ⟨by simp [PyData.canLayAll0], by simp [PyData.depthAll]⟩
  | z :: r => by
    have h := lay_ints r
    exact ⟨by simp [PyData.canLayAll0, PyData.canLay0, h.1], by simp [PyData.depthAll, PyData.depth, h.2]⟩
theorem shT_ints (zs : List Int) : SeqAt.shaped (.tuple (zs.map PyData.int)) = true := by
  have h := lay_ints zs
  simp [SeqAt.shaped, PyData.canLay0, PyData.depth, h.1, h.2]
theorem shL_ints (zs : List Int) : SeqAt.shaped (.list (zs.map PyData.int)) = true := by
  have h := lay_ints zs
  simp [SeqAt.shaped, PyData.canLay0, PyData.depth, h.1, h.2]
theorem eqD_ok {K : PySem.W.Frag} {H : Hp} {Q : VK} {a b : Addr} {zs : List Int} (h1 : SqT K H a (zs.map V.int)) (h2 : SqT K H b (zs.map V.int)) (q : Q (.bl true) H) : rEqD K (.ref a) (.ref b) H Q := by
  refine ⟨.tuple (zs.map PyData.int), .tuple (zs.map PyData.int), .tup h1 (dp_ints zs), .tup h2 (dp_ints zs), shT_ints zs, shT_ints zs, ?_⟩
  rw [SeqAt.eqv_refl _ (SeqAt.canLay_of_shaped (shT_ints zs))]
  exact q
theorem p_eq {K : PySem.W.Frag} {C : Addr} {vs : List V} {H : Hp} {Q : VK} {E : XK} (h : spEq (PEq K C) vs H Q E) : t_Profile___eq__ K C { nx := fun _ H' => Q .non H', rt := Q } (start ["self", "other"] vs) H := by
  obtain ⟨a, b, rfl, ⟨P, hs, ws, ⟨dx, t1, t2, ha, h1, h2⟩, ⟨dy, u1, u2, hb, g1, g2⟩⟩, k⟩ := h
  unfold t_Profile___eq__
  walk_at "rv go"
  refine isi_of (.own C) (.base (.ins hb P.cl P.cA P.cG P.cT P.cM)) kit_self ?_
  walk_at "rv go"
  refine w_fld rfl ha P.cl P.nH (pfl_h _ _) ?_
  refine w_fld rfl hb P.cl P.nH (pfl_h _ _) ?_
  refine eqD_ok (sq_tup h1) (sq_tup g1) ?_
  walk_at "rv go"
  refine w_fld rfl ha P.cl P.nW (pfl_w _ _) ?_
  refine w_fld rfl hb P.cl P.nW (pfl_w _ _) ?_
  refine eqD_ok (sq_tup h2) (sq_tup g2) ?_
  walk_at "rv go"
  exact k H fun _ _ z => z
end Rv
/-! Operators, comparisons and len of instances of a class with its own defs for them. -/
namespace Rv
open PySem PySem.Spec PyProof.Rows L2
theorem back_of {P : Value → Shared → Prop} {z : V} {v : Value} {s' : Shared} (r : RelV z v) (h : P v s') : PySem.W.CmpBack P v s' := by
  have n : v ≠ .notImplemented := by
    rintro rfl
    cases z <;> first | (obtain ⟨_, e⟩ := r; cases e) | cases r
  cases v <;> first | exact h | exact absurd rfl n
/-- the second operand: an int, or an instance of the class at C -/
inductive Snd (C : Addr) (H : Hp) : V → Prop where
  | int (i : Int) : Snd C H (.int i)
  | own {b dy : Addr} {gs : List (Str × V)} (h : H b = some (.ins C dy gs)) : Snd C H (.ref b)
/-- the class at C has a def of two parameters under the name nm -/
structure CalO (P : Program) (w : World) (K : PySem.W.Frag) (mg : Str → Option Value) (base : Heap) (CX : CXT) (k : Nat) (C : Addr) (nm : Str) (sp : Sp) : Prop where
  ex : ∃ f fd, FnOk P w K mg base CX k f fd ["self", "other"] sp ∧ PySem.W.findIn K (.ref C) nm = some (some (.ref f)) ∧ PySem.W.isFn K (.ref f) = true ∧ Binds K fd ["self", "other"] []
/-- .. of one parameter -/
structure CalU (P : Program) (w : World) (K : PySem.W.Frag) (mg : Str → Option Value) (base : Heap) (CX : CXT) (k : Nat) (C : Addr) (nm : Str) (sp : Sp) : Prop where
  ex : ∃ f fd, FnOk P w K mg base CX k f fd ["self"] sp ∧ PySem.W.findIn K (.ref C) nm = some (some (.ref f)) ∧ PySem.W.isFn K (.ref f) = true ∧ Binds K fd ["self"] []
/-- what the operators ask of the class -/
structure OpC (K : PySem.W.Frag) (C : Addr) : Prop where
  nf : PySem.W.notFirst K C (.type "int") = true
  sf : PySem.W.selfFirst K C = true
  su : PySem.W.subIn K (.type "int") (.ref C) = some false
/-- .. for one arithmetic operator (its second name, the reflected one, is a def of the class or nothing) -/
structure OpN (K : PySem.W.Frag) (C : Addr) (nm : String) : Prop where
  rd : ∃ rc, PySem.W.findIn K (.ref C) (PySem.dunderR nm) = some rc ∧ (rc = none ∨ ∃ g : Addr, rc = some (.ref g))
  i1 : ∃ fo, PySem.W.findIn K (.type "int") (PySem.dunder nm) = some fo
  i2 : ∃ ro, PySem.W.findIn K (.type "int") (PySem.dunderR nm) = some ro
def rOwn (C : Addr) (sp : Sp) (E : XK) : R2 := fun x y H Q => ∃ a dx fs, x = .ref a ∧ H a = some (.ins C dx fs) ∧ Snd C H y ∧ sp [x, y] H Q E
def rOwnI (C : Addr) (sp : Sp) (E : XK) : R2 := fun x y H Q => ∃ a dx fs i, x = .ref a ∧ H a = some (.ins C dx fs) ∧ y = .int i ∧ sp [x, y] H Q E
def cLenO (C : Addr) (sp : Sp) (E : XK) : List V → Hp → VK → Prop := fun xs H Q => ∃ a dx fs, xs = [.ref a] ∧ H a = some (.ins C dx fs) ∧ sp [.ref a] H (fun z H' => ∃ i, z = .int i ∧ (0 ≤ i ∧ i < 2 ^ 63) ∧ Q (.int i) H') E
section
variable {X : Cx} {CX : CXT} {k : Nat} {nm : String} {sp : Sp} {E : XK} {C f : Addr} {fd : FuncData} {pins : List (Addr × Obj)} {σ : L2.St} {H : Hp} {s : Shared} {a : Addr} {y : V} {u : Value} {Q : VK}
theorem run2 (F : FnOk X.prog X.w X.K X.mg X.base CX k f fd ["self", "other"] sp) (hb : Binds X.K fd ["self", "other"] []) (hx : Passes CX X E) (hr : Room k X.A) (I : Inv X pins σ H s) (ry : RelV y u) (q : sp [.ref a, y] H Q E) :
    wpAny (model X.prog X.w) X.A (call (.ref f) [.ref a, u]) (PySem.W.CmpBack (EP X pins σ Q)) X.xe s := by
  have r2 : Vals [V.ref a, y] [Value.ref a, u] := .cons rfl (.cons ry .nil)
  have hl := F.len _ _ _ _ q
  refine wpAny_call (codeAny_mono (F.run X.A X.stack s H ⟨[.ref a, u], []⟩ [.ref a, u] [.ref a, y] _ E hr I.env0 (by
    have := hb s [.ref a, u] I.kIn (by simpa using hl)
    simpa using this) r2 q) fun r s' hq => ?_)
  cases r with
  | error e => exact hx pins σ H s e s' I hq
  | ok fl =>
    cases fl with
    | ret w =>
      obtain ⟨z, H', I', rz, qz⟩ := I.after hq
      exact back_of rz ⟨z, H', I', rz, qz⟩
    | next => exact False.elim hq
    | brk => exact False.elim hq
    | cont => exact False.elim hq
theorem op_ownC {op : CmpOp} (hop : ∀ a b, compareOp op a b = richCompare op a b) (c : CalO X.prog X.w X.K X.mg X.base CX k C (cmpInfo op).2.1 sp) (oc : OpC X.K C) (hr : Room k X.A) (hx : Passes CX X E) : OpR X (compareOp op) (rOwn C sp E) := by
  intro pins s σ H x y v u Q I rx ry h
  obtain ⟨a, dx, fs, rfl, ha, sy, q⟩ := h
  cases (show v = Value.ref a from rx)
  obtain ⟨f, fd, F, hs, hf, hb⟩ := c.ex
  obtain ⟨mA, J, _⟩ := ins_get I.hok ha
  obtain ⟨od, J, _⟩ := J.look
  obtain ⟨m, hF⟩ := I.fr
  rw [hop]
  have go := run2 (y := y) (u := u) F hb hx hr I ry q
  cases sy with
  | int i =>
    obtain ⟨t, rfl⟩ := (show ∃ t, u = Value.int i t from ry)
    exact PySem.W.cmp_K (op := op) (tb := .type "int") hr.units0 hF I.ok.mod.kin J (PySem.W.Looks.of_pure rfl) oc.nf hs hf go
  | own hb' =>
    cases (show u = Value.ref _ from ry)
    obtain ⟨mB, J', _⟩ := ins_get I.hok hb'
    obtain ⟨od', J', _⟩ := J'.look
    exact PySem.W.cmp_K (op := op) (tb := .ref C) hr.units0 hF I.ok.mod.kin J J'.type (by simp [PySem.W.notFirst]) hs hf go
theorem op_ownI {op : Operator} (c : CalO X.prog X.w X.K X.mg X.base CX k C (PySem.dunder op.info.2) sp) (oc : OpC X.K C) (on : OpN X.K C op.info.2) (hr : Room k X.A) (hx : Passes CX X E) : OpR X (binaryOp op) (rOwnI C sp E) := by
  intro pins s σ H x y v u Q I rx ry h
  obtain ⟨a, dx, fs, i, rfl, ha, rfl, q⟩ := h
  cases (show v = Value.ref a from rx)
  obtain ⟨f, fd, F, hs, hf, hb⟩ := c.ex
  obtain ⟨mA, J, _⟩ := ins_get I.hok ha
  obtain ⟨od, J, _⟩ := J.look
  obtain ⟨m, hF⟩ := I.fr
  have go := run2 (y := .int i) (u := u) F hb hx hr I ry q
  obtain ⟨t, rfl⟩ := (show ∃ t, u = Value.int i t from ry)
  obtain ⟨rc, r1, r2⟩ := on.rd
  obtain ⟨fo, h1⟩ := on.i1
  obtain ⟨ro, h2⟩ := on.i2
  exact PySem.W.ksp_binT (op := op) (T := "int") hF I.ok.mod.kin J rfl oc.sf hs hf r1 r2 h1 h2 oc.su go
theorem op_ownMul (c : CalO X.prog X.w X.K X.mg X.base CX k C "__mul__" sp) (oc : OpC X.K C) (on : OpN X.K C "mul") (hr : Room k X.A) (hx : Passes CX X E) : OpR X (binaryOp .Mult) (rOwnI C sp E) :=
  op_ownI (op := .Mult) (by rw [show PySem.dunder (Operator.info .Mult).2 = ("__mul__" : Str) from by decide +kernel]; exact c) oc on hr hx
theorem op_ownSub (c : CalO X.prog X.w X.K X.mg X.base CX k C "__sub__" sp) (oc : OpC X.K C) (on : OpN X.K C "sub") (hr : Room k X.A) (hx : Passes CX X E) : OpR X (binaryOp .Sub) (rOwnI C sp E) :=
  op_ownI (op := .Sub) (by rw [show PySem.dunder (Operator.info .Sub).2 = ("__sub__" : Str) from by decide +kernel]; exact c) oc on hr hx
theorem op_ownAdd (c : CalO X.prog X.w X.K X.mg X.base CX k C "__add__" sp) (oc : OpC X.K C) (on : OpN X.K C "add") (hr : Room k X.A) (hx : Passes CX X E) : OpR X (binaryOp .Add) (rOwnI C sp E) :=
  op_ownI (op := .Add) (by rw [show PySem.dunder (Operator.info .Add).2 = ("__add__" : Str) from by decide +kernel]; exact c) oc on hr hx
theorem call_lenO (c : CalU X.prog X.w X.K X.mg X.base CX k C "__len__" sp) (hr : Room (k + 1) X.A) (hx : Passes CX X E) : CallR X (.builtin "len") (cLenO C sp E) := by
  intro pins s σ H xs us Q I r h
  obtain ⟨a, dx, fs, rfl, ha, q⟩ := h
  obtain ⟨u, rfl, ru⟩ := r.one
  cases (show u = Value.ref a from ru)
  obtain ⟨f, fd, F, hs, hf, hb⟩ := c.ex
  obtain ⟨mA, J, _⟩ := ins_get I.hok ha
  obtain ⟨od, J, _⟩ := J.look
  obtain ⟨m, hF⟩ := I.fr
  have hl := F.len _ _ _ _ q
  refine PySem.W.len_K hF I.ok.mod.kin J hs hf (wpAny_call (codeAny_mono (F.run X.A.in1 X.stack s H ⟨[.ref a], []⟩ [.ref a] [.ref a] _ E hr.in1 I.env0.in1 (by
    have := hb s [.ref a] I.kIn (by simpa using hl)
    simpa using this) (.cons rfl .nil) q) fun r s' hq => ?_))
  cases r with
  | error e => exact hx pins σ H s e s' I hq
  | ok fl =>
    cases fl with
    | ret w =>
      obtain ⟨z, H', I', rz, i, rfl, hi, qz⟩ := I.after hq
      obtain ⟨t, rfl⟩ := (show ∃ t, w = Value.int i t from rz)
      exact ⟨hi, .int i, H', I'.tok (s'.toks + 1), ⟨_, rfl⟩, qz⟩
    | next => exact False.elim hq
    | brk => exact False.elim hq
    | cont => exact False.elim hq
end
section
variable {K : PySem.W.Frag} {H : Hp} {Q : VK} {C a dx : Addr} {fs : List (Str × V)} {sp : Sp} {E : XK} {y : V} {i : Int}
theorem w_ownI (ha : H a = some (.ins C dx fs)) (q : sp [.ref a, .int i] H Q E) : rOwn C sp E (.ref a) (.int i) H Q := ⟨a, dx, fs, rfl, ha, .int i, q⟩
theorem w_ownO {b dy : Addr} {gs : List (Str × V)} (ha : H a = some (.ins C dx fs)) (hb : H b = some (.ins C dy gs)) (q : sp [.ref a, .ref b] H Q E) : rOwn C sp E (.ref a) (.ref b) H Q := ⟨a, dx, fs, rfl, ha, .own hb, q⟩
theorem w_binI (ha : H a = some (.ins C dx fs)) (q : sp [.ref a, .int i] H Q E) : rOwnI C sp E (.ref a) (.int i) H Q := ⟨a, dx, fs, i, rfl, ha, rfl, q⟩
theorem w_lenO (ha : H a = some (.ins C dx fs)) (q : sp [.ref a] H (fun z H' => ∃ i, z = .int i ∧ (0 ≤ i ∧ i < 2 ^ 63) ∧ Q (.int i) H') E) : cLenO C sp E [.ref a] H Q := ⟨a, dx, fs, rfl, ha, q⟩
end
end Rv
namespace Rv
open PySem PySem.Spec PyProof.Rows L2
structure Red (n d t b : Int) : Prop where
  eq : t * d = n * b
  pos : 0 < b
  low : Int.gcd t b = 1
  le : b ≤ d
  lt : t.natAbs ≤ n.natAbs
theorem red_gcd {n d : Int} (hd : 0 < d) : Red n d (n / (Int.gcd n d : Int)) (d / (Int.gcd n d : Int)) := by
  have g0 : 0 < Int.gcd n d := Int.gcd_pos_iff.mpr (.inr (by omega))
  have g1 : (0 : Int) < (Int.gcd n d : Int) := by omega
  obtain ⟨x, hx⟩ := Int.gcd_dvd_left (a := n) (b := d)
  obtain ⟨y, hy⟩ := Int.gcd_dvd_right (a := n) (b := d)
  have low : Int.gcd x y = 1 := by
    have e : Int.gcd n d = Int.gcd n d * Int.gcd x y := by
      have q := Int.gcd_mul_left (Int.gcd n d : Int) x y
      rw [← hx, ← hy, Int.natAbs_natCast] at q
      exact q
    exact Nat.eq_of_mul_eq_mul_left g0 (by omega)
  have ex : n / (Int.gcd n d : Int) = x := by
    have q := Int.mul_ediv_cancel_left x (show (Int.gcd n d : Int) ≠ 0 by omega)
    rw [← hx] at q
    exact q
  have ey : d / (Int.gcd n d : Int) = y := by
    have q := Int.mul_ediv_cancel_left y (show (Int.gcd n d : Int) ≠ 0 by omega)
    rw [← hy] at q
    exact q
  rw [ex, ey]
  have py : 0 < y := by
    by_cases h : 0 < y
    · exact h
    · have : (Int.gcd n d : Int) * y ≤ 0 := Int.mul_nonpos_of_nonneg_of_nonpos (by omega) (by omega)
      omega
  generalize hg : Int.gcd n d = g at *
  refine ⟨?_, py, low, ?_, ?_⟩
  · rw [hx, hy]
    rw [show x * ((g : Int) * y) = (g : Int) * x * y by rw [Int.mul_left_comm, Int.mul_assoc]]
  · rw [hy]
    have := Int.mul_le_mul_of_nonneg_right (show (1 : Int) ≤ g by omega) (show 0 ≤ y by omega)
    omega
  · rw [hx, Int.natAbs_mul, Int.natAbs_natCast]
    exact Nat.le_mul_of_pos_left _ g0
theorem gcd_step {a b : Int} (hb : 0 < b) (ha : 0 ≤ a) : Int.gcd b (a % b) = Int.gcd a b := by
  have e : a = (a.natAbs : Int) := by omega
  have f : b = (b.natAbs : Int) := by omega
  rw [Int.gcd_comm a b, e, f, ← Int.natCast_emod]
  show Nat.gcd _ _ = Nat.gcd _ _
  simp only [Int.natAbs_natCast]
  rw [Nat.gcd_comm b.natAbs (a.natAbs % b.natAbs), ← Nat.gcd_rec]
def Sz (k : Nat) (z : Int) : Prop := z.natAbs < 2 ^ k
theorem Sz.mono {j k : Nat} {z : Int} (h : Sz j z) (e : j ≤ k) : Sz k z := Nat.lt_of_lt_of_le h (Nat.pow_le_pow_right (by decide) e)
theorem Sz.mul {j k : Nat} {x y : Int} (h : Sz j x) (g : Sz k y) : Sz (j + k) (x * y) := by
  unfold Sz at *
  rw [Int.natAbs_mul, Nat.pow_add]
  exact Nat.mul_lt_mul'' h g
theorem Sz.add {k : Nat} {x y : Int} (h : Sz k x) (g : Sz k y) : Sz (k + 1) (x + y) := by
  unfold Sz at *
  rw [Nat.pow_succ]
  omega
theorem Sz.sub {k : Nat} {x y : Int} (h : Sz k x) (g : Sz k y) : Sz (k + 1) (x - y) := by
  unfold Sz at *
  rw [Nat.pow_succ]
  omega
theorem Red.szt {n d t b : Int} {k : Nat} (r : Red n d t b) (h : Sz k n) : Sz k t := Nat.lt_of_le_of_lt r.lt h
theorem Red.szb {n d t b : Int} {k : Nat} (r : Red n d t b) (h : Sz k d) : Sz k b := by
  have := r.pos
  have := r.le
  unfold Sz at *
  omega
theorem Red.one {n t b : Int} (r : Red n 1 t b) : t = n ∧ b = 1 := by
  have h1 := r.pos
  have h2 := r.le
  have e : b = 1 := by omega
  have h3 := r.eq
  subst e
  omega
def dueF (h w : Nat → Int) (t b : Int) (f : Nat) : Nat → Int
  | 0 => 0
  | k + 1 => dueF h w t b f k + if h (f + k) * b < t then w (f + k) * (t - h (f + k) * b) else 0
def wetF (h : Nat → Int) (t b : Int) (f : Nat) : Nat → List Nat
  | 0 => []
  | k + 1 => wetF h t b f k ++ if h (f + k) * b < t then [f + k] else []
theorem wet_due (h w : Nat → Int) (t b : Int) (f : Nat) : ∀ k : Nat, t * ((wetF h t b f k).map w).sum - ((wetF h t b f k).map fun c => w c * h c).sum * b = dueF h w t b f k
  | 0 => by simp [wetF, dueF]
  | k + 1 => by
    have ih := wet_due h w t b f k
    unfold wetF dueF
    rw [← ih]
    split
    · rw [List.map_append, List.map_append, List.sum_append, List.sum_append]
      simp only [List.map_cons, List.map_nil, List.sum_cons, List.sum_nil, Int.add_zero]
      rw [Int.mul_add, Int.add_mul, Int.mul_sub, Int.mul_comm t (w (f + k)), Int.mul_assoc (w (f + k))]
      omega
    · simp
theorem due_scale {h w : Nat → Int} {t b p q : Int} {f : Nat} (hb : 0 < b) (hq : 0 < q) (e : t * q = p * b) : ∀ k : Nat, dueF h w t b f k * q = dueF h w p q f k * b
  | 0 => by simp [dueF]
  | k + 1 => by
    have ih := due_scale (h := h) (w := w) (f := f) hb hq e k
    unfold dueF
    have iff' : h (f + k) * b < t ↔ h (f + k) * q < p := by
      have e1 : h (f + k) * b * q = h (f + k) * q * b := by rw [Int.mul_assoc, Int.mul_comm b q, Int.mul_assoc]
      constructor
      · intro z
        have z2 := Int.mul_lt_mul_of_pos_right z hq
        rw [e, e1] at z2
        exact Int.lt_of_mul_lt_mul_right z2 (by omega)
      · intro z
        have z2 := Int.mul_lt_mul_of_pos_right z hb
        rw [← e, ← e1] at z2
        exact Int.lt_of_mul_lt_mul_right z2 (by omega)
    rw [Int.add_mul, Int.add_mul, ih]
    by_cases c : h (f + k) * b < t
    · rw [if_pos c, if_pos (iff'.mp c)]
      have e1 : h (f + k) * b * q = h (f + k) * q * b := by rw [Int.mul_assoc, Int.mul_comm b q, Int.mul_assoc]
      rw [Int.mul_assoc, Int.sub_mul, e, e1, ← Int.sub_mul, ← Int.mul_assoc]
    · rw [if_neg c, if_neg (fun z => c (iff'.mpr z))]
      simp
theorem vol_fin {n d t b p q x y : Int} (hb : 0 < b) (h1 : n * b = x * d) (h2 : x * q = y * b) : n * q = y * d := by
  have e : n * q * b = y * d * b := by
    rw [Int.mul_assoc, Int.mul_comm q b, ← Int.mul_assoc, h1, Int.mul_assoc, Int.mul_comm d q, ← Int.mul_assoc, h2, Int.mul_assoc, Int.mul_comm b d, ← Int.mul_assoc]
  exact Int.eq_of_mul_eq_mul_right (by omega) e
/-- level * wide - ground, in lowest terms twice -/
theorem vol_two {n1 d1 n d t b wide ground : Int} (h1 : n1 * (b * 1) = (t * wide) * d1) (p1 : 0 < d1) (h2 : n * (d1 * 1) = (n1 * 1 - ground * d1) * d) : n * b = (t * wide - ground * b) * d := by
  rw [Int.mul_one] at h1 h2
  rw [Int.mul_one] at h2
  have e : n * b * d1 = (t * wide - ground * b) * d * d1 := by
    rw [Int.mul_assoc, Int.mul_comm b d1, ← Int.mul_assoc, h2, Int.mul_assoc, Int.mul_comm d b, ← Int.mul_assoc, Int.sub_mul, h1, Int.mul_assoc ground d1 b, Int.mul_comm d1 b, ← Int.mul_assoc ground b d1, ← Int.sub_mul, Int.mul_assoc, Int.mul_comm d1 d, ← Int.mul_assoc]
  exact Int.eq_of_mul_eq_mul_right (by omega) e
theorem sum_bound {M : Nat} : ∀ {l : List Int}, (∀ x ∈ l, x.natAbs ≤ M) → l.sum.natAbs ≤ l.length * M
  | [], _ => by simp
  | x :: r, h => by
    have h1 := h x List.mem_cons_self
    have h2 := sum_bound fun y hy => h y (List.mem_cons_of_mem _ hy)
    rw [List.sum_cons, List.length_cons, Nat.add_mul]
    omega
theorem wet_len (h : Nat → Int) (t b : Int) (f : Nat) : ∀ k : Nat, (wetF h t b f k).length ≤ k
  | 0 => by simp [wetF]
  | k + 1 => by
    have := wet_len h t b f k
    unfold wetF
    rw [List.length_append]
    split <;> simp <;> omega
theorem wet_mem {h : Nat → Int} {t b : Int} {f c : Nat} : ∀ {k : Nat}, c ∈ wetF h t b f k → f ≤ c ∧ c < f + k
  | 0, m => by simp [wetF] at m
  | k + 1, m => by
    unfold wetF at m
    rcases List.mem_append.mp m with m | m
    · have := wet_mem m
      omega
    · split at m
      · simp at m
        omega
      · simp at m
/-! fractions in the heap -/
def rfl2 (t b : Int) : List (Str × V) := putF "reduced_bottom" (.int b) (putF "reduced_top" (.int t) [])
theorem n_tb : ¬ (("reduced_top" : Str) = "reduced_bottom") := by decide +kernel
theorem rfl2_t (t b : Int) : (rfl2 t b).lookup ("reduced_top" : Str) = some (.int t) := by
  unfold rfl2
  rw [lookup_putF, if_neg n_tb, lookup_putF, if_pos rfl]
theorem rfl2_b (t b : Int) : (rfl2 t b).lookup ("reduced_bottom" : Str) = some (.int b) := by
  unfold rfl2
  rw [lookup_putF, if_pos rfl]
/-- a Ratio t / b in lowest terms stands at p -/
def RatAt (C : Addr) (H : Hp) (p : Addr) (t b : Int) : Prop := (0 < b ∧ Int.gcd t b = 1) ∧ ∃ dx, H p = some (.ins C dx (rfl2 t b))
theorem RatAt.same {C : Addr} {H H' : Hp} {p : Addr} {t b : Int} (h : RatAt C H p t b) (e : Same H H') : RatAt C H' p t b := by
  obtain ⟨l, dx, h1⟩ := h
  exact ⟨l, dx, e _ _ h1⟩
/-- a number: an int or a Ratio -/
def Num (C : Addr) (H : Hp) (v : V) (n d : Int) : Prop := (v = .int n ∧ d = 1) ∨ ∃ p, v = .ref p ∧ RatAt C H p n d
theorem Num.same {C : Addr} {H H' : Hp} {v : V} {n d : Int} (h : Num C H v n d) (e : Same H H') : Num C H' v n d := by
  rcases h with h | ⟨p, h1, h2⟩
  · exact .inl h
  · exact .inr ⟨p, h1, h2.same e⟩
theorem Num.pos {C : Addr} {H : Hp} {v : V} {n d : Int} (h : Num C H v n d) : 0 < d := by
  rcases h with ⟨_, h⟩ | ⟨p, _, h, _⟩
  · omega
  · exact h.1
/-- what is told of the class Ratio -/
structure RCls (K : PySem.W.Frag) (C : Addr) : Prop where
  cl : Cls K C
  nT : NoAttr K C "reduced_top"
  nB : NoAttr K C "reduced_bottom"
  cA : PySem.W.findIn K (.ref C) "__class__" = some (some (.builtin "object.__class__"))
  cG : PySem.W.specialIn K (.builtin "object.__class__") "__get__" = some (some (.builtin "getset_descriptor.__get__"))
  cT : PySem.W.takesIn K (.builtin "object.__class__") = some true
  cM : PySem.W.mroIn K C (.type "object") = some true
  ki : PySem.W.kitOne K (.type "int") (.ref C) = some false
def spPLen (K : PySem.W.Frag) (C : Addr) : Sp := fun vs H Q _ => ∃ p hs ws, vs = [.ref p] ∧ PCls K C ∧ ProfAt K C H p hs ws ∧ Q (.int (hs.length : Int)) H
def spGcd (K : PySem.W.Frag) : Sp := fun vs H Q _ => ∃ a b : Int, vs = [.int a, .int b] ∧ 0 ≤ a ∧ 0 ≤ b ∧ Q (.int (Int.gcd a b : Int)) H
def spRInit (K : PySem.W.Frag) (C : Addr) : Sp := fun vs H Q _ => ∃ p dx n d, vs = [.ref p, .int n, .int d] ∧ RCls K C ∧ H p = some (.ins C dx []) ∧ 0 < d ∧ Sz 8000 d ∧
  ∀ H' t b, Red n d t b → RatAt C H' p t b → (∀ c o, c ≠ p → H c = some o → H' c = some o) → Q .non H'
def spGap (K : PySem.W.Frag) (C : Addr) : Sp := fun vs H Q _ => ∃ a c t b n d, vs = [.ref a, .ref c] ∧ RCls K C ∧ RatAt C H a t b ∧ RatAt C H c n d ∧ Sz 4000 t ∧ Sz 4000 b ∧ Sz 4000 n ∧ Sz 4000 d ∧ Q (.int (t * d - n * b)) H
def spAsR (K : PySem.W.Frag) (C : Addr) : Sp := fun vs H Q _ => ∃ v n d, vs = [v] ∧ RCls K C ∧ Num C H v n d ∧ ∀ q H', Same H H' → RatAt C H' q n d → Q (.ref q) H'
def spChkN (K : PySem.W.Frag) (C : Addr) : Sp := spAsR K C
def spBin (f : Int → Int → Int → Int → Int) (K : PySem.W.Frag) (C : Addr) : Sp := fun vs H Q _ => ∃ a v t b n d, vs = [.ref a, v] ∧ RCls K C ∧ RatAt C H a t b ∧ Num C H v n d ∧ Sz 3000 t ∧ Sz 3000 b ∧ Sz 3000 n ∧ Sz 3000 d ∧
  ∀ q H' x y, Same H H' → RatAt C H' q x y → Red (f t b n d) (b * d) x y → Q (.ref q) H'
def spMul : PySem.W.Frag → Addr → Sp := spBin fun t _ n _ => t * n
def spSub : PySem.W.Frag → Addr → Sp := spBin fun t b n d => t * d - n * b
def spAdd : PySem.W.Frag → Addr → Sp := spBin fun t b n d => t * d + n * b
def spCmp (f : Int → Bool) (K : PySem.W.Frag) (C : Addr) : Sp := fun vs H Q _ => ∃ a v t b n d, vs = [.ref a, v] ∧ RCls K C ∧ RatAt C H a t b ∧ Num C H v n d ∧ Sz 3000 t ∧ Sz 3000 b ∧ Sz 3000 n ∧ Sz 3000 d ∧
  ∀ H', Same H H' → Q (.bl (f (t * d - n * b))) H'
def spGt : PySem.W.Frag → Addr → Sp := spCmp fun z => decide (0 < z)
def spLe : PySem.W.Frag → Addr → Sp := spCmp fun z => decide (z ≤ 0)
/-- heights and widths of a profile -/
structure PrOk (hs ws : List Int) : Prop where
  pos : 1 ≤ hs.length
  le : hs.length ≤ 60
  eq : ws.length = hs.length
  hh : ∀ z ∈ hs, HOk1 z
  ww : ∀ z ∈ ws, WOk1 z
def spIsCol (K : PySem.W.Frag) (C : Addr) : Sp := fun vs H Q _ => ∃ p hs ws, ∃ c : Int, vs = [.ref p, .int c] ∧ PCls K C ∧ ProfAt K C H p hs ws ∧ hs.length ≤ 60 ∧ Q (.bl (decide (0 ≤ c) && decide (c ≤ (hs.length : Int) - 1))) H
def spChkCol (K : PySem.W.Frag) (C : Addr) : Sp := fun vs H Q _ => ∃ p hs ws, ∃ c : Nat, vs = [.ref p, .int (c : Int)] ∧ PCls K C ∧ ProfAt K C H p hs ws ∧ hs.length ≤ 60 ∧ c < hs.length ∧ Q .non H
def spChkRun (K : PySem.W.Frag) (C : Addr) : Sp := fun vs H Q _ => ∃ p hs ws, ∃ f l : Nat, vs = [.ref p, .int (f : Int), .int (l : Int)] ∧ PCls K C ∧ ProfAt K C H p hs ws ∧ hs.length ≤ 60 ∧ f ≤ l ∧ l < hs.length ∧ Q .non H
def hN (hs : List Int) (i : Nat) : Int := (hs[i]?).getD 0
theorem at_hN {hs : List Int} {i : Nat} (h : i < hs.length) : atI (hs.map V.int) (i : Int) = some (.int (hN hs i)) := by
  refine at_nat ?_
  rw [List.getElem?_map]
  unfold hN
  rw [List.getElem?_eq_getElem h]
  rfl
theorem hN_mem {hs : List Int} {i : Nat} (h : i < hs.length) : hN hs i ∈ hs := by
  unfold hN
  rw [List.getElem?_eq_getElem h]
  exact List.getElem_mem h
def spVolB (K : PySem.W.Frag) (CP CR : Addr) : Sp := fun vs H Q _ => ∃ p hs ws, ∃ f l : Nat, ∃ q t b, vs = [.ref p, .int (f : Int), .int (l : Int), .ref q] ∧ PCls K CP ∧ RCls K CR ∧ ProfAt K CP H p hs ws ∧ PrOk hs ws ∧ f ≤ l ∧ l < hs.length ∧ RatAt CR H q t b ∧ Sz 1000 t ∧ Sz 1000 b ∧
  ∀ r H' n d, Same H H' → RatAt CR H' r n d → n * b = dueF (hN hs) (hN ws) t b f (l + 1 - f) * d → Sz 2000 n → Sz 1000 d → Q (.ref r) H'
def spVolU (K : PySem.W.Frag) (CP CR : Addr) : Sp := fun vs H Q _ => ∃ p hs ws, ∃ f l : Nat, ∃ v t b, vs = [.ref p, .int (f : Int), .int (l : Int), v] ∧ PCls K CP ∧ RCls K CR ∧ ProfAt K CP H p hs ws ∧ PrOk hs ws ∧ f ≤ l ∧ l < hs.length ∧ Num CR H v t b ∧ Sz 1000 t ∧ Sz 1000 b ∧
  ∀ r H' n d, Same H H' → RatAt CR H' r n d → n * b = dueF (hN hs) (hN ws) t b f (l + 1 - f) * d → Sz 2000 n → Sz 1000 d → Q (.ref r) H'
def t_Profile___len__ (K : PySem.W.Frag) (C_Profile : Addr) : TS :=
  (tRet (tCB (cLen K) (tCons (tFld K (tVar 0) "column_heights") tNil)))
def t_common_divisor (K : PySem.W.Frag) : TS :=
  (tSeq (tWhile (tTest (tOp rNe (tVar 1) (tC (.int 0)))) (tPar 0 1 (tCons (tVar 1) (tCons (tOp oMod (tVar 0) (tVar 1)) tNil))))
    (tRet (tVar 0)))
def t_gap (K : PySem.W.Frag) (C_Ratio : Addr) : TS :=
  (tRet (tOp oSub (tOp oMulW (tFld K (tVar 0) "reduced_top") (tFld K (tVar 1) "reduced_bottom")) (tOp oMulW (tFld K (tVar 1) "reduced_top") (tFld K (tVar 0) "reduced_bottom"))))
def t_Ratio___init__ (K : PySem.W.Frag) (C_Ratio : Addr) : TS :=
  (tSeq (tIfS (tNot (tB (tCall (spWhole K) [] E0 (tCons (tVar 1) tNil)))) tNever tNext)
    (tSeq (tIfS (tOr (tNot (tB (tCall (spWhole K) [] E0 (tCons (tVar 2) tNil)))) (tTest (tOp rEq (tVar 2) (tC (.int 0))))) tNever tNext)
    (tSeq (tAsg (tCall (spGcd K) [] E0 (tCons (tCB cAbs (tCons (tVar 1) tNil)) (tCons (tCB cAbs (tCons (tVar 2) tNil)) tNil))) (gName 3))
    (tSeq (tIfS (tTest (tOp oLt (tVar 2) (tC (.int 0)))) (tAsg (tUn (rU fun i => .int (-i)) (tVar 3)) (gName 3)) tNext)
    (tSeq (sFld K (tVar 0) (tOp oDiv (tVar 1) (tVar 3)) "reduced_top")
    (sFld K (tVar 0) (tOp oDiv (tVar 2) (tVar 3)) "reduced_bottom"))))))
def t_as_ratio (K : PySem.W.Frag) (C_Ratio : Addr) : TS :=
  (tSeq (tIfS (tB (tCB (rIsi K) (tCons (tVar 0) (tCons (tC (.ref C_Ratio)) tNil)))) (tRet (tVar 0)) tNext)
    (tSeq (tIfS (tB (tCall (spWhole K) [] E0 (tCons (tVar 0) tNil))) (tRet (tMake C_Ratio (spRInit K C_Ratio) [.int 1] E0 (tCons (tVar 0) tNil))) tNext)
    (tRet (tC .non))))
def t_Ratio___mul__ (K : PySem.W.Frag) (C_Ratio : Addr) : TS :=
  (tSeq (tAsg (tCall (spAsR K C_Ratio) [] E0 (tCons (tVar 1) tNil)) (gName 2))
    (tSeq (tIfS (tTest (tOp oIsN (tVar 2) (tC .non))) tNever tNext)
    (tRet (tMake C_Ratio (spRInit K C_Ratio) [] E0 (tCons (tOp oMulW (tFld K (tVar 0) "reduced_top") (tFld K (tVar 2) "reduced_top")) (tCons (tOp oMulW (tFld K (tVar 0) "reduced_bottom") (tFld K (tVar 2) "reduced_bottom")) tNil))))))
def t_Ratio___sub__ (K : PySem.W.Frag) (C_Ratio : Addr) : TS :=
  (tSeq (tAsg (tCall (spAsR K C_Ratio) [] E0 (tCons (tVar 1) tNil)) (gName 2))
    (tSeq (tIfS (tTest (tOp oIsN (tVar 2) (tC .non))) tNever tNext)
    (tRet (tMake C_Ratio (spRInit K C_Ratio) [] E0 (tCons (tCall (spGap K C_Ratio) [] E0 (tCons (tVar 0) (tCons (tVar 2) tNil))) (tCons (tOp oMulW (tFld K (tVar 0) "reduced_bottom") (tFld K (tVar 2) "reduced_bottom")) tNil))))))
def t_Ratio___gt__ (K : PySem.W.Frag) (C_Ratio : Addr) : TS :=
  (tSeq (tAsg (tCall (spAsR K C_Ratio) [] E0 (tCons (tVar 1) tNil)) (gName 2))
    (tSeq (tIfS (tTest (tOp oIsN (tVar 2) (tC .non))) tNever tNext)
    (tRet (tOp oGt (tCall (spGap K C_Ratio) [] E0 (tCons (tVar 0) (tCons (tVar 2) tNil))) (tC (.int 0))))))
def t_checked_number (K : PySem.W.Frag) (C_Ratio : Addr) : TS :=
  (tSeq (tAsg (tCall (spAsR K C_Ratio) [] E0 (tCons (tVar 0) tNil)) (gName 1))
    (tSeq (tIfS (tTest (tOp oIsN (tVar 1) (tC .non))) tNever tNext)
    (tRet (tVar 1))))
def t_is_column (K : PySem.W.Frag) (C_Profile : Addr) : TS :=
  (tRet (tCall (spWithin K) [] E0 (tCons (tVar 1) (tCons (tC (.int 0)) (tCons (tOp oSub (tCB (cLenO C_Profile (spPLen K C_Profile) E0) (tCons (tVar 0) tNil)) (tC (.int 1))) tNil)))))
def t_check_column (K : PySem.W.Frag) (C_Profile : Addr) : TS :=
  (tIfS (tNot (tB (tCall (spIsCol K C_Profile) [] E0 (tCons (tVar 0) (tCons (tVar 1) tNil))))) tNever tNext)
def t_check_run (K : PySem.W.Frag) (C_Profile : Addr) : TS :=
  (tSeq (tDrop (tCall (spChkCol K C_Profile) [] E0 (tCons (tVar 0) (tCons (tVar 1) tNil))))
    (tIfS (tNot (tB (tCall (spWithin K) [] E0 (tCons (tVar 2) (tCons (tVar 1) (tCons (tOp oSub (tCB (cLenO C_Profile (spPLen K C_Profile) E0) (tCons (tVar 0) tNil)) (tC (.int 1))) tNil)))))) tNever tNext))
def t_volume_below (K : PySem.W.Frag) (C_Profile : Addr) (C_Ratio : Addr) : TS :=
  (tSeq (tAsg (tProp C_Profile (getSp C_Profile "column_heights") [] E0 (tVar 0)) (gName 4))
    (tSeq (tAsg (tProp C_Profile (getSp C_Profile "column_widths") [] E0 (tVar 0)) (gName 5))
    (tSeq (tAsg (tLc (iRng2 (tCons (tVar 1) (tCons (tOp oAdd (tVar 2) (tC (.int 1))) tNil))) (gName 9) (tTest (tOp (rOwn C_Ratio (spGt K C_Ratio) E0) (tVar 3) (tOp (rIxT K) (tVar 4) (tVar 9)))) (tVar 9) [9]) (gName 6))
    (tSeq (tAsg (tCB (rSum K) (tCons (tLc (iList K (tVar 6)) (gName 9) tYes (tOp (rIxT K) (tVar 5) (tVar 9)) [9]) tNil)) (gName 7))
    (tSeq (tAsg (tCB (rSum K) (tCons (tLc (iList K (tVar 6)) (gName 9) tYes (tOp oMulW (tOp (rIxT K) (tVar 5) (tVar 9)) (tOp (rIxT K) (tVar 4) (tVar 9))) [9]) tNil)) (gName 8))
    (tRet (tOp (rOwnI C_Ratio (spSub K C_Ratio) E0) (tOp (rOwnI C_Ratio (spMul K C_Ratio) E0) (tVar 3) (tVar 7)) (tVar 8))))))))
def t_volume_up_to (K : PySem.W.Frag) (C_Profile : Addr) (C_Ratio : Addr) : TS :=
  (tSeq (tDrop (tCall (spChkRun K C_Profile) [] E0 (tCons (tVar 0) (tCons (tVar 1) (tCons (tVar 2) tNil)))))
    (tRet (tCall (spVolB K C_Profile C_Ratio) [] E0 (tCons (tVar 0) (tCons (tVar 1) (tCons (tVar 2) (tCons (tCall (spChkN K C_Ratio) [] E0 (tCons (tVar 3) tNil)) tNil)))))))
local macro_rules | `(tactic| walk_at "rv st") => `(tactic| first
  | with_reducible refine iteT ?_ | with_reducible refine iteF ?_ | with_reducible refine w_nx ?_ | with_reducible refine w_yes ?_ | with_reducible refine w_rt ?_ | with_reducible refine iteNT ?_ | with_reducible refine iteNF ?_ | with_reducible refine iteNRf ?_ | with_reducible refine iteRf ?_ | with_reducible refine w_seqA ?_ | with_reducible refine w_seqD ?_ | with_reducible refine w_seqP ?_ | with_reducible refine w_asg ?_ | with_reducible refine w_ret ?_ | with_reducible refine w_drop ?_ | with_reducible refine w_ifs ?_ | with_reducible refine w_next ?_ | with_reducible refine w_par ?_
  | with_reducible refine w_op ?_ | with_reducible refine w_un ?_ | ((with_reducible show tVar _ _ _ _); refine' w_var ?hv ?_; (case hv => exact rfl)) | with_reducible refine w_c ?_ | with_reducible refine w_test ?_ | with_reducible refine w_tB ?_
  | with_reducible refine w_bl ?_ | with_reducible refine w_I0 ?_ | with_reducible refine w_U ?_ | with_reducible refine w_eqI ?_ | with_reducible refine w_neI ?_
  | with_reducible refine w_cons ?_ | with_reducible refine w_nil ?_ | with_reducible refine w_gn ?_ | with_reducible refine w_gsub ?_ | with_reducible refine w_and ?_ | with_reducible refine w_or ?_ | with_reducible refine w_not ?_
  | with_reducible refine w_andV ?_ | with_reducible refine w_orV ?_ | with_reducible refine w_notV ?_ | with_reducible refine w_if ?_ | with_reducible refine w_cb ?_ | with_reducible refine w_call ?_ | with_reducible refine w_lst ?_ | with_reducible refine w_tup ?_
  | with_reducible refine w_sl ?_ | with_reducible refine w_noPart ?_ | with_reducible refine w_part ?_ | with_reducible refine w_ex1 ?_ | with_reducible refine w_exb ?_ | with_reducible refine w_intB ?_ | with_reducible refine w_intI ?_ | with_reducible refine w_abs ?_)
local macro_rules | `(tactic| walk_at "rv ix") => `(tactic| ((with_reducible show rIxL _ _ _ _ _); refine' w_ixL (sq_lst ?ha) ?hb ?_; (case ha => first | exact upd_same | assumption); (case hb => first | exact rfl | assumption)))
local macro_rules | `(tactic| walk_at "rv ar") => `(tactic| first
  | (refine' w_I ?hc ?_; (case hc => first | (show (0 : Int) < _; first | assumption | decide | omega) | exact pow_c (by decide) (by decide) (by first | decide | omega) (by first | decide | omega) | exact mul_r (by first | decide | omega) (by first | decide | omega) | exact mul_l (by first | decide | omega) (by first | decide | omega) | exact divw (by first | assumption | decide | omega) (by first | assumption | decide | omega))))
local macro_rules | `(tactic| walk_at "rv go") => `(tactic| repeat first | walk_at "rv st" | walk_at "rv ix" | ((with_reducible show rI _ _ _ _ _ _); walk_at "rv ar"))
theorem whole_call {K : PySem.W.Frag} {H : Hp} {Q : VK} {E : XK} {i : Int} (q : Q (.bl true) H) : spWhole K ([.int i] ++ []) H Q E := ⟨.int i, rfl, .int i, q⟩
theorem mulw {j k : Nat} {x y : Int} (h : Sz j x) (g : Sz k y) (h0 : 0 < j) (h1 : 0 < k) (h2 : j + k ≤ 1000000) : CMulW x y := wide_mul h g h0 h1 h2
theorem p_plen {K : PySem.W.Frag} {C : Addr} {vs : List V} {H : Hp} {Q : VK} {E : XK} (h : spPLen K C vs H Q E) : t_Profile___len__ K C { nx := fun _ H' => Q .non H', rt := Q } (start ["self"] vs) H := by
  obtain ⟨p, hs, ws, rfl, P, ⟨dx, t1, t2, hp, h1, h2⟩, k⟩ := h
  unfold t_Profile___len__
  walk_at "rv go"
  refine w_fld rfl hp P.cl P.nH (pfl_h _ _) ?_
  walk_at "rv go"
  refine w_lenT (sq_tup h1) ?_
  rw [List.length_map]
  exact k
theorem p_gcd {K : PySem.W.Frag} {vs : List V} {H : Hp} {Q : VK} {E : XK} (h : spGcd K vs H Q E) : t_common_divisor K { nx := fun _ H' => Q .non H', rt := Q } (start ["first", "second"] vs) H := by
  obtain ⟨a, b, rfl, ha, hb, k⟩ := h
  unfold t_common_divisor
  refine w_seq ?_
  refine w_while (fun m σ' H' => ∃ x y : Int, σ' = [some (.int x), some (.int y)] ∧ 0 ≤ x ∧ 0 ≤ y ∧ m = y.toNat ∧ Int.gcd x y = Int.gcd a b ∧ H' = H) (m := b.toNat) ⟨a, b, rfl, ha, hb, rfl, rfl, rfl⟩ ?_
  rintro m σ' H' ⟨x, y, rfl, hx, hy, rfl, e, rfl⟩
  walk_at "rv go"
  refine w_bothN (fun h1 => ?_) (fun h1 => ?_)
  · refine w_turn ?_
    have y0 : 0 < y := by omega
    have z1 := Int.emod_lt_of_pos x y0
    have z2 := Int.emod_nonneg x (show y ≠ 0 by omega)
    walk_at "rv go"
    refine ⟨_, _, rfl, ?_⟩
    exact ⟨(x % y).toNat, by omega, y, x % y, rfl, hy, z2, rfl, by rw [gcd_step y0 hx]; exact e, rfl⟩
  · subst h1
    walk_at "rv go"
    rw [← e, Int.gcd_zero_right] at k
    have e2 : ((x.natAbs : Nat) : Int) = x := by omega
    rw [e2] at k
    exact k
theorem p_gap {K : PySem.W.Frag} {C : Addr} {vs : List V} {H : Hp} {Q : VK} {E : XK} (h : spGap K C vs H Q E) : t_gap K C { nx := fun _ H' => Q .non H', rt := Q } (start ["left", "right"] vs) H := by
  obtain ⟨a, c, t, b, n, d, rfl, R, ⟨l1, dx, h1⟩, ⟨l2, dy, h2⟩, s1, s2, s3, s4, k⟩ := h
  unfold t_gap
  walk_at "rv go"
  refine w_fld rfl h1 R.cl R.nT (rfl2_t _ _) ?_
  refine w_fld rfl h2 R.cl R.nB (rfl2_b _ _) ?_
  refine w_I (mulw s1 s4 (by decide) (by decide) (by decide)) ?_
  walk_at "rv go"
  refine w_fld rfl h2 R.cl R.nT (rfl2_t _ _) ?_
  refine w_fld rfl h1 R.cl R.nB (rfl2_b _ _) ?_
  refine w_I (mulw s3 s2 (by decide) (by decide) (by decide)) ?_
  walk_at "rv go"
  exact k
theorem p_rinit {K : PySem.W.Frag} {C : Addr} {vs : List V} {H : Hp} {Q : VK} {E : XK} (h : spRInit K C vs H Q E) : t_Ratio___init__ K C { nx := fun _ H' => Q .non H', rt := Q } (start ["self", "numerator", "denominator", "divisor"] vs) H := by
  obtain ⟨p, dx, n, d, rfl, R, hp, hd, sd, k⟩ := h
  unfold t_Ratio___init__
  refine w_seq ?_
  walk_at "rv go"
  refine whole_call ?_
  walk_at "rv go"
  refine w_seq ?_
  walk_at "rv go"
  refine whole_call ?_
  walk_at "rv go"
  rw [decide_eq_false (show ¬ d = 0 by omega)]
  walk_at "rv go"
  refine ⟨_, _, rfl, by split <;> omega, by split <;> omega, ?_⟩
  have eg : Int.gcd (if n < 0 then -n else n) (if d < 0 then -d else d) = Int.gcd n d := by
    have e1 : (if n < 0 then -n else n).natAbs = n.natAbs := by split <;> omega
    have e2 : (if d < 0 then -d else d).natAbs = d.natAbs := by split <;> omega
    show Nat.gcd _ _ = Nat.gcd _ _
    rw [e1, e2]
  rw [eg]
  have red := red_gcd (n := n) hd
  have g0 : 0 < Int.gcd n d := Int.gcd_pos_iff.mpr (.inr (by omega))
  have gd : Int.gcd n d ≤ d.natAbs := by
    have := Int.gcd_dvd_right (a := n) (b := d)
    have z := Int.le_of_dvd hd this
    omega
  have sg : Sz 8000 (Int.gcd n d : Int) := by
    unfold Sz at *
    rw [Int.natAbs_natCast]
    omega
  have cd : ∀ z : Int, CDivW z (Int.gcd n d : Int) := fun z => wide_div (b := 8000) (by omega) sg (by decide) (by decide)
  generalize (Int.gcd n d : Int) = g at *
  walk_at "rv go"
  refine w_seq ?_
  walk_at "rv go"
  rw [decide_eq_false (show ¬ d < 0 by omega)]
  walk_at "rv go"
  refine w_seq ?_
  refine w_sfld ?_
  walk_at "rv go"
  refine w_I (cd _) ?_
  walk_at "rv go"
  refine w_put hp R.cl R.nT (by decide) ?_
  refine w_nx ?_
  refine w_sfld ?_
  walk_at "rv go"
  refine w_I (cd _) ?_
  walk_at "rv go"
  refine w_put (fs := putF "reduced_top" (.int (n / g)) []) upd_same R.cl R.nB (by show (1 : Nat) < 1000; decide) ?_
  refine k _ _ _ red ⟨⟨red.pos, red.low⟩, dx, upd_same⟩ fun c o nc hc => ?_
  rw [upd_ne nc, upd_ne nc]
  exact hc
theorem mk_rat {K : PySem.W.Frag} {C : Addr} {H : Hp} {Q : Addr → Hp → Prop} {E : XK} {n d : Int} {us dvs : List V} (hu : us ++ dvs = [.int n, .int d]) (R : RCls K C) (hd : 0 < d) (sd : Sz 8000 d) (k : ∀ x H' t b, Same H H' → Red n d t b → RatAt C H' x t b → Q x H') :
    ∀ x dx, H x = none → H dx = none → dx ≠ x → spRInit K C (.ref x :: (us ++ dvs)) (upd (upd H dx (.own x)) x (.ins C dx [])) (fun v H2 => v = .non ∧ Q x H2) E := by
  intro x dx nx ndx hne
  rw [hu]
  have s0 : Same H (upd (upd H dx (.own x)) x (.ins C dx [])) := fun b o hb => by
    rw [upd_ne (ne_of_none hb nx), upd_ne (ne_of_none hb ndx)]
    exact hb
  exact ⟨x, dx, n, d, rfl, R, upd_same, hd, sd, fun H' t b r hr hf => ⟨rfl, k x H' t b (fun b o hb => hf b o (ne_of_none hb nx) (s0 b o hb)) r hr⟩⟩
theorem sz_one {k : Nat} (h : 1 ≤ k) : Sz k 1 := Nat.lt_of_lt_of_le (show Int.natAbs 1 < 2 ^ 1 by decide) (Nat.pow_le_pow_right (by decide) h)
theorem p_asR {K : PySem.W.Frag} {C : Addr} {vs : List V} {H : Hp} {Q : VK} {E : XK} (h : spAsR K C vs H Q E) : t_as_ratio K C { nx := fun _ H' => Q .non H', rt := Q } (start ["value"] vs) H := by
  obtain ⟨v, n, d, rfl, R, hv, k⟩ := h
  unfold t_as_ratio
  refine w_seq ?_
  rcases hv with ⟨rfl, rfl⟩ | ⟨p, rfl, hl, dx, hp⟩
  · walk_at "rv go"
    refine isi_of (.own C) (.base (.int n)) R.ki ?_
    walk_at "rv go"
    refine w_seq ?_
    walk_at "rv go"
    refine whole_call ?_
    walk_at "rv go"
    refine w_make ?_
    walk_at "rv go"
    refine mk_rat (Q := fun x H' => Q (.ref x) H') rfl R (by decide) (sz_one (by decide)) fun x H' t b e r hr => ?_
    obtain ⟨rfl, rfl⟩ := r.one
    exact k x H' e hr
  · walk_at "rv go"
    refine isi_of (.own C) (.base (.ins hp R.cl R.cA R.cG R.cT R.cM)) kit_self ?_
    walk_at "rv go"
    exact k p H (Same.refl H) ⟨hl, dx, hp⟩
theorem p_chkN {K : PySem.W.Frag} {C : Addr} {vs : List V} {H : Hp} {Q : VK} {E : XK} (h : spChkN K C vs H Q E) : t_checked_number K C { nx := fun _ H' => Q .non H', rt := Q } (start ["value", "found"] vs) H := by
  obtain ⟨v, n, d, rfl, R, hv, k⟩ := h
  unfold t_checked_number
  walk_at "rv go"
  refine ⟨v, n, d, rfl, R, hv, fun q H' e hq => ?_⟩
  walk_at "rv go"
  refine w_seq ?_
  walk_at "rv go"
  refine ⟨rfl, ?_⟩
  rw [decide_eq_false (show ¬ V.ref q = V.non from fun z => nomatch z)]
  walk_at "rv go"
  exact k q H' e hq
theorem p_mul {K : PySem.W.Frag} {C : Addr} {vs : List V} {H : Hp} {Q : VK} {E : XK} (h : spMul K C vs H Q E) : t_Ratio___mul__ K C { nx := fun _ H' => Q .non H', rt := Q } (start ["self", "other", "right"] vs) H := by
  obtain ⟨a, v, t, b, n, d, rfl, R, ha, hv, s1, s2, s3, s4, k⟩ := h
  unfold t_Ratio___mul__
  walk_at "rv go"
  refine ⟨v, n, d, rfl, R, hv, fun q H1 e hq => ?_⟩
  have hd := hv.pos
  obtain ⟨l1, dx, ha⟩ := ha.same e
  obtain ⟨l2, dy, hq⟩ := hq
  walk_at "rv go"
  refine w_seq ?_
  walk_at "rv go"
  refine ⟨rfl, ?_⟩
  rw [decide_eq_false (show ¬ V.ref q = V.non from fun z => nomatch z)]
  walk_at "rv go"
  refine w_make ?_
  walk_at "rv go"
  refine w_fld rfl ha R.cl R.nT (rfl2_t _ _) ?_
  refine w_fld rfl hq R.cl R.nT (rfl2_t _ _) ?_
  refine w_I (mulw s1 s3 (by decide) (by decide) (by decide)) ?_
  walk_at "rv go"
  refine w_fld rfl ha R.cl R.nB (rfl2_b _ _) ?_
  refine w_fld rfl hq R.cl R.nB (rfl2_b _ _) ?_
  refine w_I (mulw s2 s4 (by decide) (by decide) (by decide)) ?_
  walk_at "rv go"
  exact mk_rat (Q := fun x H' => Q (.ref x) H') rfl R (Int.mul_pos l1.1 hd) ((s2.mul s4).mono (by decide)) fun x H' y z e2 r hr => k x H' y z (e.trans e2) hr r
theorem p_sub {K : PySem.W.Frag} {C : Addr} {vs : List V} {H : Hp} {Q : VK} {E : XK} (h : spSub K C vs H Q E) : t_Ratio___sub__ K C { nx := fun _ H' => Q .non H', rt := Q } (start ["self", "other", "right"] vs) H := by
  obtain ⟨a, v, t, b, n, d, rfl, R, ha, hv, s1, s2, s3, s4, k⟩ := h
  unfold t_Ratio___sub__
  walk_at "rv go"
  refine ⟨v, n, d, rfl, R, hv, fun q H1 e hq => ?_⟩
  have hd := hv.pos
  have ha2 := ha.same e
  obtain ⟨l1, dx, ha⟩ := ha.same e
  have hq2 := hq
  obtain ⟨l2, dy, hq⟩ := hq
  walk_at "rv go"
  refine w_seq ?_
  walk_at "rv go"
  refine ⟨rfl, ?_⟩
  rw [decide_eq_false (show ¬ V.ref q = V.non from fun z => nomatch z)]
  walk_at "rv go"
  refine w_make ?_
  walk_at "rv go"
  refine ⟨a, q, t, b, n, d, rfl, R, ha2, hq2, s1.mono (by decide), s2.mono (by decide), s3.mono (by decide), s4.mono (by decide), ?_⟩
  walk_at "rv go"
  refine w_fld rfl ha R.cl R.nB (rfl2_b _ _) ?_
  refine w_fld rfl hq R.cl R.nB (rfl2_b _ _) ?_
  refine w_I (mulw s2 s4 (by decide) (by decide) (by decide)) ?_
  walk_at "rv go"
  exact mk_rat (Q := fun x H' => Q (.ref x) H') rfl R (Int.mul_pos l1.1 hd) ((s2.mul s4).mono (by decide)) fun x H' y z e2 r hr => k x H' y z (e.trans e2) hr r
theorem p_gt {K : PySem.W.Frag} {C : Addr} {vs : List V} {H : Hp} {Q : VK} {E : XK} (h : spGt K C vs H Q E) : t_Ratio___gt__ K C { nx := fun _ H' => Q .non H', rt := Q } (start ["self", "other", "right"] vs) H := by
  obtain ⟨a, v, t, b, n, d, rfl, R, ha, hv, s1, s2, s3, s4, k⟩ := h
  unfold t_Ratio___gt__
  walk_at "rv go"
  refine ⟨v, n, d, rfl, R, hv, fun q H1 e hq => ?_⟩
  walk_at "rv go"
  refine w_seq ?_
  walk_at "rv go"
  refine ⟨rfl, ?_⟩
  rw [decide_eq_false (show ¬ V.ref q = V.non from fun z => nomatch z)]
  walk_at "rv go"
  refine ⟨a, q, t, b, n, d, rfl, R, ha.same e, hq, s1.mono (by decide), s2.mono (by decide), s3.mono (by decide), s4.mono (by decide), ?_⟩
  walk_at "rv go"
  exact k H1 e
theorem p_isCol {K : PySem.W.Frag} {C : Addr} {vs : List V} {H : Hp} {Q : VK} {E : XK} (h : spIsCol K C vs H Q E) : t_is_column K C { nx := fun _ H' => Q .non H', rt := Q } (start ["profile", "value"] vs) H := by
  obtain ⟨p, hs, ws, c, rfl, P, hp, h60, k⟩ := h
  unfold t_is_column
  walk_at "rv go"
  obtain ⟨dx, t1, t2, h0, h1, h2⟩ := id hp
  refine w_lenO h0 ?_
  refine ⟨p, hs, ws, rfl, P, hp, _, rfl, by omega, ?_⟩
  walk_at "rv go"
  exact ⟨.int c, _, _, rfl, .int c, k⟩
theorem p_chkCol {K : PySem.W.Frag} {C : Addr} {vs : List V} {H : Hp} {Q : VK} {E : XK} (h : spChkCol K C vs H Q E) : t_check_column K C { nx := fun _ H' => Q .non H', rt := Q } (start ["profile", "value"] vs) H := by
  obtain ⟨p, hs, ws, c, rfl, P, hp, h60, hc, k⟩ := h
  unfold t_check_column
  walk_at "rv go"
  refine ⟨p, hs, ws, _, rfl, P, hp, h60, ?_⟩
  rw [decide_eq_true (show (0 : Int) ≤ (c : Int) by omega), decide_eq_true (show (c : Int) ≤ (hs.length : Int) - 1 by omega), Bool.true_and]
  walk_at "rv go"
  exact k
theorem p_chkRun {K : PySem.W.Frag} {C : Addr} {vs : List V} {H : Hp} {Q : VK} {E : XK} (h : spChkRun K C vs H Q E) : t_check_run K C { nx := fun _ H' => Q .non H', rt := Q } (start ["profile", "first", "last"] vs) H := by
  obtain ⟨p, hs, ws, f, l, rfl, P, hp, h60, hfl, hl, k⟩ := h
  unfold t_check_run
  walk_at "rv go"
  refine ⟨p, hs, ws, f, rfl, P, hp, h60, by omega, ?_⟩
  walk_at "rv go"
  obtain ⟨dx, t1, t2, h0, h1, h2⟩ := id hp
  refine w_lenO h0 ?_
  refine ⟨p, hs, ws, rfl, P, hp, _, rfl, by omega, ?_⟩
  walk_at "rv go"
  refine ⟨.int (l : Int), _, _, rfl, .int _, ?_⟩
  have e : inI (f : Int) ((hs.length : Int) - 1) (.int (l : Int)) = true := by
    show (decide _ && decide _) = true
    rw [decide_eq_true (show (f : Int) ≤ (l : Int) by omega), decide_eq_true (show (l : Int) ≤ (hs.length : Int) - 1 by omega)]
    rfl
  rw [e]
  walk_at "rv go"
  exact k
end Rv
/-! The head's tests of the classes Profile and Ratio. -/
namespace Rv
open PySem PySem.Spec PyProof.Rows L2
theorem pcls_of {K : PySem.W.Frag} (k : Cls K (He.ga K "Profile")) (nH : NoAttr K (He.ga K "Profile") "column_heights") (nW : NoAttr K (He.ga K "Profile") "column_widths") (h : clB K "Profile" = true) : PCls K (He.ga K "Profile") := by
  obtain ⟨h1, h⟩ := He.ba h
  obtain ⟨h2, h⟩ := He.ba h
  obtain ⟨h3, h4⟩ := He.ba h
  exact ⟨k, nH, nW, He.eqO_ok h1, He.eqO_ok h2, of_decide_eq_true h3, of_decide_eq_true h4⟩
def kiB (K : PySem.W.Frag) (x : Str) : Bool := decide (PySem.W.kitOne K (.type "int") (.ref (He.ga K x)) = some false)
theorem rcls_of {K : PySem.W.Frag} (k : Cls K (He.ga K "Ratio")) (nT : NoAttr K (He.ga K "Ratio") "reduced_top") (nB : NoAttr K (He.ga K "Ratio") "reduced_bottom") (h : clB K "Ratio" = true) (h5 : kiB K "Ratio" = true) : RCls K (He.ga K "Ratio") := by
  obtain ⟨h1, h⟩ := He.ba h
  obtain ⟨h2, h⟩ := He.ba h
  obtain ⟨h3, h4⟩ := He.ba h
  exact ⟨k, nT, nB, He.eqO_ok h1, He.eqO_ok h2, of_decide_eq_true h3, of_decide_eq_true h4, of_decide_eq_true h5⟩
def opcB (K : PySem.W.Frag) (x : Str) : Bool := PySem.W.notFirst K (He.ga K x) (.type "int") && (PySem.W.selfFirst K (He.ga K x) && decide (PySem.W.subIn K (.type "int") (.ref (He.ga K x)) = some false))
theorem opc_of {K : PySem.W.Frag} {x : Str} (h : opcB K x = true) : OpC K (He.ga K x) := by
  obtain ⟨h1, h⟩ := He.ba h
  obtain ⟨h2, h3⟩ := He.ba h
  exact ⟨h1, h2, of_decide_eq_true h3⟩
def refO : Option (Option Value) → Bool
  | some none => true
  | some (some (.ref _)) => true
  | _ => false
def opnB (K : PySem.W.Frag) (x : Str) (nm : String) : Bool := refO (PySem.W.findIn K (.ref (He.ga K x)) (PySem.dunderR nm)) && ((PySem.W.findIn K (.type "int") (PySem.dunder nm)).isSome && (PySem.W.findIn K (.type "int") (PySem.dunderR nm)).isSome)
theorem opn_of {K : PySem.W.Frag} {x : Str} {nm : String} (h : opnB K x nm = true) : OpN K (He.ga K x) nm := by
  obtain ⟨h1, h⟩ := He.ba h
  obtain ⟨h2, h3⟩ := He.ba h
  refine ⟨?_, Option.isSome_iff_exists.mp h2, Option.isSome_iff_exists.mp h3⟩
  cases q : PySem.W.findIn K (.ref (He.ga K x)) (PySem.dunderR nm) with
  | none =>
    rw [q] at h1
    cases h1
  | some o =>
    rw [q] at h1
    refine ⟨o, rfl, ?_⟩
    cases o with
    | none => exact .inl rfl
    | some v =>
      cases v with
      | ref g => exact .inr ⟨g, rfl⟩
      | _ => cases h1
end Rv
/-! Comparisons of an int with an instance of an own class: the int declines, the class's own def answers; own comparisons with values of any kind. -/
namespace Rv
open PySem PySem.Spec PyProof.Rows L2
/-- the int's own comparison under the name id does not answer to an instance -/
structure IntDec (op : CmpOp) (id : String) (B : Builtin) : Prop where
  hop : ∀ a b, compareOp op a b = richCompare op a b
  slot : Slot "int" (cmpInfo op).2.1 id
  entry : entryFor table id = some B
  args : ∀ a b : Value, argsOk id ⟨[a, b], []⟩
  no : ∀ (i : Int) (t : Tok) (x C dx : Addr), Meets (B ⟨[.int i t, .ref x], []⟩) (fun _ R s => s.heap.get? x = some (PySem.W.instObj C dx) ∧ R (.ok (.ret .notImplemented)) s)
theorem dec_lt : IntDec .Lt "int.__lt__" Builtin.«int.__lt__» := by
  refine ⟨fun _ _ => rfl, PySem.F.slot_int_lt, PySem.F.entry_int_lt, fun a b => PySem.F.args_int_lt_2 a b, fun i t x C dx => .of_wp fun prog w A R s h => ?_⟩
  obtain ⟨hp, g, d, tk, os⟩ := s
  obtain ⟨hl, h⟩ := h
  wp_walk using AutoSeq1.wpAny_loadPart' hl
  exact ⟨_, rfl, h⟩
theorem dec_le : IntDec .LtE "int.__le__" Builtin.«int.__le__» := by
  refine ⟨fun _ _ => rfl, PySem.F.slot_int_le, PySem.F.entry_int_le, fun a b => PySem.F.args_int_le_2 a b, fun i t x C dx => .of_wp fun prog w A R s h => ?_⟩
  obtain ⟨hp, g, d, tk, os⟩ := s
  obtain ⟨hl, h⟩ := h
  wp_walk using AutoSeq1.wpAny_loadPart' hl
  exact ⟨_, rfl, h⟩
theorem dec_gt : IntDec .Gt "int.__gt__" Builtin.«int.__gt__» := by
  refine ⟨fun _ _ => rfl, PySem.F.slot_int_gt, PySem.F.entry_int_gt, fun a b => PySem.F.args_int_gt_2 a b, fun i t x C dx => .of_wp fun prog w A R s h => ?_⟩
  obtain ⟨hp, g, d, tk, os⟩ := s
  obtain ⟨hl, h⟩ := h
  wp_walk using AutoSeq1.wpAny_loadPart' hl
  exact ⟨_, rfl, h⟩
theorem dec_ge : IntDec .GtE "int.__ge__" Builtin.«int.__ge__» := by
  refine ⟨fun _ _ => rfl, PySem.F.slot_int_ge, PySem.F.entry_int_ge, fun a b => PySem.F.args_int_ge_2 a b, fun i t x C dx => .of_wp fun prog w A R s h => ?_⟩
  obtain ⟨hp, g, d, tk, os⟩ := s
  obtain ⟨hl, h⟩ := h
  wp_walk using AutoSeq1.wpAny_loadPart' hl
  exact ⟨_, rfl, h⟩
theorem dec_eq : IntDec .Eq "int.__eq__" Builtin.«int.__eq__» := by
  refine ⟨fun _ _ => rfl, PySem.F.slot_int_eq, PySem.F.entry_int_eq, fun a b => PySem.F.args_int_eq_2 a b, fun i t x C dx => .of_wp fun prog w A R s h => ?_⟩
  obtain ⟨hp, g, d, tk, os⟩ := s
  obtain ⟨hl, h⟩ := h
  wp_walk using AutoSeq1.wpAny_loadPart' hl
  exact ⟨_, rfl, h⟩
theorem dec_ne : IntDec .NotEq "int.__ne__" Builtin.«int.__ne__» := by
  refine ⟨fun _ _ => rfl, PySem.F.slot_int_ne, PySem.F.entry_int_ne, fun a b => PySem.F.args_int_ne_2 a b, fun i t x C dx => .of_wp fun prog w A R s h => ?_⟩
  obtain ⟨hp, g, d, tk, os⟩ := s
  obtain ⟨hl, h⟩ := h
  wp_walk using AutoSeq1.wpAny_loadPart' hl
  exact ⟨_, rfl, h⟩
/-- i op o: the reflected def of o's class answers -/
def rRefl (C : Addr) (sp : Sp) (E : XK) : R2 := fun x y H Q => ∃ i a dx fs, x = .int i ∧ y = .ref a ∧ H a = some (.ins C dx fs) ∧ sp [.ref a, .int i] H Q E
section
variable {X : Cx} {CX : CXT} {k : Nat} {sp : Sp} {E : XK} {C : Addr}
theorem op_refl {op : CmpOp} {id : String} {B : Builtin} (D : IntDec op id B) (c : CalO X.prog X.w X.K X.mg X.base CX k C (cmpInfo op).2.2 sp) (hsub : PySem.W.subIn X.K (.ref C) (.type "int") = some false) (hr : Room k X.A) (hx : Passes CX X E) : OpR X (compareOp op) (rRefl C sp E) := by
  intro pins s σ H x y v u Q I rx ry h
  obtain ⟨i, a, dx, fs, rfl, rfl, ha, q⟩ := h
  cases (show u = Value.ref a from ry)
  obtain ⟨t, rfl⟩ := (show ∃ t, v = Value.int i t from rx)
  obtain ⟨f, fd, F, hs, hf, hb⟩ := c.ex
  have go := run2 (y := .int i) (u := .int i t) F hb hx hr I ⟨t, rfl⟩ q
  obtain ⟨mA, J, _⟩ := ins_get I.hok ha
  obtain ⟨od, J, _⟩ := J.look
  obtain ⟨m, hF⟩ := I.fr
  have hk := I.ok.mod.kin.keeps hF.keep
  obtain ⟨_, _, _, hget, _⟩ := (show ObjOk X.prog X.w H s.heap a (.ins C dx fs) from I.hok a _ ha)
  rw [D.hop]
  have one : wpAny (model X.prog X.w) X.A (tryCompare (.ref a) (cmpInfo op).2.2 (.int i t)) (fun r s' => ∃ v, r = some v ∧ EP X pins σ Q v s') X.xe s := by
    unfold tryCompare
    refine wpAny_bind (PySem.W.ifBound_K hk J hs hf (wpAny_mono go (fun v s' hv => ?_) fun _ _ e => e))
    cases v <;> first | exact hv.elim | exact wpAny_pure ⟨_, rfl, hv⟩
  unfold richCompare
  have h1 : oneThing? op (.int i t) (.ref a) = none := rfl
  simp only [h1]
  refine wpAny_holding (wpAny_bind (wpAny_cRoomFor hr.units0 ?_))
  refine wpAny_bind (wpAny_typeOf (typeIs_int s i t) (wpAny_bind (J.type.here ?_)))
  have hne : (Value.type "int" != Value.ref C) = true := rfl
  rw [if_pos hne]
  refine wpAny_bind ((PySem.W.looks_subIn hk hsub).here ?_)
  simp only [Bool.false_eq_true, if_false, Bool.not_false, if_true]
  refine wpAny_bind (m := tryCompare (.int i t) _ (.ref a)) (wpAny_tryCompare_declines (typeIs_int s i t) D.slot (call_meets D.slot (typeIs_int s i t) D.entry (D.args _ _) (D.no i t a C dx) ⟨hget, rfl, ?_⟩))
  refine wpAny_bind (m := tryCompare (.ref a) _ (.int i t)) (wpAny_mono one (fun r s' z => ?_) fun _ _ e => e)
  obtain ⟨v, rfl, hq⟩ := z
  exact wpAny_pure hq
end
end Rv
/-! Own comparisons with values of any kind, in both orders. -/
namespace Rv
open PySem PySem.Spec PyProof.Rows L2
/-- a value of another kind: its type is no subclass of C's -/
structure OddV (K : PySem.W.Frag) (C : Addr) (H : Hp) (v : V) (T : String) : Prop where
  tb : TyB K H v T
  tx : TyX K H v (.type T)
  ki : PySem.W.kitOne K (.type T) (.ref C) = some false
  nf : PySem.W.notFirst K C (.type T) = true
  wh : Whole K H v
  ni : isI v = false
def rOwnX (K : PySem.W.Frag) (C : Addr) (sp : Sp) (E : XK) : R2 := fun x y H Q => ∃ a dx fs, x = .ref a ∧ H a = some (.ins C dx fs) ∧ (Snd C H y ∨ ∃ T, OddV K C H y T) ∧ sp [x, y] H Q E
def rCmpB (K : PySem.W.Frag) (C : Addr) (sp sp' : Sp) (E : XK) : R2 := fun x y H Q => rOwnX K C sp E x y H Q ∨ rRefl C sp' E x y H Q
section
variable {X : Cx} {CX : CXT} {k : Nat} {sp sp' : Sp} {E : XK} {C : Addr} {pins : List (Addr × Obj)} {σ : L2.St} {H : Hp} {s : Shared}
theorem looks_tyB {x : V} {u : Value} {T : String} (I : Inv X pins σ H s) (rx : RelV x u) (t : TyB X.K H x T) : PySem.W.Looks (model X.prog X.w) s.heap (typeOf u) (.type T) := by
  have ty := TyB.is I rx t
  cases t with
  | non => cases (show u = Value.none from rx); exact PySem.W.Looks.of_pure rfl
  | bl b => cases (show u = Value.bool b from rx); exact PySem.W.Looks.of_pure rfl
  | int i => obtain ⟨t, rfl⟩ := (show ∃ t, u = Value.int i t from rx); exact PySem.W.Looks.of_pure rfl
  | str y => obtain ⟨t, rfl⟩ := (show ∃ t, u = Value.str y t from rx); exact PySem.W.Looks.of_pure rfl
  | byt b => exact fun A Q E s' kp q => wpAny_typeOf (T := "bytes") (by
      cases u with
      | ref a =>
        obtain ⟨o, ho, hc⟩ := ty
        exact ⟨o, kp _ _ ho, hc⟩
      | _ => exact ty) q
  | lst h =>
    cases (show u = Value.ref _ from rx)
    obtain ⟨o, ho, hc⟩ := ty
    exact fun A Q E s' kp q => wpAny_typeOf (T := "list") ⟨o, kp _ _ ho, hc⟩ q
  | tup h =>
    cases (show u = Value.ref _ from rx)
    obtain ⟨o, ho, hc⟩ := ty
    exact fun A Q E s' kp q => wpAny_typeOf (T := "tuple") ⟨o, kp _ _ ho, hc⟩ q
  | dK h =>
    cases (show u = Value.ref _ from rx)
    obtain ⟨o, ho, hc⟩ := ty
    exact fun A Q E s' kp q => wpAny_typeOf (T := "dict") ⟨o, kp _ _ ho, hc⟩ q
theorem op_ownX {op : CmpOp} (hop : ∀ a b, compareOp op a b = richCompare op a b) (c : CalO X.prog X.w X.K X.mg X.base CX k C (cmpInfo op).2.1 sp) (oc : OpC X.K C) (hr : Room k X.A) (hx : Passes CX X E) : OpR X (compareOp op) (rOwnX X.K C sp E) := by
  intro pins s σ H x y v u Q I rx ry h
  obtain ⟨a, dx, fs, rfl, ha, sy, q⟩ := h
  rcases sy with sy | ⟨T, o⟩
  · exact op_ownC hop c oc hr hx pins s σ H _ _ v u Q I rx ry ⟨a, dx, fs, rfl, ha, sy, q⟩
  · cases (show v = Value.ref a from rx)
    obtain ⟨f, fd, F, hs, hf, hb⟩ := c.ex
    obtain ⟨mA, J, _⟩ := ins_get I.hok ha
    obtain ⟨od, J, _⟩ := J.look
    obtain ⟨m, hF⟩ := I.fr
    rw [hop]
    have go := run2 (y := y) (u := u) F hb hx hr I ry q
    exact PySem.W.cmp_K (op := op) (tb := .type T) hr.units0 hF I.ok.mod.kin J (looks_tyB I ry o.tb) o.nf hs hf go
theorem op_both {op : CmpOp} {id : String} {B : Builtin} (D : IntDec op id B) (c : CalO X.prog X.w X.K X.mg X.base CX k C (cmpInfo op).2.1 sp) (c' : CalO X.prog X.w X.K X.mg X.base CX k C (cmpInfo op).2.2 sp') (oc : OpC X.K C)
    (hsub : PySem.W.subIn X.K (.ref C) (.type "int") = some false) (hr : Room k X.A) (hx : Passes CX X E) : OpR X (compareOp op) (rCmpB X.K C sp sp' E) := by
  intro pins s σ H x y v u Q I rx ry h
  rcases h with h | h
  · exact op_ownX D.hop c oc hr hx pins s σ H x y v u Q I rx ry h
  · exact op_refl D c' hsub hr hx pins s σ H x y v u Q I rx ry h
end
section
variable {K : PySem.W.Frag} {H : Hp} {Q : VK} {C a dx : Addr} {fs : List (Str × V)} {sp sp' : Sp} {E : XK} {y : V} {i : Int}
theorem w_cbN {n d t b : Int} (ha : RatAt C H a t b) (hy : Num C H y n d) (q : sp [.ref a, y] H Q E) : rCmpB K C sp sp' E (.ref a) y H Q := by
  obtain ⟨_, dx, ha⟩ := ha
  rcases hy with ⟨rfl, _⟩ | ⟨p, rfl, _, dy, hp⟩
  · exact .inl ⟨a, dx, _, rfl, ha, .inl (.int n), q⟩
  · exact .inl ⟨a, dx, _, rfl, ha, .inl (.own hp), q⟩
theorem w_cbO {t b : Int} {T : String} (ha : RatAt C H a t b) (o : OddV K C H y T) (q : sp [.ref a, y] H Q E) : rCmpB K C sp sp' E (.ref a) y H Q := by
  obtain ⟨_, dx, ha⟩ := ha
  exact .inl ⟨a, dx, _, rfl, ha, .inr ⟨T, o⟩, q⟩
/-- the same with the number first -/
theorem w_cbR {n d t b : Int} (ha : RatAt C H a t b) (hy : Num C H y n d) (q1 : y = .int n → d = 1 → sp' [.ref a, y] H Q E) (q2 : ∀ p, y = .ref p → RatAt C H p n d → sp [y, .ref a] H Q E) : rCmpB K C sp sp' E y (.ref a) H Q := by
  obtain ⟨_, dx, ha⟩ := ha
  rcases hy with ⟨rfl, hd⟩ | ⟨p, rfl, hp⟩
  · exact .inr ⟨n, a, dx, _, rfl, rfl, ha, q1 rfl hd⟩
  · obtain ⟨_, dy, hp'⟩ := id hp
    exact .inl ⟨p, dy, _, rfl, hp', .inl (.own ha), q2 p rfl hp⟩
end
/-! lowest terms -/
theorem red_uniq {t b n d : Int} (g1 : Int.gcd t b = 1) (g2 : Int.gcd n d = 1) (pb : 0 < b) (pd : 0 < d) (e : t * d = n * b) : t = n ∧ b = d := by
  have e1 : t.natAbs * d.natAbs = n.natAbs * b.natAbs := by rw [← Int.natAbs_mul, ← Int.natAbs_mul, e]
  have c1 : Nat.Coprime b.natAbs t.natAbs := by
    have : Nat.gcd t.natAbs b.natAbs = 1 := g1
    exact (Nat.gcd_comm _ _).trans this
  have c2 : Nat.Coprime d.natAbs n.natAbs := by
    have : Nat.gcd n.natAbs d.natAbs = 1 := g2
    exact (Nat.gcd_comm _ _).trans this
  have d1 : b.natAbs ∣ d.natAbs := Nat.Coprime.dvd_of_dvd_mul_left c1 ⟨n.natAbs, by rw [e1, Nat.mul_comm]⟩
  have d2 : d.natAbs ∣ b.natAbs := Nat.Coprime.dvd_of_dvd_mul_left c2 ⟨t.natAbs, by rw [← e1, Nat.mul_comm]⟩
  have eq := Nat.dvd_antisymm d1 d2
  have ebd : b = d := by omega
  subst ebd
  exact ⟨Int.eq_of_mul_eq_mul_right (by omega) e, rfl⟩
/-- the sign of the gap of two fractions in lowest terms is that of the cross products -/
theorem gap_sign {t b n e a q c d : Int} (h1 : t * q = a * b) (h2 : n * d = c * e) (pb : 0 < b) (pe : 0 < e) (pq : 0 < q) (pd : 0 < d) : (t * e < n * b ↔ a * d < c * q) ∧ (t * e = n * b ↔ a * d = c * q) := by
  have k1 : (t * e) * (q * d) = (a * d) * (b * e) := by
    calc (t * e) * (q * d) = (t * q) * (e * d) := by ac_rfl
      _ = (a * d) * (b * e) := by rw [h1]; ac_rfl
  have k2 : (n * b) * (q * d) = (c * q) * (b * e) := by
    calc (n * b) * (q * d) = (n * d) * (b * q) := by ac_rfl
      _ = (c * q) * (b * e) := by rw [h2]; ac_rfl
  have p1 := Int.mul_pos pq pd
  have p2 := Int.mul_pos pb pe
  generalize q * d = m1 at k1 k2 p1
  generalize b * e = m2 at k1 k2 p2
  constructor
  · constructor
    · intro h
      have := Int.mul_lt_mul_of_pos_right h p1
      rw [k1, k2] at this
      exact Int.lt_of_mul_lt_mul_right this (by omega)
    · intro h
      have := Int.mul_lt_mul_of_pos_right h p2
      rw [← k1, ← k2] at this
      exact Int.lt_of_mul_lt_mul_right this (by omega)
  · constructor
    · intro h
      rw [h] at k1
      exact Int.eq_of_mul_eq_mul_right (by omega) (k1.symm.trans k2)
    · intro h
      rw [h] at k1
      exact Int.eq_of_mul_eq_mul_right (by omega) (k1.trans k2.symm)
end Rv
namespace Rv
open PySem PySem.Spec PyProof.Rows L2
abbrev cStrI : List V → Hp → VK → Prop := fun xs H Q => ∃ i : Int, xs = [.int i] ∧ i.natAbs.log2 < 1920 ∧ Q (.str (toString i)) H
def spLt : PySem.W.Frag → Addr → Sp := spCmp fun z => decide (z < 0)
def spGe : PySem.W.Frag → Addr → Sp := spCmp fun z => decide (0 ≤ z)
def spEqR (K : PySem.W.Frag) (C : Addr) : Sp := fun vs H Q _ => ∃ a v t b, vs = [.ref a, v] ∧ RCls K C ∧ RatAt C H a t b ∧ ((∃ n d, Num C H v n d ∧ Q (.bl (decide (t * d = n * b))) H) ∨ ∃ T, OddV K C H v T ∧ Q (.bl false) H)
def spNeR (K : PySem.W.Frag) (C : Addr) : Sp := fun vs H Q _ => ∃ a v t b, vs = [.ref a, v] ∧ RCls K C ∧ RatAt C H a t b ∧ ∃ n d, Num C H v n d ∧ Q (.bl (!decide (t * d = n * b))) H
def PoolAt (H : Hp) (d : Addr) : Prop := ∃ num seed : Int, H d = some (.lst [.int num, .int seed]) ∧ 0 ≤ num ∧ 0 ≤ seed ∧ seed < 2147483647
theorem PoolAt.same {H H' : Hp} {d : Addr} (h : PoolAt H d) (e : Same H H') : PoolAt H' d := by
  obtain ⟨num, seed, h1, h2⟩ := h
  exact ⟨num, seed, e _ _ h1, h2⟩
theorem PoolAt.nd {H : Hp} {d a : Addr} (h : PoolAt H d) (n : H a = none) : a ≠ d := by
  obtain ⟨num, seed, h1, h2⟩ := h
  intro e
  rw [e, h1] at n
  cases n
def spPool (K : PySem.W.Frag) : Sp := fun vs H Q _ => ∃ (a : Addr) (ns : List Int), ∃ k : Nat, vs = [.ref a, .int (k : Int)] ∧ SqL K H a (ns.map V.int) ∧ ns.length ≤ 63 ∧ k ≤ 20 ∧ ∀ p H', H p = none → Same H H' → PoolAt H' p → Q (.ref p) H'
def spTake (K : PySem.W.Frag) : Sp := fun vs H Q _ => ∃ (d : Addr) (many : Int), vs = [.ref d, .int many] ∧ PoolAt H d ∧ 0 < many ∧ many < 2 ^ 200 ∧ ∀ r H', 0 ≤ r → r < many → But d H H' → PoolAt H' d → Q (.int r) H'
def spLWhole (K : PySem.W.Frag) : Sp := fun vs H Q _ => ∃ d : Addr, vs = [.ref d] ∧ PoolAt H d ∧ ∀ r H', -1000000000000000 ≤ r → r ≤ 1000000000000000 → But d H H' → PoolAt H' d → Q (.int r) H'
def spRight (K : PySem.W.Frag) (C : Addr) : Sp := fun vs H Q _ => ∃ one v a b c d t b1 n e, vs = [.ref one, v, .int a, .int b, .int c, .int d] ∧ RCls K C ∧ RatAt C H one t b1 ∧ Num C H v n e ∧ t * b = a * b1 ∧ n * d = c * e ∧ 0 < b ∧ 0 < d ∧
  -1000000000000000000 < a ∧ a < 1000000000000000000 ∧ -1000000000000000000 < c ∧ c < 1000000000000000000 ∧ b < 1000000000000000000 ∧ d < 1000000000000000000 ∧ Sz 3000 t ∧ Sz 3000 b1 ∧ Sz 3000 n ∧ Sz 3000 e ∧ ∀ H', Same H H' → Q (.bl true) H'
structure OdC (K : PySem.W.Frag) (C : Addr) : Prop where
  ki : ∀ T, T ∈ ["NoneType", "bool", "str", "list", "tuple", "dict"] → PySem.W.kitOne K (.type T) (.ref C) = some false
  nf : ∀ T, T ∈ ["NoneType", "bool", "str", "list", "tuple", "dict"] → PySem.W.notFirst K C (.type T) = true
def odB (K : PySem.W.Frag) (x : Str) : Bool := ["NoneType", "bool", "str", "list", "tuple", "dict"].all fun T => decide (PySem.W.kitOne K (.type T) (.ref (He.ga K x)) = some false) && PySem.W.notFirst K (He.ga K x) (.type T)
theorem odc_of {K : PySem.W.Frag} {x : Str} (h : odB K x = true) : OdC K (He.ga K x) :=
  ⟨fun T hT => of_decide_eq_true (He.ba (List.all_eq_true.mp h T hT)).1, fun T hT => (He.ba (List.all_eq_true.mp h T hT)).2⟩
def suB (K : PySem.W.Frag) (x : Str) : Bool := decide (PySem.W.subIn K (.ref (He.ga K x)) (.type "int") = some false)
def spLaw03 (K : PySem.W.Frag) (C : Addr) : Sp := fun vs H Q _ => ∃ (a : Addr) (ns : List Int), vs = [.ref a] ∧ ns.length ≤ 63 ∧ SqL K H a (ns.map V.int) ∧ RCls K C ∧ OdC K C ∧ ∀ H', Q (.bl true) H'
def t_Ratio___eq__ (K : PySem.W.Frag) (C_Ratio : Addr) : TS :=
  (tSeq (tIfS (tB (tCB (rIsi K) (tCons (tVar 1) (tCons (tC (.ref C_Ratio)) tNil)))) (tRet (tAndV (tOp rEq (tFld K (tVar 0) "reduced_top") (tFld K (tVar 1) "reduced_top")) (tOp rEq (tFld K (tVar 0) "reduced_bottom") (tFld K (tVar 1) "reduced_bottom")))) tNext)
    (tRet (tAndV (tCall (spWhole K) [] E0 (tCons (tVar 1) tNil)) (tAndV (tOp rEq (tFld K (tVar 0) "reduced_bottom") (tC (.int 1))) (tOp rEq (tFld K (tVar 0) "reduced_top") (tVar 1))))))
def t_Ratio___ne__ (K : PySem.W.Frag) (C_Ratio : Addr) : TS :=
  (tRet (tNotV (tOp (rCmpB K C_Ratio (spEqR K C_Ratio) (spEqR K C_Ratio) E0) (tVar 0) (tVar 1))))
def t_Ratio___lt__ (K : PySem.W.Frag) (C_Ratio : Addr) : TS :=
  (tSeq (tAsg (tCall (spAsR K C_Ratio) [] E0 (tCons (tVar 1) tNil)) (gName 2))
    (tSeq (tIfS (tTest (tOp oIsN (tVar 2) (tC .non))) tNever tNext)
    (tRet (tOp oLt (tCall (spGap K C_Ratio) [] E0 (tCons (tVar 0) (tCons (tVar 2) tNil))) (tC (.int 0))))))
def t_Ratio___le__ (K : PySem.W.Frag) (C_Ratio : Addr) : TS :=
  (tSeq (tAsg (tCall (spAsR K C_Ratio) [] E0 (tCons (tVar 1) tNil)) (gName 2))
    (tSeq (tIfS (tTest (tOp oIsN (tVar 2) (tC .non))) tNever tNext)
    (tRet (tOp oLe (tCall (spGap K C_Ratio) [] E0 (tCons (tVar 0) (tCons (tVar 2) tNil))) (tC (.int 0))))))
def t_Ratio___ge__ (K : PySem.W.Frag) (C_Ratio : Addr) : TS :=
  (tSeq (tAsg (tCall (spAsR K C_Ratio) [] E0 (tCons (tVar 1) tNil)) (gName 2))
    (tSeq (tIfS (tTest (tOp oIsN (tVar 2) (tC .non))) tNever tNext)
    (tRet (tOp oGe (tCall (spGap K C_Ratio) [] E0 (tCons (tVar 0) (tCons (tVar 2) tNil))) (tC (.int 0))))))
def t__law_pool (K : PySem.W.Frag) : TS :=
  (tSeq (tAsg (tOp (rIxL K) (tOp rCat (tSl (rSlL K) (tVar 0) (tPart (tVar 1)) (tPart (tOp oAdd (tVar 1) (tC (.int 1))))) (tLst (tCons (tC (.int 0)) tNil))) (tC (.int 0))) (gName 2))
    (tSeq (tAsg (tIf (tTest (tOp oGe (tVar 2) (tC (.int 0)))) (tVar 2) (tOp oSub (tUn (rU fun i => .int (-i)) (tC (.int 1))) (tVar 2))) (gName 3))
    (tSeq (tAsg (tOp oMod (tOp oMul (tOp oAdd (tOp oAdd (tOp oAdd (tOp oMod (tVar 3) (tC (.int 2147483629))) (tOp oMul (tOp oMul (tC (.int 7919)) (tVar 1)) (tVar 1))) (tOp oMul (tC (.int 31)) (tVar 1))) (tC (.int 17))) (tC (.int 48271))) (tC (.int 2147483647))) (gName 4))
    (tRet (tLst (tCons (tOp oMul (tVar 3) (tCB cInt (tCons (tOp oGe (tVar 3) (tOp oPow (tC (.int 10)) (tC (.int 18)))) tNil))) (tCons (tOp oMod (tOp oMul (tVar 4) (tVar 4)) (tC (.int 2147483629))) tNil)))))))
def t__law_take (K : PySem.W.Frag) : TS :=
  (tSeq (tIfS (tTest (tOp oGt (tOp (rIxL K) (tVar 0) (tC (.int 0))) (tC (.int 0)))) (tSeq (tAsg (tOp oMod (tOp (rIxL K) (tVar 0) (tC (.int 0))) (tVar 1)) (gName 2))
    (tSeq (tAsg (tOp oDiv (tOp (rIxL K) (tVar 0) (tC (.int 0))) (tVar 1)) (gSub (tVar 0) (tC (.int 0)) rSetL))
    (tRet (tVar 2)))) tNext)
    (tSeq (tAsg (tOp oMod (tOp oAdd (tOp oMul (tOp (rIxL K) (tVar 0) (tC (.int 1))) (tC (.int 48271))) (tC (.int 12345))) (tC (.int 2147483647))) (gSub (tVar 0) (tC (.int 1)) rSetL))
    (tRet (tOp oMod (tOp oDiv (tOp oMod (tOp oMul (tOp (rIxL K) (tVar 0) (tC (.int 1))) (tOp (rIxL K) (tVar 0) (tC (.int 1)))) (tC (.int 2147483629))) (tC (.int 64))) (tVar 1)))))
def t__law_whole (K : PySem.W.Frag) : TS :=
  (tSeq (tAsg (tOp (rIxL K) (tLst (tCons (tC (.int 3)) (tCons (tC (.int 100)) (tCons (tOp oPow (tC (.int 10)) (tC (.int 15))) tNil)))) (tCall (spTake K) [] E0 (tCons (tVar 0) (tCons (tC (.int 3)) tNil)))) (gName 1))
    (tRet (tOp oMul (tCall (spTake K) [] E0 (tCons (tVar 0) (tCons (tVar 1) tNil))) (tOp (rIxL K) (tLst (tCons (tC (.int 1)) (tCons (tUn (rU fun i => .int (-i)) (tC (.int 1))) tNil))) (tCall (spTake K) [] E0 (tCons (tVar 0) (tCons (tC (.int 2)) tNil)))))))
def t__law_right (K : PySem.W.Frag) (C_Ratio : Addr) : TS :=
  (tSeq (tPar 6 7 (tCons (tOp oMul (tVar 2) (tVar 5)) (tCons (tOp oMul (tVar 4) (tVar 3)) tNil)))
    (tSeq (tAsg (tLst (tCons (tOp (rCmpB K C_Ratio (spLt K C_Ratio) (spGt K C_Ratio) E0) (tVar 0) (tVar 1)) (tCons (tOp (rCmpB K C_Ratio (spLe K C_Ratio) (spGe K C_Ratio) E0) (tVar 0) (tVar 1)) (tCons (tOp (rCmpB K C_Ratio (spGt K C_Ratio) (spLt K C_Ratio) E0) (tVar 0) (tVar 1)) (tCons (tOp (rCmpB K C_Ratio (spGe K C_Ratio) (spLe K C_Ratio) E0) (tVar 0) (tVar 1)) (tCons (tOp (rCmpB K C_Ratio (spEqR K C_Ratio) (spEqR K C_Ratio) E0) (tVar 0) (tVar 1)) (tCons (tOp (rCmpB K C_Ratio (spNeR K C_Ratio) (spNeR K C_Ratio) E0) (tVar 0) (tVar 1)) tNil))))))) (gName 8))
    (tSeq (tIfS (tTest (tOp (rNeD K) (tVar 8) (tLst (tCons (tOp oLt (tVar 6) (tVar 7)) (tCons (tOp oLe (tVar 6) (tVar 7)) (tCons (tOp oGt (tVar 6) (tVar 7)) (tCons (tOp oGe (tVar 6) (tVar 7)) (tCons (tOp rEq (tVar 6) (tVar 7)) (tCons (tOp rNe (tVar 6) (tVar 7)) tNil))))))))) (tRet (tC (.bl false))) tNext)
    (tSeq (tAsg (tLst (tCons (tOp (rCmpB K C_Ratio (spLt K C_Ratio) (spGt K C_Ratio) E0) (tVar 1) (tVar 0)) (tCons (tOp (rCmpB K C_Ratio (spLe K C_Ratio) (spGe K C_Ratio) E0) (tVar 1) (tVar 0)) (tCons (tOp (rCmpB K C_Ratio (spGt K C_Ratio) (spLt K C_Ratio) E0) (tVar 1) (tVar 0)) (tCons (tOp (rCmpB K C_Ratio (spGe K C_Ratio) (spLe K C_Ratio) E0) (tVar 1) (tVar 0)) (tCons (tOp (rCmpB K C_Ratio (spEqR K C_Ratio) (spEqR K C_Ratio) E0) (tVar 1) (tVar 0)) (tCons (tOp (rCmpB K C_Ratio (spNeR K C_Ratio) (spNeR K C_Ratio) E0) (tVar 1) (tVar 0)) tNil))))))) (gName 8))
    (tRet (tOp (rEqD K) (tVar 8) (tLst (tCons (tOp oGt (tVar 6) (tVar 7)) (tCons (tOp oGe (tVar 6) (tVar 7)) (tCons (tOp oLt (tVar 6) (tVar 7)) (tCons (tOp oLe (tVar 6) (tVar 7)) (tCons (tOp rEq (tVar 6) (tVar 7)) (tCons (tOp rNe (tVar 6) (tVar 7)) tNil)))))))))))))
def t_law03 (K : PySem.W.Frag) (C_Ratio : Addr) : TS :=
  (tSeq (tFor (iRng1 (tCons (tCB cMax2 (tCons (tC (.int 1)) (tCons (tCB cMin2 (tCons (tC (.int 20)) (tCons (tCB (cLen K) (tCons (tVar 0) tNil)) tNil))) tNil))) tNil)) (gName 1) (tSeq (tAsg (tCall (spPool K) [] E0 (tCons (tVar 0) (tCons (tVar 1) tNil))) (gName 2))
    (tSeq (tPar 3 4 (tCons (tCall (spLWhole K) [] E0 (tCons (tVar 2) tNil)) (tCons (tOp oAdd (tC (.int 1)) (tCall (spTake K) [] E0 (tCons (tVar 2) (tCons (tOp oPow (tC (.int 10)) (tC (.int 9))) tNil)))) tNil)))
    (tSeq (tPar 5 6 (tCons (tCall (spLWhole K) [] E0 (tCons (tVar 2) tNil)) (tCons (tOp oAdd (tC (.int 1)) (tCall (spTake K) [] E0 (tCons (tVar 2) (tCons (tC (.int 50)) tNil)))) tNil)))
    (tSeq (tAsg (tLst (tCons (tTup (tCons (tVar 5) (tCons (tVar 6) tNil))) (tCons (tTup (tCons (tOp oMul (tVar 3) (tVar 6)) (tCons (tOp oMul (tVar 4) (tVar 6)) tNil))) (tCons (tTup (tCons (tOp oAdd (tOp oMul (tVar 3) (tVar 6)) (tC (.int 1))) (tCons (tOp oMul (tVar 4) (tVar 6)) tNil))) (tCons (tTup (tCons (tOp oSub (tOp oMul (tVar 3) (tVar 6)) (tC (.int 1))) (tCons (tOp oMul (tVar 4) (tVar 6)) tNil))) (tCons (tTup (tCons (tOp oSub (tC (.int 0)) (tVar 3)) (tCons (tVar 4) tNil))) tNil)))))) (gName 7))
    (tSeq (tFor (iList K (tVar 7)) (gTup K 2 (gCons (gName 8) (gCons (gName 9) gNil))) (tIfS (tNot (tB (tCall (spRight K C_Ratio) [] E0 (tCons (tMake C_Ratio (spRInit K C_Ratio) [] E0 (tCons (tVar 3) (tCons (tVar 4) tNil))) (tCons (tMake C_Ratio (spRInit K C_Ratio) [] E0 (tCons (tVar 8) (tCons (tVar 9) tNil))) (tCons (tVar 3) (tCons (tVar 4) (tCons (tVar 8) (tCons (tVar 9) tNil))))))))) (tRet (tC (.bl false))) tNext))
    (tSeq (tFor (iList K (tLst (tCons (tVar 5) (tCons (tOp oDiv (tVar 3) (tVar 4)) (tCons (tOp oAdd (tOp oDiv (tVar 3) (tVar 4)) (tC (.int 1))) (tCons (tC (.int 0)) (tCons (tC (.int 1)) (tCons (tUn (rU fun i => .int (-i)) (tC (.int 1))) tNil)))))))) (gName 10) (tIfS (tNot (tB (tCall (spRight K C_Ratio) [] E0 (tCons (tMake C_Ratio (spRInit K C_Ratio) [] E0 (tCons (tVar 3) (tCons (tVar 4) tNil))) (tCons (tVar 10) (tCons (tVar 3) (tCons (tVar 4) (tCons (tVar 10) (tCons (tC (.int 1)) tNil))))))))) (tRet (tC (.bl false))) tNext))
    (tFor (iList K (tLst (tCons (tC .non) (tCons (tCB cStrI (tCons (tVar 3) tNil)) (tCons (tTup (tCons (tVar 3) (tCons (tVar 4) tNil))) (tCons (tLst (tCons (tVar 3) tNil)) (tCons (tC (.bl true)) (tCons (tC (.bl false)) (tCons tDNewK tNil))))))))) (gName 11) (tIfS (tOr (tTest (tOp (rCmpB K C_Ratio (spEqR K C_Ratio) (spEqR K C_Ratio) E0) (tMake C_Ratio (spRInit K C_Ratio) [] E0 (tCons (tVar 3) (tCons (tVar 4) tNil))) (tVar 11))) (tOr (tTest (tOp (rCmpB K C_Ratio (spEqR K C_Ratio) (spEqR K C_Ratio) E0) (tMake C_Ratio (spRInit K C_Ratio) [.int 1] E0 (tCons (tC (.int 1)) tNil)) (tVar 11))) (tTest (tOp (rCmpB K C_Ratio (spEqR K C_Ratio) (spEqR K C_Ratio) E0) (tMake C_Ratio (spRInit K C_Ratio) [.int 1] E0 (tCons (tC (.int 0)) tNil)) (tVar 11))))) (tRet (tC (.bl false))) tNext)))))))))
    (tRet (tAndV (tOp (rCmpB K C_Ratio (spEqR K C_Ratio) (spEqR K C_Ratio) E0) (tMake C_Ratio (spRInit K C_Ratio) [] E0 (tCons (tC (.int 4)) (tCons (tC (.int 2)) tNil))) (tC (.int 2))) (tAndV (tOp (rCmpB K C_Ratio (spEqR K C_Ratio) (spEqR K C_Ratio) E0) (tC (.int 2)) (tMake C_Ratio (spRInit K C_Ratio) [.int 1] E0 (tCons (tC (.int 2)) tNil))) (tNotV (tOp (rCmpB K C_Ratio (spEqR K C_Ratio) (spEqR K C_Ratio) E0) (tMake C_Ratio (spRInit K C_Ratio) [] E0 (tCons (tC (.int 1)) (tCons (tC (.int 2)) tNil))) (tMake C_Ratio (spRInit K C_Ratio) [] E0 (tCons (tC (.int 1)) (tCons (tC (.int 3)) tNil)))))))))
local macro_rules | `(tactic| walk_at "rv st") => `(tactic| first
  | with_reducible refine iteT ?_ | with_reducible refine iteF ?_ | with_reducible refine w_nx ?_ | with_reducible refine w_yes ?_ | with_reducible refine w_rt ?_ | with_reducible refine iteNT ?_ | with_reducible refine iteNF ?_ | with_reducible refine iteNRf ?_ | with_reducible refine iteRf ?_ | with_reducible refine w_seqA ?_ | with_reducible refine w_seqD ?_ | with_reducible refine w_seqP ?_ | with_reducible refine w_asg ?_ | with_reducible refine w_ret ?_ | with_reducible refine w_drop ?_ | with_reducible refine w_ifs ?_ | with_reducible refine w_next ?_ | with_reducible refine w_par ?_
  | with_reducible refine w_op ?_ | with_reducible refine w_un ?_ | ((with_reducible show tVar _ _ _ _); refine' w_var ?hv ?_; (case hv => exact rfl)) | with_reducible refine w_c ?_ | with_reducible refine w_test ?_ | with_reducible refine w_tB ?_
  | with_reducible refine w_bl ?_ | with_reducible refine w_I0 ?_ | with_reducible refine w_U ?_ | with_reducible refine w_eqI ?_ | with_reducible refine w_neI ?_
  | with_reducible refine w_cons ?_ | with_reducible refine w_nil ?_ | with_reducible refine w_gn ?_ | with_reducible refine w_gsub ?_ | with_reducible refine w_and ?_ | with_reducible refine w_or ?_ | with_reducible refine w_not ?_
  | with_reducible refine w_andV ?_ | with_reducible refine w_orV ?_ | with_reducible refine w_notV ?_ | with_reducible refine w_if ?_ | with_reducible refine w_cb ?_ | with_reducible refine w_call ?_ | with_reducible refine w_lst ?_ | with_reducible refine w_tup ?_
  | with_reducible refine w_sl ?_ | with_reducible refine w_noPart ?_ | with_reducible refine w_part ?_ | with_reducible refine w_ex1 ?_ | with_reducible refine w_exb ?_ | with_reducible refine w_intB ?_ | with_reducible refine w_intI ?_ | with_reducible refine w_abs ?_)
local macro_rules | `(tactic| walk_at "rv ix") => `(tactic| ((with_reducible show rIxL _ _ _ _ _); refine' w_ixL (sq_lst ?ha) ?hb ?_; (case ha => first | exact upd_same | assumption); (case hb => first | exact rfl | assumption)))
local macro_rules | `(tactic| walk_at "rv ar") => `(tactic| first
  | (refine' w_I ?hc ?_; (case hc => first | (show (0 : Int) < _; first | assumption | decide | omega) | exact pow_c (by decide) (by decide) (by first | decide | omega) (by first | decide | omega) | exact mul_r (by first | decide | omega) (by first | decide | omega) | exact mul_l (by first | decide | omega) (by first | decide | omega) | exact divw (by first | assumption | decide | omega) (by first | assumption | decide | omega))))
local macro_rules | `(tactic| walk_at "rv go") => `(tactic| repeat first | walk_at "rv st" | walk_at "rv ix" | ((with_reducible show rI _ _ _ _ _ _); walk_at "rv ar"))
theorem prod_bd {z x : Int} {A B M : Nat} (h : z.natAbs ≤ A) (g : x.natAbs ≤ B) (e : A * B ≤ M := by decide) : (z * x).natAbs ≤ M := by
  rw [Int.natAbs_mul]
  exact Nat.le_trans (Nat.mul_le_mul h g) e
theorem w_ifM {σ : L2.St} {H : Hp} {Q : VK} {c : TT} {ta tb : TE} {P : Int → Prop} (fin : ∀ z, P z → Q (.int z) H) (h : ∀ Q' : VK, (∀ z, P z → Q' (.int z) H) → tIf c ta tb σ H Q') : tIf c ta tb σ H Q := h Q fin
theorem p_pool {K : PySem.W.Frag} {vs : List V} {H : Hp} {Q : VK} {E : XK} (h : spPool K vs H Q E) : t__law_pool K { nx := fun _ H' => Q .non H', rt := Q } (start ["_law_script", "_law_k", "_law_cell", "_law_number", "_law_mixed"] vs) H := by
  obtain ⟨a, ns, k, rfl, hS, hl, hk, q⟩ := h
  unfold t__law_pool
  walk_at "rv go"
  refine w_slL hS fun p np => ?_
  obtain ⟨ms, em⟩ := cut_map ns (some (k : Int)) (some ((k : Int) + 1))
  have lm : ms.length ≤ 63 := by
    have q1 := cutV_length (ns.map V.int) (some (k : Int)) (some ((k : Int) + 1))
    rw [em, List.length_map, List.length_map] at q1
    omega
  rw [em]
  walk_at "rv go"
  refine ⟨szl (by show 1 ≤ 100000; decide), fun p2 n2 => ?_⟩
  have h1 := same_new (o := .lst [.int 0]) (Same.refl _) n2 _ _ (upd_same (H := H) (a := p) (o := .lst (ms.map V.int)))
  refine ⟨p, p2, _, _, rfl, rfl, h1, upd_same, szl (by rw [List.length_map]; show ms.length + 1 ≤ 100000; omega), fun p3 n3 => ?_⟩
  have e3 := same_new (o := .lst (ms.map V.int ++ [.int 0])) (same_new (o := .lst [.int 0]) (same_new (o := .lst (ms.map V.int)) (Same.refl H) np) n2) n3
  walk_at "rv go"
  have hy : ∃ y : Int, atI (ms.map V.int ++ [.int 0]) 0 = some (.int y) := by
    cases ms with
    | nil => exact ⟨0, rfl⟩
    | cons m r => exact ⟨m, at_nat (xs := List.map V.int (m :: r) ++ [.int 0]) (j := 0) rfl⟩
  obtain ⟨y, hy⟩ := hy
  refine w_ixL (sq_lst upd_same) hy ?_
  generalize upd (upd (upd H p (.lst (ms.map V.int))) p2 (.lst [.int 0])) p3 (.lst (ms.map V.int ++ [.int 0])) = G at e3 ⊢
  refine w_gn ?_
  refine w_seqA ?_
  refine w_ifM (P := fun z => 0 ≤ z) (fun z hz => ?_) (fun Q' fin => ?_)
  · walk_at "rv go"
    have m1 : 0 ≤ (z % 2147483629 + 7919 * (k : Int) * (k : Int) + 31 * (k : Int) + 17) * 48271 % 2147483647 := Int.emod_nonneg _ (by decide)
    have m2 : (z % 2147483629 + 7919 * (k : Int) * (k : Int) + 31 * (k : Int) + 17) * 48271 % 2147483647 < 2147483647 := Int.emod_lt_of_pos _ (by decide)
    generalize (z % 2147483629 + 7919 * (k : Int) * (k : Int) + 31 * (k : Int) + 17) * 48271 % 2147483647 = mx at m1 m2 ⊢
    have hb : ∀ w : Bool, (if w = true then (1 : Int) else 0) = 0 ∨ (if w = true then (1 : Int) else 0) = 1 := fun w => by cases w <;> simp
    have hb1 := hb (decide ((10 : Int) ^ Int.toNat 18 ≤ z))
    generalize (if decide ((10 : Int) ^ Int.toNat 18 ≤ z) = true then (1 : Int) else 0) = u at hb1 ⊢
    refine ⟨szl (by show 2 ≤ 100000; decide), fun r nr => ?_⟩
    refine q r _ ?_ (same_new e3 nr) ⟨_, _, upd_same, ?_, Int.emod_nonneg _ (by decide), Int.lt_of_lt_of_le (Int.emod_lt_of_pos _ (by decide)) (by decide)⟩
    · cases z : H r with
      | none => rfl
      | some o =>
        rw [e3 _ _ z] at nr
        cases nr
    · rcases hb1 with h | h
      · rw [h, Int.mul_zero]
        exact Int.le_refl _
      · rw [h, Int.mul_one]
        exact hz
  · refine w_if ?_
    walk_at "rv go"
    refine w_both (fun c => ?_) (fun c => ?_)
    · walk_at "rv go"
      exact fin _ c
    · walk_at "rv go"
      exact fin _ (by omega)
theorem take_call {K : PySem.W.Frag} {H : Hp} {Q : VK} {E : XK} {d : Addr} {many : Int} (h : PoolAt H d) (h1 : 0 < many) (h2 : many < 2 ^ 200) (k : ∀ r H', 0 ≤ r → r < many → But d H H' → PoolAt H' d → Q (.int r) H') :
    spTake K ([.ref d, .int many] ++ []) H Q E := ⟨d, many, rfl, h, h1, h2, k⟩
theorem p_take {K : PySem.W.Frag} {vs : List V} {H : Hp} {Q : VK} {E : XK} (h : spTake K vs H Q E) : t__law_take K { nx := fun _ H' => Q .non H', rt := Q } (start ["_law_pool_here", "_law_many", "_law_digit"] vs) H := by
  obtain ⟨d, many, rfl, ⟨num, seed, hd, hn, hs, hs2⟩, hm, hm2, k⟩ := h
  unfold t__law_take
  refine w_seq ?_
  walk_at "rv go"
  refine w_both (fun c => ?_) (fun c => ?_)
  · walk_at "rv go"
    refine w_setL hd rfl ?_
    walk_at "rv go"
    exact k _ _ (Int.emod_nonneg _ (by omega)) (Int.emod_lt_of_pos _ hm) (But.refl d H).wr ⟨num / many, seed, upd_same, Int.ediv_nonneg hn (by omega), hs, hs2⟩
  · walk_at "rv go"
    have s1 : 0 ≤ (seed * 48271 + 12345) % 2147483647 := Int.emod_nonneg _ (by decide)
    have s2 : (seed * 48271 + 12345) % 2147483647 < 2147483647 := Int.emod_lt_of_pos _ (by decide)
    refine w_setL hd rfl ?_
    generalize (seed * 48271 + 12345) % 2147483647 = sd at s1 s2 ⊢
    walk_at "rv go"
    exact k _ _ (Int.emod_nonneg _ (by omega)) (Int.emod_lt_of_pos _ hm) (But.refl d H).wr ⟨num, sd, upd_same, hn, s1, s2⟩
theorem p_lwhole {K : PySem.W.Frag} {vs : List V} {H : Hp} {Q : VK} {E : XK} (h : spLWhole K vs H Q E) : t__law_whole K { nx := fun _ H' => Q .non H', rt := Q } (start ["_law_pool_here", "_law_size"] vs) H := by
  obtain ⟨d, rfl, hD, k⟩ := h
  unfold t__law_whole
  walk_at "rv go"
  refine ⟨szl (by decide), fun p1 n1 => ?_⟩
  have n1d : p1 ≠ d := hD.nd n1
  walk_at "rv go"
  refine take_call (hD.same (same_new (Same.refl H) n1)) (by decide) (by decide) fun r1 H1 r1a r1b e1 D1 => ?_
  have l1 : H1 p1 = some (.lst [.int 3, .int 100, .int (10 ^ Int.toNat 15)]) := e1 _ _ n1d upd_same
  have hz : ∃ z : Int, 0 < z ∧ z ≤ 1000000000000000 ∧ atI [V.int 3, V.int 100, V.int (10 ^ Int.toNat 15)] r1 = some (.int z) := by
    have c : r1 = 0 ∨ r1 = 1 ∨ r1 = 2 := by omega
    rcases c with rfl | rfl | rfl
    · exact ⟨3, by decide, by decide, rfl⟩
    · exact ⟨100, by decide, by decide, rfl⟩
    · exact ⟨10 ^ Int.toNat 15, by decide, by decide, rfl⟩
  obtain ⟨z, z0, z1, ez⟩ := hz
  refine w_ixL (sq_lst l1) ez ?_
  walk_at "rv go"
  refine take_call D1 z0 (Int.lt_of_le_of_lt z1 (by decide)) fun r2 H2 r2a r2b e2 D2 => ?_
  walk_at "rv go"
  refine ⟨szl (by decide), fun p2 n2 => ?_⟩
  have n2d : p2 ≠ d := D2.nd n2
  walk_at "rv go"
  refine take_call (D2.same (same_new (Same.refl H2) n2)) (by decide) (by decide) fun r3 H3 r3a r3b e3 D3 => ?_
  have hw : ∃ w : Int, (w = 1 ∨ w = -1) ∧ atI [V.int 1, V.int (-1)] r3 = some (.int w) := by
    have c : r3 = 0 ∨ r3 = 1 := by omega
    rcases c with rfl | rfl
    · exact ⟨1, .inl rfl, rfl⟩
    · exact ⟨-1, .inr rfl, rfl⟩
  obtain ⟨w, w1, ew⟩ := hw
  refine w_ixL (sq_lst (e3 _ _ n2d upd_same)) ew ?_
  refine w_I (j := w) (mul_r (by omega) (by omega)) ?_
  have b : But d H H3 := ((((But.refl d H).new n1).trans e1).trans e2).trans (((But.refl d H2).new n2).trans e3)
  rcases w1 with rfl | rfl
  · exact k _ _ (by omega) (by omega) b D3
  · exact k _ _ (by omega) (by omega) b D3
theorem p_lt {K : PySem.W.Frag} {C : Addr} {vs : List V} {H : Hp} {Q : VK} {E : XK} (h : spLt K C vs H Q E) : t_Ratio___lt__ K C { nx := fun _ H' => Q .non H', rt := Q } (start ["self", "other", "right"] vs) H := by
  obtain ⟨a, v, t, b, n, d, rfl, R, ha, hv, s1, s2, s3, s4, k⟩ := h
  unfold t_Ratio___lt__
  walk_at "rv go"
  refine ⟨v, n, d, rfl, R, hv, fun q H1 e hq => ?_⟩
  walk_at "rv go"
  refine w_seq ?_
  walk_at "rv go"
  refine ⟨rfl, ?_⟩
  rw [decide_eq_false (show ¬ V.ref q = V.non from fun z => nomatch z)]
  walk_at "rv go"
  refine ⟨a, q, t, b, n, d, rfl, R, ha.same e, hq, s1.mono (by decide), s2.mono (by decide), s3.mono (by decide), s4.mono (by decide), ?_⟩
  walk_at "rv go"
  exact k H1 e
theorem p_le {K : PySem.W.Frag} {C : Addr} {vs : List V} {H : Hp} {Q : VK} {E : XK} (h : spLe K C vs H Q E) : t_Ratio___le__ K C { nx := fun _ H' => Q .non H', rt := Q } (start ["self", "other", "right"] vs) H := by
  obtain ⟨a, v, t, b, n, d, rfl, R, ha, hv, s1, s2, s3, s4, k⟩ := h
  unfold t_Ratio___le__
  walk_at "rv go"
  refine ⟨v, n, d, rfl, R, hv, fun q H1 e hq => ?_⟩
  walk_at "rv go"
  refine w_seq ?_
  walk_at "rv go"
  refine ⟨rfl, ?_⟩
  rw [decide_eq_false (show ¬ V.ref q = V.non from fun z => nomatch z)]
  walk_at "rv go"
  refine ⟨a, q, t, b, n, d, rfl, R, ha.same e, hq, s1.mono (by decide), s2.mono (by decide), s3.mono (by decide), s4.mono (by decide), ?_⟩
  walk_at "rv go"
  exact k H1 e
theorem p_ge {K : PySem.W.Frag} {C : Addr} {vs : List V} {H : Hp} {Q : VK} {E : XK} (h : spGe K C vs H Q E) : t_Ratio___ge__ K C { nx := fun _ H' => Q .non H', rt := Q } (start ["self", "other", "right"] vs) H := by
  obtain ⟨a, v, t, b, n, d, rfl, R, ha, hv, s1, s2, s3, s4, k⟩ := h
  unfold t_Ratio___ge__
  walk_at "rv go"
  refine ⟨v, n, d, rfl, R, hv, fun q H1 e hq => ?_⟩
  walk_at "rv go"
  refine w_seq ?_
  walk_at "rv go"
  refine ⟨rfl, ?_⟩
  rw [decide_eq_false (show ¬ V.ref q = V.non from fun z => nomatch z)]
  walk_at "rv go"
  refine ⟨a, q, t, b, n, d, rfl, R, ha.same e, hq, s1.mono (by decide), s2.mono (by decide), s3.mono (by decide), s4.mono (by decide), ?_⟩
  walk_at "rv go"
  exact k H1 e
theorem p_eqR {K : PySem.W.Frag} {C : Addr} {vs : List V} {H : Hp} {Q : VK} {E : XK} (h : spEqR K C vs H Q E) : t_Ratio___eq__ K C { nx := fun _ H' => Q .non H', rt := Q } (start ["self", "other"] vs) H := by
  obtain ⟨a, v, t, b, rfl, R, ⟨⟨pb, g1⟩, dx, ha⟩, hv⟩ := h
  unfold t_Ratio___eq__
  refine w_seq ?_
  walk_at "rv go"
  rcases hv with ⟨n, d, ⟨rfl, rfl⟩ | ⟨p, rfl, ⟨pd, g2⟩, dy, hp⟩, k⟩ | ⟨T, o, k⟩
  · -- an int
    refine isi_of (.own C) (.base (.int n)) R.ki ?_
    walk_at "rv go"
    refine whole_call ?_
    walk_at "rv go"
    refine w_fld rfl ha R.cl R.nB (rfl2_b _ _) ?_
    walk_at "rv go"
    refine w_both (fun c => ?_) (fun c => ?_)
    · subst c
      walk_at "rv go"
      refine w_fld rfl ha R.cl R.nT (rfl2_t _ _) ?_
      walk_at "rv go"
      rw [Int.mul_one, Int.mul_one] at k
      exact k
    · have e : decide (t * 1 = n * b) = false := decide_eq_false fun z => c (red_uniq (d := 1) g1 (by rw [Int.gcd_one]) pb (by decide) z).2
      rw [e] at k
      exact k
  · refine isi_of (.own C) (.base (.ins hp R.cl R.cA R.cG R.cT R.cM)) kit_self ?_
    walk_at "rv go"
    refine w_fld rfl ha R.cl R.nT (rfl2_t _ _) ?_
    refine w_fld rfl hp R.cl R.nT (rfl2_t _ _) ?_
    walk_at "rv go"
    refine w_both (fun c => ?_) (fun c => ?_)
    · walk_at "rv go"
      refine w_fld rfl ha R.cl R.nB (rfl2_b _ _) ?_
      refine w_fld rfl hp R.cl R.nB (rfl2_b _ _) ?_
      walk_at "rv go"
      by_cases c2 : b = d
      · rw [decide_eq_true c2]
        rw [decide_eq_true (by rw [c, c2])] at k
        exact k
      · rw [decide_eq_false c2]
        rw [decide_eq_false fun z => c2 (red_uniq g1 g2 pb pd z).2] at k
        exact k
    · rw [decide_eq_false fun z => c (red_uniq g1 g2 pb pd z).1] at k
      exact k
  · refine isi_of (.own C) o.tx o.ki ?_
    walk_at "rv go"
    refine ⟨v, rfl, o.wh, ?_⟩
    walk_at "rv go"
    rw [o.ni]
    walk_at "rv go"
    exact k
theorem p_neR {K : PySem.W.Frag} {C : Addr} {vs : List V} {H : Hp} {Q : VK} {E : XK} (h : spNeR K C vs H Q E) : t_Ratio___ne__ K C { nx := fun _ H' => Q .non H', rt := Q } (start ["self", "other"] vs) H := by
  obtain ⟨a, v, t, b, rfl, R, ha, n, d, hv, k⟩ := h
  unfold t_Ratio___ne__
  walk_at "rv go"
  refine w_cbN ha hv ?_
  refine ⟨a, v, t, b, rfl, R, ha, .inl ⟨n, d, hv, ?_⟩⟩
  walk_at "rv go"
  exact k
section
variable {K : PySem.W.Frag} {H : Hp} {Q : VK} {C a : Addr} {E : XK} {y : V} {t b n d : Int} {f g : Int → Bool} {sp' : Sp}
theorem cmpL (R : RCls K C) (ha : RatAt C H a t b) (hy : Num C H y n d) (s1 : Sz 3000 t) (s2 : Sz 3000 b) (s3 : Sz 3000 n) (s4 : Sz 3000 d) (k : ∀ H', Same H H' → Q (.bl (f (t * d - n * b))) H') : rCmpB K C (spCmp f K C) sp' E (.ref a) y H Q :=
  w_cbN ha hy ⟨a, y, t, b, n, d, rfl, R, ha, hy, s1, s2, s3, s4, k⟩
theorem cmpR (R : RCls K C) (ha : RatAt C H a t b) (hy : Num C H y n d) (s1 : Sz 3000 t) (s2 : Sz 3000 b) (s3 : Sz 3000 n) (s4 : Sz 3000 d) (e : f (n * b - t * d) = g (t * d - n * b)) (k : ∀ H', Same H H' → Q (.bl (g (t * d - n * b))) H') : rCmpB K C (spCmp f K C) (spCmp g K C) E y (.ref a) H Q :=
  w_cbR ha hy (fun _ _ => ⟨a, y, t, b, n, d, rfl, R, ha, hy, s1, s2, s3, s4, k⟩) fun p hyp hp => by
    subst hyp
    refine ⟨p, .ref a, n, d, t, b, rfl, R, hp, .inr ⟨a, rfl, ha⟩, s3, s4, s1, s2, fun H' e' => ?_⟩
    rw [e]
    exact k H' e'
theorem cmpE (R : RCls K C) (ha : RatAt C H a t b) (hy : Num C H y n d) (k : Q (.bl (decide (t * d = n * b))) H) : rCmpB K C (spEqR K C) sp' E (.ref a) y H Q :=
  w_cbN ha hy ⟨a, y, t, b, rfl, R, ha, .inl ⟨n, d, hy, k⟩⟩
theorem cmpER (R : RCls K C) (ha : RatAt C H a t b) (hy : Num C H y n d) (k : Q (.bl (decide (t * d = n * b))) H) : rCmpB K C (spEqR K C) (spEqR K C) E y (.ref a) H Q :=
  w_cbR ha hy (fun _ _ => ⟨a, y, t, b, rfl, R, ha, .inl ⟨n, d, hy, k⟩⟩) fun p hyp hp => by
    subst hyp
    refine ⟨p, .ref a, n, d, rfl, R, hp, .inl ⟨t, b, .inr ⟨a, rfl, ha⟩, ?_⟩⟩
    have e : decide (n * b = t * d) = decide (t * d = n * b) := decide_eq_decide.mpr ⟨Eq.symm, Eq.symm⟩
    rw [e]
    exact k
theorem cmpN (R : RCls K C) (ha : RatAt C H a t b) (hy : Num C H y n d) (k : Q (.bl (!decide (t * d = n * b))) H) : rCmpB K C (spNeR K C) sp' E (.ref a) y H Q :=
  w_cbN ha hy ⟨a, y, t, b, rfl, R, ha, n, d, hy, k⟩
theorem cmpNR (R : RCls K C) (ha : RatAt C H a t b) (hy : Num C H y n d) (k : Q (.bl (!decide (t * d = n * b))) H) : rCmpB K C (spNeR K C) (spNeR K C) E y (.ref a) H Q :=
  w_cbR ha hy (fun _ _ => ⟨a, y, t, b, rfl, R, ha, n, d, hy, k⟩) fun p hyp hp => by
    subst hyp
    refine ⟨p, .ref a, n, d, rfl, R, hp, t, b, .inr ⟨a, rfl, ha⟩, ?_⟩
    have e : decide (n * b = t * d) = decide (t * d = n * b) := decide_eq_decide.mpr ⟨Eq.symm, Eq.symm⟩
    rw [e]
    exact k
theorem cmpO {T : String} (R : RCls K C) (ha : RatAt C H a t b) (o : OddV K C H y T) (k : Q (.bl false) H) : rCmpB K C (spEqR K C) sp' E (.ref a) y H Q :=
  w_cbO ha o ⟨a, y, t, b, rfl, R, ha, .inr ⟨T, o, k⟩⟩
end
theorem dp_bools {K : PySem.W.Frag} {H : Hp} : ∀ bs : List Bool, DpAll K H (bs.map V.bl) (bs.map PyData.bool)
  | [] => .nil
  | b :: r => .cons (.bl b) (dp_bools r)
theorem lay_bools : ∀ bs : List Bool, PyData.canLayAll0 (bs.map PyData.bool) = true ∧ PyData.depthAll (bs.map PyData.bool) = 0
  | [] => ⟨by simp [PyData.canLayAll0], by simp [PyData.depthAll]⟩
  | b :: r => by
    have h := lay_bools r
    exact ⟨by simp [PyData.canLayAll0, PyData.canLay0, h.1], by simp [PyData.depthAll, PyData.depth, h.2]⟩
theorem shL_bools (bs : List Bool) : SeqAt.shaped (.list (bs.map PyData.bool)) = true := by
  have h := lay_bools bs
  simp [SeqAt.shaped, PyData.canLay0, PyData.depth, h.1, h.2]
theorem eqB_ok {K : PySem.W.Frag} {H : Hp} {Q : VK} {a b : Addr} {bs : List Bool} (h1 : SqL K H a (bs.map V.bl)) (h2 : SqL K H b (bs.map V.bl)) (q : Q (.bl true) H) : rEqD K (.ref a) (.ref b) H Q := by
  refine ⟨.list (bs.map PyData.bool), .list (bs.map PyData.bool), .lst h1 (dp_bools bs), .lst h2 (dp_bools bs), shL_bools bs, shL_bools bs, ?_⟩
  rw [SeqAt.eqv_refl _ (SeqAt.canLay_of_shaped (shL_bools bs))]
  exact q
theorem neB_ok {K : PySem.W.Frag} {H : Hp} {Q : VK} {a b : Addr} {bs : List Bool} (h1 : SqL K H a (bs.map V.bl)) (h2 : SqL K H b (bs.map V.bl)) (q : Q (.bl false) H) : rNeD K (.ref a) (.ref b) H Q := by
  refine ⟨.list (bs.map PyData.bool), .list (bs.map PyData.bool), .lst h1 (dp_bools bs), .lst h2 (dp_bools bs), shL_bools bs, shL_bools bs, ?_⟩
  rw [SeqAt.eqv_refl _ (SeqAt.canLay_of_shaped (shL_bools bs))]
  exact q
theorem p_right {K : PySem.W.Frag} {C : Addr} {vs : List V} {H : Hp} {Q : VK} {E : XK} (h : spRight K C vs H Q E) : t__law_right K C { nx := fun _ H' => Q .non H', rt := Q } (start ["_law_one", "_law_other", "_law_a", "_law_b", "_law_c", "_law_d", "_law_left", "_law_right_here", "_law_found"] vs) H := by
  obtain ⟨one, v, a, b, c, d, t, b1, n, e, rfl, R, ho, hv, r1, r2, pb, pd, a1, a2, c1, c2, b2, d2, s1, s2, s3, s4, k⟩ := h
  obtain ⟨gs1, gs2⟩ := gap_sign r1 r2 ho.1.1 hv.pos pb pd
  have z1 : decide (t * e - n * b1 < 0) = decide (a * d < c * b) := decide_eq_decide.mpr ⟨fun h => gs1.mp (by omega), fun h => by have := gs1.mpr h; omega⟩
  have z2 : decide (t * e - n * b1 ≤ 0) = decide (a * d ≤ c * b) := decide_eq_decide.mpr ⟨fun h => by
    by_cases x : t * e = n * b1
    · have := gs2.mp x
      omega
    · have := gs1.mp (by omega)
      omega, fun h => by
    by_cases x : a * d = c * b
    · have := gs2.mpr x
      omega
    · have := gs1.mpr (by omega)
      omega⟩
  have z3 : decide (0 < t * e - n * b1) = decide (c * b < a * d) := by
    have q : decide (0 < t * e - n * b1) = !decide (t * e - n * b1 ≤ 0) := by
      by_cases x : t * e - n * b1 ≤ 0
      · rw [decide_eq_true x, decide_eq_false (by omega)]
        rfl
      · rw [decide_eq_false x, decide_eq_true (by omega)]
        rfl
    rw [q, z2]
    by_cases x : a * d ≤ c * b
    · rw [decide_eq_true x, decide_eq_false (by omega)]
      rfl
    · rw [decide_eq_false x, decide_eq_true (by omega)]
      rfl
  have z4 : decide (0 ≤ t * e - n * b1) = decide (c * b ≤ a * d) := by
    have q : decide (0 ≤ t * e - n * b1) = !decide (t * e - n * b1 < 0) := by
      by_cases x : t * e - n * b1 < 0
      · rw [decide_eq_true x, decide_eq_false (by omega)]
        rfl
      · rw [decide_eq_false x, decide_eq_true (by omega)]
        rfl
    rw [q, z1]
    by_cases x : a * d < c * b
    · rw [decide_eq_true x, decide_eq_false (by omega)]
      rfl
    · rw [decide_eq_false x, decide_eq_true (by omega)]
      rfl
  have z5 : decide (t * e = n * b1) = decide (a * d = c * b) := decide_eq_decide.mpr gs2
  unfold t__law_right
  walk_at "rv go"
  refine ⟨_, _, rfl, ?_⟩
  refine w_seqA ?_
  refine w_lst ?_
  walk_at "rv go"
  refine cmpL R ho hv s1 s2 s3 s4 fun H1 e1 => ?_
  walk_at "rv go"
  refine cmpL R (ho.same e1) (hv.same e1) s1 s2 s3 s4 fun H2 e2' => ?_
  have e2 := e1.trans e2'
  walk_at "rv go"
  refine cmpL R (ho.same e2) (hv.same e2) s1 s2 s3 s4 fun H3 e3' => ?_
  have e3 := e2.trans e3'
  walk_at "rv go"
  refine cmpL R (ho.same e3) (hv.same e3) s1 s2 s3 s4 fun H4 e4' => ?_
  have e4 := e3.trans e4'
  walk_at "rv go"
  refine cmpE R (ho.same e4) (hv.same e4) ?_
  walk_at "rv go"
  refine cmpN R (ho.same e4) (hv.same e4) ?_
  walk_at "rv go"
  rw [z1, z2, z3, z4, z5]
  refine ⟨szl (by show 6 ≤ 100000; decide), fun p np => ?_⟩
  have e5 := same_new (o := .lst [.bl (decide (a * d < c * b)), .bl (decide (a * d ≤ c * b)), .bl (decide (c * b < a * d)), .bl (decide (c * b ≤ a * d)), .bl (decide (a * d = c * b)), .bl (!decide (a * d = c * b))]) e4 np
  have k5 : (upd H4 p (.lst [.bl (decide (a * d < c * b)), .bl (decide (a * d ≤ c * b)), .bl (decide (c * b < a * d)), .bl (decide (c * b ≤ a * d)), .bl (decide (a * d = c * b)), .bl (!decide (a * d = c * b))])) p = some (.lst ([decide (a * d < c * b), decide (a * d ≤ c * b), decide (c * b < a * d), decide (c * b ≤ a * d), decide (a * d = c * b), !decide (a * d = c * b)].map V.bl)) := upd_same
  generalize upd H4 p (.lst [.bl (decide (a * d < c * b)), .bl (decide (a * d ≤ c * b)), .bl (decide (c * b < a * d)), .bl (decide (c * b ≤ a * d)), .bl (decide (a * d = c * b)), .bl (!decide (a * d = c * b))]) = H5 at e5 k5 ⊢
  walk_at "rv go"
  refine w_seq ?_
  walk_at "rv go"
  refine ⟨szl (by show 6 ≤ 100000; decide), fun p2 np2 => ?_⟩
  refine neB_ok (bs := [decide (a * d < c * b), decide (a * d ≤ c * b), decide (c * b < a * d), decide (c * b ≤ a * d), decide (a * d = c * b), !decide (a * d = c * b)]) (sq_lst (same_new (Same.refl H5) np2 _ _ k5)) (sq_lst upd_same) ?_
  have e6 := same_new (o := .lst [.bl (decide (a * d < c * b)), .bl (decide (a * d ≤ c * b)), .bl (decide (c * b < a * d)), .bl (decide (c * b ≤ a * d)), .bl (decide (a * d = c * b)), .bl (!decide (a * d = c * b))]) e5 np2
  generalize upd H5 p2 (.lst [.bl (decide (a * d < c * b)), .bl (decide (a * d ≤ c * b)), .bl (decide (c * b < a * d)), .bl (decide (c * b ≤ a * d)), .bl (decide (a * d = c * b)), .bl (!decide (a * d = c * b))]) = H6 at e6 ⊢
  walk_at "rv go"
  have m1 : n * b1 - t * e = -(t * e - n * b1) := by omega
  refine cmpR R (ho.same e6) (hv.same e6) s1 s2 s3 s4 (by rw [m1]; exact decide_eq_decide.mpr ⟨fun h => by omega, fun h => by omega⟩) fun H7 e7' => ?_
  have e7 := e6.trans e7'
  walk_at "rv go"
  refine cmpR R (ho.same e7) (hv.same e7) s1 s2 s3 s4 (by rw [m1]; exact decide_eq_decide.mpr ⟨fun h => by omega, fun h => by omega⟩) fun H8 e8' => ?_
  have e8 := e7.trans e8'
  walk_at "rv go"
  refine cmpR R (ho.same e8) (hv.same e8) s1 s2 s3 s4 (by rw [m1]; exact decide_eq_decide.mpr ⟨fun h => by omega, fun h => by omega⟩) fun H9 e9' => ?_
  have e9 := e8.trans e9'
  walk_at "rv go"
  refine cmpR R (ho.same e9) (hv.same e9) s1 s2 s3 s4 (by rw [m1]; exact decide_eq_decide.mpr ⟨fun h => by omega, fun h => by omega⟩) fun H10 e10' => ?_
  have e10 := e9.trans e10'
  walk_at "rv go"
  refine cmpER R (ho.same e10) (hv.same e10) ?_
  walk_at "rv go"
  refine cmpNR R (ho.same e10) (hv.same e10) ?_
  walk_at "rv go"
  rw [z1, z2, z3, z4, z5]
  refine ⟨szl (by show 6 ≤ 100000; decide), fun p3 np3 => ?_⟩
  have e11 := same_new (o := .lst [.bl (decide (c * b < a * d)), .bl (decide (c * b ≤ a * d)), .bl (decide (a * d < c * b)), .bl (decide (a * d ≤ c * b)), .bl (decide (a * d = c * b)), .bl (!decide (a * d = c * b))]) e10 np3
  have k11 : (upd H10 p3 (.lst [.bl (decide (c * b < a * d)), .bl (decide (c * b ≤ a * d)), .bl (decide (a * d < c * b)), .bl (decide (a * d ≤ c * b)), .bl (decide (a * d = c * b)), .bl (!decide (a * d = c * b))])) p3 = some (.lst ([decide (c * b < a * d), decide (c * b ≤ a * d), decide (a * d < c * b), decide (a * d ≤ c * b), decide (a * d = c * b), !decide (a * d = c * b)].map V.bl)) := upd_same
  generalize upd H10 p3 (.lst [.bl (decide (c * b < a * d)), .bl (decide (c * b ≤ a * d)), .bl (decide (a * d < c * b)), .bl (decide (a * d ≤ c * b)), .bl (decide (a * d = c * b)), .bl (!decide (a * d = c * b))]) = H11 at e11 k11 ⊢
  walk_at "rv go"
  refine ⟨szl (by show 6 ≤ 100000; decide), fun p4 np4 => ?_⟩
  refine eqB_ok (bs := [decide (c * b < a * d), decide (c * b ≤ a * d), decide (a * d < c * b), decide (a * d ≤ c * b), decide (a * d = c * b), !decide (a * d = c * b)]) (sq_lst (same_new (Same.refl H11) np4 _ _ k11)) (sq_lst upd_same) ?_
  exact k _ (same_new e11 np4)
def iRn (n : Nat) : TI := fun _ H R => R (Itr 0 n) H
theorem w_forI {σ : L2.St} {H : Hp} {D : Ends} {tr : TA} {s1 : TS} {g : TG} (q : tr σ H fun vs H1 => ∃ j : Int, vs = [.int j] ∧ -(2 ^ 62) ≤ j ∧ j < 2 ^ 62 ∧ tFor (iRn j.toNat) g s1 D σ H1) : tFor (iRng1 tr) g s1 D σ H := q
theorem w_forRn {σ : L2.St} {H : Hp} {D : Ends} {s1 : TS} {slot n : Nat} (Pv : Nat → L2.St → Hp → Prop) (h0 : Pv 0 σ H)
    (hs : ∀ i σ' H', i < n → Pv i σ' H' → s1 { D with nx := Pv (i + 1), ct := Pv (i + 1), bk := D.nx } (σ'.set slot (some (.int (i : Int)))) H') (hd : ∀ σ' H', Pv n σ' H' → D.nx σ' H') : tFor (iRn n) (gName slot) s1 D σ H := by
  refine for_range Pv h0 (fun i σ' H' hi q => ?_) hd
  show s1 _ (σ'.set slot (some (.int ((0 : Int) + (i : Int))))) H'
  rw [Int.zero_add]
  exact hs i σ' H' hi q
/-- a for over a list that is just made -/
theorem w_forLn {K : PySem.W.Frag} {σ : L2.St} {H : Hp} {D : Ends} {tl : TE} {s1 : TS} {g : TG} (q : tl σ H fun x H1 => ∃ a, x = .ref a ∧ tFor (iAt K a) g s1 D σ H1) : tFor (iList K tl) g s1 D σ H := q
theorem w_forLa {K : PySem.W.Frag} {σ : L2.St} {H : Hp} {D : Ends} {s1 : TS} {g : TG} {a : Addr} {xs : List V} (hx : SqL K H a xs) (Pv : Nat → L2.St → Hp → Prop) (h0 : Pv 0 σ H) (hl : ∀ i σ' H', i ≤ xs.length → Pv i σ' H' → SqL K H' a xs)
    (hs : ∀ i x σ' H', xs[i]? = some x → Pv i σ' H' → g x σ' H' fun σ2 H2 => s1 { D with nx := Pv (i + 1), ct := Pv (i + 1), bk := D.nx } σ2 H2) (hd : ∀ σ' H', Pv xs.length σ' H' → D.nx σ' H') : tFor (iAt K a) g s1 D σ H :=
  ⟨⟨xs, hx⟩, for_list Pv h0 hl hs hd⟩
theorem same_but {H H1 H2 : Hp} {p : Addr} (e : Same H H1) (n : H p = none) (b : But p H1 H2) : Same H H2 := fun c o h => b c o (ne_of_none h n) (e c o h)
theorem div_bd {a b : Int} (hb : 0 < b) (h1 : -1000000000000000 ≤ a) (h2 : a ≤ 1000000000000000) : -1000000000000000 ≤ a / b ∧ a / b < 1000000000000001 :=
  ⟨Int.le_ediv_of_mul_le hb (by omega), Int.ediv_lt_of_lt_mul hb (by omega)⟩
theorem log_bd {a : Int} (h1 : -1000000000000000 ≤ a) (h2 : a ≤ 1000000000000000) : a.natAbs.log2 < 1920 := by
  by_cases z : a.natAbs = 0
  · rw [z]
    decide
  · exact (Nat.log2_lt z).mpr (Nat.lt_of_le_of_lt (m := 1000000000000000) (by omega) (Nat.lt_of_lt_of_le (m := 2 ^ 60) (by decide) (Nat.pow_le_pow_right (by decide) (by decide))))
def OddR (H : Hp) (v : V) : Prop := v = .non ∨ (∃ b, v = .bl b) ∨ (∃ s, v = .str s) ∨ (∃ p xs, v = .ref p ∧ H p = some (.lst xs)) ∨ (∃ p xs, v = .ref p ∧ H p = some (.tup xs)) ∨ ∃ p kvs, v = .ref p ∧ H p = some (.dK kvs)
theorem OddR.same {H H' : Hp} {v : V} (h : OddR H v) (e : Same H H') : OddR H' v := by
  rcases h with h | h | h | ⟨p, xs, h1, h2⟩ | ⟨p, xs, h1, h2⟩ | ⟨p, xs, h1, h2⟩
  · exact .inl h
  · exact .inr (.inl h)
  · exact .inr (.inr (.inl h))
  · exact .inr (.inr (.inr (.inl ⟨p, xs, h1, e _ _ h2⟩)))
  · exact .inr (.inr (.inr (.inr (.inl ⟨p, xs, h1, e _ _ h2⟩))))
  · exact .inr (.inr (.inr (.inr (.inr ⟨p, xs, h1, e _ _ h2⟩))))
theorem odd_of {K : PySem.W.Frag} {C : Addr} {H : Hp} {v : V} (O : OdC K C) (h : OddR H v) : ∃ T, OddV K C H v T := by
  rcases h with rfl | ⟨b, rfl⟩ | ⟨s, rfl⟩ | ⟨p, xs, rfl, h⟩ | ⟨p, xs, rfl, h⟩ | ⟨p, kvs, rfl, h⟩
  · exact ⟨"NoneType", .non, .base .non, O.ki _ (by simp), O.nf _ (by simp), .other (.base .non) (kit_ty (by decide +kernel)) (fun i z => nomatch z), rfl⟩
  · exact ⟨"bool", .bl b, .base (.bl b), O.ki _ (by simp), O.nf _ (by simp), .bl b, rfl⟩
  · exact ⟨"str", .str s, .base (.str s), O.ki _ (by simp), O.nf _ (by simp), .other (.base (.str s)) (kit_ty (by decide +kernel)) (fun i z => nomatch z), rfl⟩
  · exact ⟨"list", .lst (sq_lst h), .base (.lst h), O.ki _ (by simp), O.nf _ (by simp), .other (.base (.lst h)) (kit_ty (by decide +kernel)) (fun i z => nomatch z), rfl⟩
  · exact ⟨"tuple", .tup (sq_tup h), .base (.tup h), O.ki _ (by simp), O.nf _ (by simp), .other (.base (.tup h)) (kit_ty (by decide +kernel)) (fun i z => nomatch z), rfl⟩
  · exact ⟨"dict", .dK h, .base (.dK h), O.ki _ (by simp), O.nf _ (by simp), .other (.base (.dK h)) (kit_ty (by decide +kernel)) (fun i z => nomatch z), rfl⟩
end Rv
namespace Rv
open PySem PySem.Spec PyProof.Rows L2
local macro_rules | `(tactic| walk_at "rv st") => `(tactic| first
  | with_reducible refine iteT ?_ | with_reducible refine iteF ?_ | with_reducible refine w_nx ?_ | with_reducible refine w_yes ?_ | with_reducible refine w_rt ?_ | with_reducible refine iteNT ?_ | with_reducible refine iteNF ?_ | with_reducible refine iteNRf ?_ | with_reducible refine iteRf ?_ | with_reducible refine w_seqA ?_ | with_reducible refine w_seqD ?_ | with_reducible refine w_seqP ?_ | with_reducible refine w_asg ?_ | with_reducible refine w_ret ?_ | with_reducible refine w_drop ?_ | with_reducible refine w_ifs ?_ | with_reducible refine w_next ?_ | with_reducible refine w_par ?_
  | with_reducible refine w_op ?_ | with_reducible refine w_un ?_ | ((with_reducible show tVar _ _ _ _); refine' w_var ?hv ?_; (case hv => exact rfl)) | with_reducible refine w_c ?_ | with_reducible refine w_test ?_ | with_reducible refine w_tB ?_
  | with_reducible refine w_bl ?_ | with_reducible refine w_I0 ?_ | with_reducible refine w_U ?_ | with_reducible refine w_eqI ?_ | with_reducible refine w_neI ?_
  | with_reducible refine w_cons ?_ | with_reducible refine w_nil ?_ | with_reducible refine w_gn ?_ | with_reducible refine w_gsub ?_ | with_reducible refine w_and ?_ | with_reducible refine w_or ?_ | with_reducible refine w_not ?_
  | with_reducible refine w_andV ?_ | with_reducible refine w_orV ?_ | with_reducible refine w_notV ?_ | with_reducible refine w_if ?_ | with_reducible refine w_cb ?_ | with_reducible refine w_call ?_ | with_reducible refine w_lst ?_ | with_reducible refine w_tup ?_
  | with_reducible refine w_sl ?_ | with_reducible refine w_noPart ?_ | with_reducible refine w_part ?_ | with_reducible refine w_ex1 ?_ | with_reducible refine w_exb ?_ | with_reducible refine w_intB ?_ | with_reducible refine w_intI ?_ | with_reducible refine w_abs ?_)
local macro_rules | `(tactic| walk_at "rv ix") => `(tactic| ((with_reducible show rIxL _ _ _ _ _); refine' w_ixL (sq_lst ?ha) ?hb ?_; (case ha => first | exact upd_same | assumption); (case hb => first | exact rfl | assumption)))
local macro_rules | `(tactic| walk_at "rv ar") => `(tactic| first
  | (refine' w_I ?hc ?_; (case hc => first | (show (0 : Int) < _; first | assumption | decide | omega) | exact pow_c (by decide) (by decide) (by first | decide | omega) (by first | decide | omega) | exact mul_r (by first | decide | omega) (by first | decide | omega) | exact mul_l (by first | decide | omega) (by first | decide | omega) | exact divw (by first | assumption | decide | omega) (by first | assumption | decide | omega))))
local macro_rules | `(tactic| walk_at "rv go") => `(tactic| repeat first | walk_at "rv st" | walk_at "rv ix" | ((with_reducible show rI _ _ _ _ _ _); walk_at "rv ar"))
theorem sz_lit3 {z : Int} {M k : Nat} (h : z.natAbs ≤ M) (e : M < 2 ^ k := by decide) : Sz k z := Nat.lt_of_le_of_lt h e
theorem pairs5 {G : Hp} {l t1 t2 t3 t4 t5 : Addr} {a b c d : Int} (h1 : G t1 = some (.tup [.int c, .int d])) (h2 : G t2 = some (.tup [.int (a * d), .int (b * d)])) (h3 : G t3 = some (.tup [.int (a * d + 1), .int (b * d)])) (h4 : G t4 = some (.tup [.int (a * d - 1), .int (b * d)])) (h5 : G t5 = some (.tup [.int (0 - a), .int b]))
    (a1 : -1000000000000000 ≤ a) (a2 : a ≤ 1000000000000000) (c1 : -1000000000000000 ≤ c) (c2 : c ≤ 1000000000000000) (b1 : 1 ≤ b) (b2 : b ≤ 1000000000) (d1 : 1 ≤ d) (d2 : d ≤ 50) :
    ∀ (i : Nat) (x : V), ([.ref t1, .ref t2, .ref t3, .ref t4, .ref t5] : List V)[i]? = some x → ∃ (t : Addr) (top bot : Int), x = V.ref t ∧ G t = some (.tup [.int top, .int bot]) ∧ -100000000000000000 ≤ top ∧ top ≤ 100000000000000000 ∧ 1 ≤ bot ∧ bot ≤ 100000000000 := by
  have q : -50000000000000000 ≤ a * d ∧ a * d ≤ 50000000000000000 := by
    have p := prod_bd (z := a) (x := d) (A := 1000000000000000) (B := 50) (M := 50000000000000000) (by omega) (by omega)
    omega
  have r : b * d ≤ 50000000000 := by
    have p := prod_bd (z := b) (x := d) (A := 1000000000) (B := 50) (M := 50000000000) (by omega) (by omega)
    omega
  have r1 : 1 ≤ b * d := Int.mul_pos (by omega) (by omega)
  intro i x hx
  match i, hx with
  | 0, hx => exact ⟨t1, c, d, (Option.some.inj hx).symm, h1, by omega, by omega, by omega, by omega⟩
  | 1, hx => exact ⟨t2, _, _, (Option.some.inj hx).symm, h2, by omega, by omega, by omega, by omega⟩
  | 2, hx => exact ⟨t3, _, _, (Option.some.inj hx).symm, h3, by omega, by omega, by omega, by omega⟩
  | 3, hx => exact ⟨t4, _, _, (Option.some.inj hx).symm, h4, by omega, by omega, by omega, by omega⟩
  | 4, hx => exact ⟨t5, _, _, (Option.some.inj hx).symm, h5, by omega, by omega, by omega, by omega⟩
theorem p_law03 {K : PySem.W.Frag} {C : Addr} {vs : List V} {H : Hp} {Q : VK} {E : XK} (h : spLaw03 K C vs H Q E) : t_law03 K C { nx := fun _ H' => Q .non H', rt := Q } (start ["_law_script", "_law_k", "_law_pool_here", "_law_a", "_law_b", "_law_c", "_law_d", "_law_pairs", "_law_top", "_law_bottom", "_law_number", "_law_odd"] vs) H := by
  obtain ⟨a0, ns, rfl, hl63, hS, R, O, k⟩ := h
  unfold t_law03
  refine w_seq ?_
  refine w_forI ?_
  walk_at "rv go"
  refine w_lenL hS ?_
  walk_at "rv go"
  rw [List.length_map]
  refine ⟨20, _, rfl, ?_⟩
  walk_at "rv go"
  refine ⟨1, _, rfl, ?_⟩
  walk_at "rv go"
  obtain ⟨j, hj, j20⟩ : ∃ j : Int, j = (if (if (ns.length : Int) < 20 then (ns.length : Int) else 20) > 1 then (if (ns.length : Int) < 20 then (ns.length : Int) else 20) else 1) ∧ 1 ≤ j ∧ j ≤ 20 := ⟨_, rfl, by split <;> split <;> omega⟩
  rw [← hj]
  refine ⟨j, rfl, by omega, by omega, ?_⟩
  refine w_forRn (fun _ σ' H' => Same H H' ∧ ∃ o1 o2 o3 o4 o5 o6 o7 o8 o9 o10 o11, σ' = [some (.ref a0), o1, o2, o3, o4, o5, o6, o7, o8, o9, o10, o11]) ⟨Same.refl H, _, _, _, _, _, _, _, _, _, _, _, rfl⟩ ?_ ?_
  · rintro i σ' H1 hi ⟨e1, o1, o2, o3, o4, o5, o6, o7, o8, o9, o10, o11, rfl⟩
    walk_at "rv go"
    refine ⟨a0, ns, i, rfl, e1.seq hS, hl63, by omega, fun p H2 np e2 P2 => ?_⟩
    walk_at "rv go"
    refine ⟨p, rfl, P2, fun a H3 a1 a2 b3 P3 => ?_⟩
    walk_at "rv go"
    refine take_call P3 (by decide) (by decide) fun rb H4 rb1 rb2 b4 P4 => ?_
    walk_at "rv go"
    have rb2' : rb < 1000000000 := rb2
    obtain ⟨b, hb⟩ : ∃ b : Int, b = 1 + rb := ⟨_, rfl⟩
    rw [← hb]
    refine ⟨_, _, rfl, ?_⟩
    walk_at "rv go"
    refine ⟨p, rfl, P4, fun c H5 c1 c2 b5 P5 => ?_⟩
    walk_at "rv go"
    refine take_call P5 (by decide) (by decide) fun rd H6 rd1 rd2 b6 P6 => ?_
    walk_at "rv go"
    obtain ⟨d, hd⟩ : ∃ d : Int, d = 1 + rd := ⟨_, rfl⟩
    rw [← hd]
    refine ⟨_, _, rfl, ?_⟩
    have e6 : Same H H6 := e1.trans (same_but e2 np (((b3.trans b4).trans b5).trans b6))
    clear e1 e2 b3 b4 b5 b6 P2 P3 P4 P5 P6
    walk_at "rv go"
    refine ⟨szl (by show 2 ≤ 100000; decide), fun t1 nt1 => ?_⟩
    have f1 := same_new (o := .tup [.int c, .int d]) e6 nt1
    have q1 : (upd H6 t1 (.tup [.int c, .int d])) t1 = some (.tup [.int c, .int d]) := upd_same
    generalize upd H6 t1 (.tup [.int c, .int d]) = G1 at f1 q1 ⊢
    walk_at "rv go"
    refine ⟨szl (by show 2 ≤ 100000; decide), fun t2 nt2 => ?_⟩
    have f2 := same_new (o := .tup [.int (a * d), .int (b * d)]) f1 nt2
    have q12 := same_new (o := .tup [.int (a * d), .int (b * d)]) (Same.refl G1) nt2 _ _ q1
    have q2 : (upd G1 t2 (.tup [.int (a * d), .int (b * d)])) t2 = some (.tup [.int (a * d), .int (b * d)]) := upd_same
    generalize upd G1 t2 (.tup [.int (a * d), .int (b * d)]) = G2 at f2 q12 q2 ⊢
    walk_at "rv go"
    refine ⟨szl (by show 2 ≤ 100000; decide), fun t3 nt3 => ?_⟩
    have f3 := same_new (o := .tup [.int (a * d + 1), .int (b * d)]) f2 nt3
    have g3 := same_new (o := .tup [.int (a * d + 1), .int (b * d)]) (Same.refl G2) nt3
    have q13 := g3 _ _ q12
    have q23 := g3 _ _ q2
    have q3 : (upd G2 t3 (.tup [.int (a * d + 1), .int (b * d)])) t3 = some (.tup [.int (a * d + 1), .int (b * d)]) := upd_same
    generalize upd G2 t3 (.tup [.int (a * d + 1), .int (b * d)]) = G3 at f3 g3 q13 q23 q3 ⊢
    walk_at "rv go"
    refine ⟨szl (by show 2 ≤ 100000; decide), fun t4 nt4 => ?_⟩
    have f4 := same_new (o := .tup [.int (a * d - 1), .int (b * d)]) f3 nt4
    have g4 := same_new (o := .tup [.int (a * d - 1), .int (b * d)]) (Same.refl G3) nt4
    have q14 := g4 _ _ q13
    have q24 := g4 _ _ q23
    have q34 := g4 _ _ q3
    have q4 : (upd G3 t4 (.tup [.int (a * d - 1), .int (b * d)])) t4 = some (.tup [.int (a * d - 1), .int (b * d)]) := upd_same
    generalize upd G3 t4 (.tup [.int (a * d - 1), .int (b * d)]) = G4 at f4 g4 q14 q24 q34 q4 ⊢
    walk_at "rv go"
    refine ⟨szl (by show 2 ≤ 100000; decide), fun t5 nt5 => ?_⟩
    have f5 := same_new (o := .tup [.int (0 - a), .int b]) f4 nt5
    have g5 := same_new (o := .tup [.int (0 - a), .int b]) (Same.refl G4) nt5
    have q15 := g5 _ _ q14
    have q25 := g5 _ _ q24
    have q35 := g5 _ _ q34
    have q45 := g5 _ _ q4
    have q5 : (upd G4 t5 (.tup [.int (0 - a), .int b])) t5 = some (.tup [.int (0 - a), .int b]) := upd_same
    generalize upd G4 t5 (.tup [.int (0 - a), .int b]) = G5 at f5 g5 q15 q25 q35 q45 q5 ⊢
    have P5 := pairs5 (l := t1) q15 q25 q35 q45 q5 a1 a2 c1 c2 (by omega) (by omega) (by omega) (by omega)
    walk_at "rv go"
    refine ⟨szl (by show 5 ≤ 100000; decide), fun l nl => ?_⟩
    have f6 := same_new (o := .lst [.ref t1, .ref t2, .ref t3, .ref t4, .ref t5]) f5 nl
    have g6 := same_new (o := .lst [.ref t1, .ref t2, .ref t3, .ref t4, .ref t5]) (Same.refl G5) nl
    have ql : (upd G5 l (.lst [.ref t1, .ref t2, .ref t3, .ref t4, .ref t5])) l = some (.lst [.ref t1, .ref t2, .ref t3, .ref t4, .ref t5]) := upd_same
    generalize upd G5 l (.lst [.ref t1, .ref t2, .ref t3, .ref t4, .ref t5]) = G6 at f6 g6 ql ⊢
    clear q12 q13 q23 q14 q24 q34 q15 q25 q35 q45 q5 q4 q3 q2 q1 g3 g4 g5
    have sa : Sz 60 a := sz_lit3 (M := 1000000000000000) (by omega)
    have sb : Sz 60 b := sz_lit3 (M := 1000000000) (by omega)
    refine w_gn ?_
    refine w_seq ?_
    refine w_forL (a := l) (fun Q q => w_var rfl q) (sq_lst ql) (fun _ σ' H' => Same G6 H' ∧ ∃ o8 o9, σ' = [some (.ref a0), some (.int (i : Int)), some (.ref p), some (.int a), some (.int b), some (.int c), some (.int d), some (.ref l), o8, o9, o10, o11]) ⟨Same.refl G6, _, _, rfl⟩ (fun _ σ' H' _ ⟨e, _⟩ => sq_lst (e _ _ ql)) ?_ ?_
    · rintro m x σ' H7 hx ⟨e7, o8, o9, rfl⟩
      obtain ⟨t, top, bot, rfl, ht, k1, k2, k3, k4⟩ := P5 m x hx
      have ht7 := e7 _ _ (g6 _ _ ht)
      refine ⟨t, _, rfl, sq_tup ht7, rfl, _, _, rfl, ?_⟩
      refine ⟨_, _, rfl, rfl, ?_⟩
      have stop : Sz 60 top := sz_lit3 (M := 100000000000000000) (by omega)
      have sbot : Sz 60 bot := sz_lit3 (M := 100000000000) (by omega)
      walk_at "rv go"
      refine w_make ?_
      walk_at "rv go"
      refine mk_rat rfl R (show 0 < b by omega) (sb.mono (by decide)) fun x1 H8 u1 v1 e8 r1 hr1 => ?_
      walk_at "rv go"
      refine w_make ?_
      walk_at "rv go"
      refine mk_rat rfl R (show 0 < bot by omega) (sbot.mono (by decide)) fun x2 H9 u2 v2 e9 r2 hr2 => ?_
      walk_at "rv go"
      refine ⟨x1, .ref x2, a, b, top, bot, u1, v1, u2, v2, rfl, R, hr1.same e9, .inr ⟨x2, rfl, hr2⟩, r1.eq, r2.eq, by omega, by omega, by omega, by omega, by omega, by omega, by omega, by omega, (r1.szt sa).mono (by decide), (r1.szb sb).mono (by decide), (r2.szt stop).mono (by decide), (r2.szb sbot).mono (by decide), fun H10 e10 => ?_⟩
      walk_at "rv go"
      exact ⟨((e7.trans e8).trans e9).trans e10, _, _, rfl⟩
    rintro σ' H7 ⟨e7, o8, o9, rfl⟩
    refine w_nx ?_
    refine w_seq ?_
    refine w_forLn ?_
    walk_at "rv go"
    refine ⟨szl (by show 6 ≤ 100000; decide), fun l2 nl2 => ⟨l2, rfl, ?_⟩⟩
    have f8 := same_new (o := .lst [.int c, .int (a / b), .int (a / b + 1), .int 0, .int 1, .int (-1)]) (f6.trans e7) nl2
    have ql2 : (upd H7 l2 (.lst [.int c, .int (a / b), .int (a / b + 1), .int 0, .int 1, .int (-1)])) l2 = some (.lst [.int c, .int (a / b), .int (a / b + 1), .int 0, .int 1, .int (-1)]) := upd_same
    generalize upd H7 l2 (.lst [.int c, .int (a / b), .int (a / b + 1), .int 0, .int 1, .int (-1)]) = G8 at f8 ql2 ⊢
    have dv := div_bd (a := a) (b := b) (by omega) a1 a2
    have P8 : ∀ (m : Nat) (x : V), ([.int c, .int (a / b), .int (a / b + 1), .int 0, .int 1, .int (-1)] : List V)[m]? = some x → ∃ z : Int, x = V.int z ∧ -1000000000000001 ≤ z ∧ z ≤ 1000000000000001 := fun m x hx => by
      match m, hx with
      | 0, hx => exact ⟨c, (Option.some.inj hx).symm, by omega, by omega⟩
      | 1, hx => exact ⟨_, (Option.some.inj hx).symm, by omega, by omega⟩
      | 2, hx => exact ⟨_, (Option.some.inj hx).symm, by omega, by omega⟩
      | 3, hx => exact ⟨0, (Option.some.inj hx).symm, by omega, by omega⟩
      | 4, hx => exact ⟨1, (Option.some.inj hx).symm, by omega, by omega⟩
      | 5, hx => exact ⟨-1, (Option.some.inj hx).symm, by omega, by omega⟩
    refine w_forLa (sq_lst ql2) (fun _ σ' H' => Same G8 H' ∧ ∃ o10, σ' = [some (.ref a0), some (.int (i : Int)), some (.ref p), some (.int a), some (.int b), some (.int c), some (.int d), some (.ref l), o8, o9, o10, o11]) ⟨Same.refl G8, _, rfl⟩ (fun _ σ' H' _ ⟨e, _⟩ => sq_lst (e _ _ ql2)) ?_ ?_
    · rintro m x σ' H9 hx ⟨e9, o10, rfl⟩
      obtain ⟨z, rfl, z1, z2⟩ := P8 m x hx
      have sz : Sz 60 z := sz_lit3 (M := 1000000000000001) (by omega)
      refine w_gn ?_
      walk_at "rv go"
      refine w_make ?_
      walk_at "rv go"
      refine mk_rat rfl R (show 0 < b by omega) (sb.mono (by decide)) fun x1 H10 u1 v1 e10 r1 hr1 => ?_
      walk_at "rv go"
      refine ⟨x1, .int z, a, b, z, 1, u1, v1, z, 1, rfl, R, hr1, .inl ⟨rfl, rfl⟩, r1.eq, rfl, by omega, by omega, by omega, by omega, by omega, by omega, by omega, by omega, (r1.szt sa).mono (by decide), (r1.szb sb).mono (by decide), sz.mono (by decide), sz_lit3 (M := 1) (by decide), fun H11 e11 => ?_⟩
      walk_at "rv go"
      exact ⟨(e9.trans e10).trans e11, _, rfl⟩
    rintro σ' H9 ⟨e9, o10, rfl⟩
    refine w_nx ?_
    refine w_forLn ?_
    walk_at "rv go"
    refine ⟨a, rfl, log_bd a1 a2, ?_⟩
    walk_at "rv go"
    refine ⟨szl (by show 2 ≤ 100000; decide), fun t6 nt6 => ?_⟩
    have f10 := same_new (o := .tup [.int a, .int b]) (f8.trans e9) nt6
    have q6 : (upd H9 t6 (.tup [.int a, .int b])) t6 = some (.tup [.int a, .int b]) := upd_same
    generalize upd H9 t6 (.tup [.int a, .int b]) = G10 at f10 q6 ⊢
    walk_at "rv go"
    refine ⟨szl (by show 1 ≤ 100000; decide), fun t7 nt7 => ?_⟩
    have f11 := same_new (o := .lst [.int a]) f10 nt7
    have q67 := same_new (o := .lst [.int a]) (Same.refl G10) nt7 _ _ q6
    have q7 : (upd G10 t7 (.lst [.int a])) t7 = some (.lst [.int a]) := upd_same
    generalize upd G10 t7 (.lst [.int a]) = G11 at f11 q67 q7 ⊢
    walk_at "rv go"
    intro t8 nt8
    have f12 := same_new (o := .dK []) f11 nt8
    have g12 := same_new (o := .dK []) (Same.refl G11) nt8
    have q68 := g12 _ _ q67
    have q78 := g12 _ _ q7
    have q8 : (upd G11 t8 (.dK [])) t8 = some (.dK []) := upd_same
    generalize upd G11 t8 (.dK []) = G12 at f12 g12 q68 q78 q8 ⊢
    walk_at "rv go"
    refine ⟨szl (by show 7 ≤ 100000; decide), fun l3 nl3 => ⟨l3, rfl, ?_⟩⟩
    have f13 := same_new (o := .lst [.non, .str (toString a), .ref t6, .ref t7, .bl true, .bl false, .ref t8]) f12 nl3
    have g13 := same_new (o := .lst [.non, .str (toString a), .ref t6, .ref t7, .bl true, .bl false, .ref t8]) (Same.refl G12) nl3
    have ql3 : (upd G12 l3 (.lst [.non, .str (toString a), .ref t6, .ref t7, .bl true, .bl false, .ref t8])) l3 = some (.lst [.non, .str (toString a), .ref t6, .ref t7, .bl true, .bl false, .ref t8]) := upd_same
    generalize upd G12 l3 (.lst [.non, .str (toString a), .ref t6, .ref t7, .bl true, .bl false, .ref t8]) = G13 at f13 g13 ql3 ⊢
    have P13 : ∀ (m : Nat) (x : V), ([.non, .str (toString a), .ref t6, .ref t7, .bl true, .bl false, .ref t8] : List V)[m]? = some x → OddR G13 x := fun m x hx => by
      match m, hx with
      | 0, hx => exact .inl (Option.some.inj hx).symm
      | 1, hx => exact .inr (.inr (.inl ⟨_, (Option.some.inj hx).symm⟩))
      | 2, hx => exact .inr (.inr (.inr (.inr (.inl ⟨t6, _, (Option.some.inj hx).symm, g13 _ _ q68⟩))))
      | 3, hx => exact .inr (.inr (.inr (.inl ⟨t7, _, (Option.some.inj hx).symm, g13 _ _ q78⟩)))
      | 4, hx => exact .inr (.inl ⟨true, (Option.some.inj hx).symm⟩)
      | 5, hx => exact .inr (.inl ⟨false, (Option.some.inj hx).symm⟩)
      | 6, hx => exact .inr (.inr (.inr (.inr (.inr ⟨t8, _, (Option.some.inj hx).symm, g13 _ _ q8⟩))))
    refine w_forLa (sq_lst ql3) (fun _ σ' H' => Same G13 H' ∧ ∃ o11, σ' = [some (.ref a0), some (.int (i : Int)), some (.ref p), some (.int a), some (.int b), some (.int c), some (.int d), some (.ref l), o8, o9, o10, o11]) ⟨Same.refl G13, _, rfl⟩ (fun _ σ' H' _ ⟨e, _⟩ => sq_lst (e _ _ ql3)) ?_ ?_
    · rintro m x σ' H14 hx ⟨e14, o11, rfl⟩
      have odd := (P13 m x hx).same e14
      refine w_gn ?_
      walk_at "rv go"
      refine w_make ?_
      walk_at "rv go"
      refine mk_rat rfl R (show 0 < b by omega) (sb.mono (by decide)) fun x1 H15 u1 v1 e15 r1 hr1 => ?_
      walk_at "rv go"
      obtain ⟨T1, od1⟩ := odd_of O (odd.same e15)
      refine cmpO R hr1 od1 ?_
      walk_at "rv go"
      refine w_make ?_
      walk_at "rv go"
      refine mk_rat (us := [.int 1]) (dvs := [.int 1]) rfl R (by decide) (sz_lit3 (M := 1) (by decide)) fun x2 H16 u2 v2 e16 r2 hr2 => ?_
      walk_at "rv go"
      obtain ⟨T2, od2⟩ := odd_of O ((odd.same e15).same e16)
      refine cmpO R hr2 od2 ?_
      walk_at "rv go"
      refine w_make ?_
      walk_at "rv go"
      refine mk_rat (us := [.int 0]) (dvs := [.int 1]) rfl R (by decide) (sz_lit3 (M := 1) (by decide)) fun x3 H17 u3 v3 e17 r3 hr3 => ?_
      walk_at "rv go"
      obtain ⟨T3, od3⟩ := odd_of O (((odd.same e15).same e16).same e17)
      refine cmpO R hr3 od3 ?_
      walk_at "rv go"
      exact ⟨((e14.trans e15).trans e16).trans e17, _, rfl⟩
    · rintro σ' H14 ⟨e14, o11, rfl⟩
      refine w_nx ?_
      exact ⟨f13.trans e14, _, _, _, _, _, _, _, _, _, _, _, rfl⟩
  · rintro σ' H1 ⟨e1, o1, o2, o3, o4, o5, o6, o7, o8, o9, o10, o11, rfl⟩
    walk_at "rv go"
    refine w_make ?_
    walk_at "rv go"
    refine mk_rat rfl R (by decide) (sz_lit3 (M := 2) (by decide)) fun x1 H2 u1 v1 e2 r1 hr1 => ?_
    walk_at "rv go"
    refine cmpE R hr1 (.inl ⟨rfl, rfl⟩) ?_
    rw [decide_eq_true (show u1 * 1 = 2 * v1 by have := r1.eq; omega)]
    walk_at "rv go"
    refine w_make ?_
    walk_at "rv go"
    refine mk_rat (us := [.int 2]) (dvs := [.int 1]) rfl R (by decide) (sz_lit3 (M := 1) (by decide)) fun x2 H3 u2 v2 e3 r2 hr2 => ?_
    walk_at "rv go"
    refine cmpER R hr2 (.inl ⟨rfl, rfl⟩) ?_
    rw [decide_eq_true (show u2 * 1 = 2 * v2 by have := r2.eq; omega)]
    walk_at "rv go"
    refine w_make ?_
    walk_at "rv go"
    refine mk_rat rfl R (by decide) (sz_lit3 (M := 2) (by decide)) fun x3 H4 u3 v3 e4 r3 hr3 => ?_
    walk_at "rv go"
    refine w_make ?_
    walk_at "rv go"
    refine mk_rat rfl R (by decide) (sz_lit3 (M := 3) (by decide)) fun x4 H5 u4 v4 e5 r4 hr4 => ?_
    walk_at "rv go"
    refine cmpE R (hr3.same e5) (.inr ⟨x4, rfl, hr4⟩) ?_
    have ne : ¬ u3 * v4 = u4 * v3 := fun z => by
      have h3 := r3.eq
      have h4 := r4.eq
      have p3 := r3.pos
      have p4 := r4.pos
      have e3' : v3 = u3 * 2 := by omega
      have e4' : v4 = u4 * 3 := by omega
      rw [e3', e4'] at z
      have q1 : u3 * (u4 * 3) = (u3 * u4) * 3 := by ac_rfl
      have q2 : u4 * (u3 * 2) = (u3 * u4) * 2 := by ac_rfl
      have pp := Int.mul_pos (show 0 < u3 by omega) (show 0 < u4 by omega)
      omega
    rw [decide_eq_false ne]
    walk_at "rv go"
    exact k _
end Rv
namespace Rv
open PySem PySem.Spec PyProof.Rows L2
def top (i : Nat) : Stmt := PySem.Challenge.pw_rainvalleys_k03_fractions_in_order.main.body.getD i (.Pass ⟨0, 0, 0, 0⟩)
abbrev s_is_whole : Stmt := top 5
theorem sc_is_whole : FnScope ["value"] ["value"] (defScope s_is_whole) := ⟨rfl, rfl, rfl, by decide +kernel, rfl, by decide +kernel, by decide +kernel⟩
theorem d_is_whole {P : Program} {w : World} {K : PySem.W.Frag} {mg : Str → Option Value} {base : Heap} {CX : CXT} {f : Addr} {cdv : Value} {A : Around} {outer : List Env} {s : Shared} {H : Hp} {E : XK} (m_int : mg "int" = none) (m_isinstance : mg "isinstance" = none) (m_bool : mg "bool" = none)
    (hr : Room 0 (A.deeper (envOfC "is_whole" (defScope s_is_whole) s.heap.objs.size f cdv))) :
    PSs (cxOf CX P w K mg base ["value"] "is_whole" (defScope s_is_whole) f cdv A outer s H E) (defBody s_is_whole) (t_is_whole K) :=
  (pss_one (ps_ret (pe_and (pe_callB call_isi (by rfl) m_isinstance (by decide +kernel) (pa_cons (pv 0) (pa_cons (pe_bltn (by rfl) m_int (by decide +kernel) rfl) pa_nil))) (pe_one (pe_not (pe_callB call_isi (by rfl) m_isinstance (by decide +kernel) (pa_cons (pv 0) (pa_cons (pe_bltn (by rfl) m_bool (by decide +kernel) rfl) pa_nil))))))))
theorem ok_is_whole {P : Program} {w : World} {K : PySem.W.Frag} {mg : Str → Option Value} {base : Heap} {f : Addr} {fd : FuncData} (F : FunD K "is_whole" "is_whole" (defArgs s_is_whole) (defBody s_is_whole) (defScope s_is_whole) [] [] f fd) (m_int : mg "int" = none) (m_isinstance : mg "isinstance" = none) (m_bool : mg "bool" = none) : FnOk P w K mg base CX0 1 f fd ["value"] (spWhole K) :=
  F.ok sc_is_whole (fun vs H Q E h => by first | (obtain ⟨_, rfl, _⟩ := h; rfl) | (obtain ⟨_, _, rfl, _⟩ := h; rfl) | (obtain ⟨_, _, _, rfl, _⟩ := h; rfl) | (obtain ⟨_, _, _, _, rfl, _⟩ := h; rfl) | (obtain ⟨_, _, _, _, _, rfl, _⟩ := h; rfl) | (obtain ⟨_, _, _, _, _, _, rfl, _⟩ := h; rfl) | (obtain ⟨_, _, _, _, _, _, _, rfl, _⟩ := h; rfl) | (obtain ⟨_, _, _, _, _, _, _, _, rfl, _⟩ := h; rfl) | (obtain ⟨_, _, _, _, _, _, _, _, _, rfl, _⟩ := h; rfl) | (obtain ⟨_, _, _, _, _, _, _, _, _, _, rfl, _⟩ := h; rfl) | (obtain ⟨_, _, _, _, _, _, _, _, _, _, _, rfl, _⟩ := h; rfl) | (obtain ⟨_, _, _, _, _, _, _, _, _, _, _, _, rfl, _⟩ := h; rfl) | (obtain ⟨_, _, _, _, _, _, _, _, _, _, _, _, _, rfl, _⟩ := h; rfl) | (obtain ⟨_, _, _, _, _, _, _, _, _, _, _, _, _, _, rfl, _⟩ := h; rfl) | (obtain ⟨_, _, _, _, _, _, _, _, _, _, _, _, _, _, _, rfl, _⟩ := h; rfl) | (obtain ⟨_, _, _, _, _, _, _, _, _, _, _, _, _, _, _, _, rfl, _⟩ := h; rfl) | (obtain ⟨_, _, _, _, _, _, _, _, _, _, _, _, _, _, _, _, _, rfl, _⟩ := h; rfl) | (obtain ⟨_, _, _, _, _, _, _, _, _, _, _, _, _, _, _, _, _, _, rfl, _⟩ := h; rfl) | (obtain ⟨_, _, _, _, _, _, _, _, _, _, _, _, _, _, _, _, _, _, _, rfl, _⟩ := h; rfl) | (obtain ⟨_, _, _, _, _, _, _, _, _, _, _, _, _, _, _, _, _, _, _, _, rfl, _⟩ := h; rfl) | (obtain ⟨_, _, _, _, _, _, _, _, _, _, _, _, _, _, _, _, _, _, _, _, _, rfl, _⟩ := h; rfl) | (obtain ⟨_, _, _, _, _, _, _, _, _, _, _, _, _, _, _, _, _, _, _, _, _, _, rfl, _⟩ := h; rfl) | (obtain ⟨_, _, _, _, _, _, _, _, _, _, _, _, _, _, _, _, _, _, _, _, _, _, _, rfl, _⟩ := h; rfl) | (obtain ⟨_, _, _, _, _, _, _, _, _, _, _, _, _, _, _, _, _, _, _, _, _, _, _, _, rfl, _⟩ := h; rfl) | (obtain ⟨_, _, _, _, _, _, _, _, _, _, _, _, _, _, _, _, _, _, _, _, _, _, _, _, _, rfl, _⟩ := h; rfl)) (fun cdv A outer s H vs Q E hr h => ⟨_, d_is_whole m_int m_isinstance m_bool hr, p_whole h⟩)
abbrev s_common_divisor : Stmt := top 7
theorem sc_common_divisor : FnScope ["first", "second"] ["first", "second"] (defScope s_common_divisor) := ⟨rfl, rfl, rfl, by decide +kernel, rfl, by decide +kernel, by decide +kernel⟩
theorem d_common_divisor {P : Program} {w : World} {K : PySem.W.Frag} {mg : Str → Option Value} {base : Heap} {CX : CXT} {f : Addr} {cdv : Value} {A : Around} {outer : List Env} {s : Shared} {H : Hp} {E : XK} 
    (hr : Room 0 (A.deeper (envOfC "common_divisor" (defScope s_common_divisor) s.heap.objs.size f cdv))) :
    PSs (cxOf CX P w K mg base ["first", "second"] "common_divisor" (defScope s_common_divisor) f cdv A outer s H E) (defBody s_common_divisor) (t_common_divisor K) :=
  (pss_cons (ps_while (passes_of rfl) (pt_cmpR op_ne (pv 1) pe_int (nomark _)) (pss_one (ps_par (by rfl) sc_common_divisor.nd rfl rfl (by decide) rfl rfl (pa_cons (pv 1) (pa_cons (pe_op op_mod (pv 0) (pv 1)) pa_nil)) (by rfl))))
    (pss_one (ps_ret (pv 0))))
theorem ok_common_divisor {P : Program} {w : World} {K : PySem.W.Frag} {mg : Str → Option Value} {base : Heap} {f : Addr} {fd : FuncData} (F : FunD K "common_divisor" "common_divisor" (defArgs s_common_divisor) (defBody s_common_divisor) (defScope s_common_divisor) [] [] f fd)  : FnOk P w K mg base CX0 1 f fd ["first", "second"] (spGcd K) :=
  F.ok sc_common_divisor (fun vs H Q E h => by first | (obtain ⟨_, rfl, _⟩ := h; rfl) | (obtain ⟨_, _, rfl, _⟩ := h; rfl) | (obtain ⟨_, _, _, rfl, _⟩ := h; rfl) | (obtain ⟨_, _, _, _, rfl, _⟩ := h; rfl) | (obtain ⟨_, _, _, _, _, rfl, _⟩ := h; rfl) | (obtain ⟨_, _, _, _, _, _, rfl, _⟩ := h; rfl) | (obtain ⟨_, _, _, _, _, _, _, rfl, _⟩ := h; rfl) | (obtain ⟨_, _, _, _, _, _, _, _, rfl, _⟩ := h; rfl) | (obtain ⟨_, _, _, _, _, _, _, _, _, rfl, _⟩ := h; rfl) | (obtain ⟨_, _, _, _, _, _, _, _, _, _, rfl, _⟩ := h; rfl) | (obtain ⟨_, _, _, _, _, _, _, _, _, _, _, rfl, _⟩ := h; rfl) | (obtain ⟨_, _, _, _, _, _, _, _, _, _, _, _, rfl, _⟩ := h; rfl) | (obtain ⟨_, _, _, _, _, _, _, _, _, _, _, _, _, rfl, _⟩ := h; rfl) | (obtain ⟨_, _, _, _, _, _, _, _, _, _, _, _, _, _, rfl, _⟩ := h; rfl) | (obtain ⟨_, _, _, _, _, _, _, _, _, _, _, _, _, _, _, rfl, _⟩ := h; rfl) | (obtain ⟨_, _, _, _, _, _, _, _, _, _, _, _, _, _, _, _, rfl, _⟩ := h; rfl) | (obtain ⟨_, _, _, _, _, _, _, _, _, _, _, _, _, _, _, _, _, rfl, _⟩ := h; rfl) | (obtain ⟨_, _, _, _, _, _, _, _, _, _, _, _, _, _, _, _, _, _, rfl, _⟩ := h; rfl) | (obtain ⟨_, _, _, _, _, _, _, _, _, _, _, _, _, _, _, _, _, _, _, rfl, _⟩ := h; rfl) | (obtain ⟨_, _, _, _, _, _, _, _, _, _, _, _, _, _, _, _, _, _, _, _, rfl, _⟩ := h; rfl) | (obtain ⟨_, _, _, _, _, _, _, _, _, _, _, _, _, _, _, _, _, _, _, _, _, rfl, _⟩ := h; rfl) | (obtain ⟨_, _, _, _, _, _, _, _, _, _, _, _, _, _, _, _, _, _, _, _, _, _, rfl, _⟩ := h; rfl) | (obtain ⟨_, _, _, _, _, _, _, _, _, _, _, _, _, _, _, _, _, _, _, _, _, _, _, rfl, _⟩ := h; rfl) | (obtain ⟨_, _, _, _, _, _, _, _, _, _, _, _, _, _, _, _, _, _, _, _, _, _, _, _, rfl, _⟩ := h; rfl) | (obtain ⟨_, _, _, _, _, _, _, _, _, _, _, _, _, _, _, _, _, _, _, _, _, _, _, _, _, rfl, _⟩ := h; rfl)) (fun cdv A outer s H vs Q E hr h => ⟨_, d_common_divisor  hr, p_gcd h⟩)
abbrev s_gap : Stmt := top 9
theorem sc_gap : FnScope ["left", "right"] ["left", "right"] (defScope s_gap) := ⟨rfl, rfl, rfl, by decide +kernel, rfl, by decide +kernel, by decide +kernel⟩
theorem d_gap {P : Program} {w : World} {K : PySem.W.Frag} {mg : Str → Option Value} {base : Heap} {C_Ratio : Addr} {CX : CXT} {f : Addr} {cdv : Value} {A : Around} {outer : List Env} {s : Shared} {H : Hp} {E : XK} 
    (hr : Room 0 (A.deeper (envOfC "gap" (defScope s_gap) s.heap.objs.size f cdv))) :
    PSs (cxOf CX P w K mg base ["left", "right"] "gap" (defScope s_gap) f cdv A outer s H E) (defBody s_gap) (t_gap K C_Ratio) :=
  (pss_one (ps_ret (pe_op op_sub (pe_op op_mulW (pe_fld (pv 0) rfl) (pe_fld (pv 1) rfl)) (pe_op op_mulW (pe_fld (pv 1) rfl) (pe_fld (pv 0) rfl)))))
theorem ok_gap {P : Program} {w : World} {K : PySem.W.Frag} {mg : Str → Option Value} {base : Heap} {C_Ratio : Addr} {f : Addr} {fd : FuncData} (F : FunD K "gap" "gap" (defArgs s_gap) (defBody s_gap) (defScope s_gap) [] [] f fd)  : FnOk P w K mg base CX0 1 f fd ["left", "right"] (spGap K C_Ratio) :=
  F.ok sc_gap (fun vs H Q E h => by first | (obtain ⟨_, rfl, _⟩ := h; rfl) | (obtain ⟨_, _, rfl, _⟩ := h; rfl) | (obtain ⟨_, _, _, rfl, _⟩ := h; rfl) | (obtain ⟨_, _, _, _, rfl, _⟩ := h; rfl) | (obtain ⟨_, _, _, _, _, rfl, _⟩ := h; rfl) | (obtain ⟨_, _, _, _, _, _, rfl, _⟩ := h; rfl) | (obtain ⟨_, _, _, _, _, _, _, rfl, _⟩ := h; rfl) | (obtain ⟨_, _, _, _, _, _, _, _, rfl, _⟩ := h; rfl) | (obtain ⟨_, _, _, _, _, _, _, _, _, rfl, _⟩ := h; rfl) | (obtain ⟨_, _, _, _, _, _, _, _, _, _, rfl, _⟩ := h; rfl) | (obtain ⟨_, _, _, _, _, _, _, _, _, _, _, rfl, _⟩ := h; rfl) | (obtain ⟨_, _, _, _, _, _, _, _, _, _, _, _, rfl, _⟩ := h; rfl) | (obtain ⟨_, _, _, _, _, _, _, _, _, _, _, _, _, rfl, _⟩ := h; rfl) | (obtain ⟨_, _, _, _, _, _, _, _, _, _, _, _, _, _, rfl, _⟩ := h; rfl) | (obtain ⟨_, _, _, _, _, _, _, _, _, _, _, _, _, _, _, rfl, _⟩ := h; rfl) | (obtain ⟨_, _, _, _, _, _, _, _, _, _, _, _, _, _, _, _, rfl, _⟩ := h; rfl) | (obtain ⟨_, _, _, _, _, _, _, _, _, _, _, _, _, _, _, _, _, rfl, _⟩ := h; rfl) | (obtain ⟨_, _, _, _, _, _, _, _, _, _, _, _, _, _, _, _, _, _, rfl, _⟩ := h; rfl) | (obtain ⟨_, _, _, _, _, _, _, _, _, _, _, _, _, _, _, _, _, _, _, rfl, _⟩ := h; rfl) | (obtain ⟨_, _, _, _, _, _, _, _, _, _, _, _, _, _, _, _, _, _, _, _, rfl, _⟩ := h; rfl) | (obtain ⟨_, _, _, _, _, _, _, _, _, _, _, _, _, _, _, _, _, _, _, _, _, rfl, _⟩ := h; rfl) | (obtain ⟨_, _, _, _, _, _, _, _, _, _, _, _, _, _, _, _, _, _, _, _, _, _, rfl, _⟩ := h; rfl) | (obtain ⟨_, _, _, _, _, _, _, _, _, _, _, _, _, _, _, _, _, _, _, _, _, _, _, rfl, _⟩ := h; rfl) | (obtain ⟨_, _, _, _, _, _, _, _, _, _, _, _, _, _, _, _, _, _, _, _, _, _, _, _, rfl, _⟩ := h; rfl) | (obtain ⟨_, _, _, _, _, _, _, _, _, _, _, _, _, _, _, _, _, _, _, _, _, _, _, _, _, rfl, _⟩ := h; rfl)) (fun cdv A outer s H vs Q E hr h => ⟨_, d_gap  hr, p_gap h⟩)
abbrev s_Ratio___init__ : Stmt := inClass (top 10) 0
theorem sc_Ratio___init__ : FnScope ["self", "numerator", "denominator", "divisor"] ["self", "numerator", "denominator"] (defScope s_Ratio___init__) := ⟨rfl, rfl, rfl, by decide +kernel, rfl, by decide +kernel, by decide +kernel⟩
theorem d_Ratio___init__ {P : Program} {w : World} {K : PySem.W.Frag} {mg : Str → Option Value} {base : Heap} {C_Ratio : Addr} {CX : CXT} {f : Addr} {cdv : Value} {A : Around} {outer : List Env} {s : Shared} {H : Hp} {E : XK} (c_is_whole : Cal P w K mg base CX0 1 "is_whole" ["value"] (spWhole K)) (m_abs : mg "abs" = none) (c_common_divisor : Cal P w K mg base CX0 1 "common_divisor" ["first", "second"] (spGcd K))
    (hr : Room 1 (A.deeper (envOfC "Ratio.__init__" (defScope s_Ratio___init__) s.heap.objs.size f cdv))) :
    PSs (cxOf CX P w K mg base ["self", "numerator", "denominator", "divisor"] "Ratio.__init__" (defScope s_Ratio___init__) f cdv A outer s H E) (defBody s_Ratio___init__) (t_Ratio___init__ K C_Ratio) :=
  (pss_cons (ps_if (pt_not (pt_val (pe_cal c_is_whole (hr.mono (by decide)) rfl pass0 (pa_cons (pv 1) pa_nil)))) (pss_one ps_never) pss_nil)
    (pss_cons (ps_if (PW.pt (pw_or (pt_not (pt_val (pe_cal c_is_whole (hr.mono (by decide)) rfl pass0 (pa_cons (pv 2) pa_nil)))) (pw_or1 (pt_cmpR op_eq (pv 2) pe_int (nomark _))))) (pss_one ps_never) pss_nil)
    (pss_cons (ps_set (i := 3) sc_Ratio___init__.nd rfl (by first | exact Or.inl rfl | exact Or.inr rfl) (pe_cal c_common_divisor (hr.mono (by decide)) rfl pass0 (pa_cons (pe_callB call_abs (by rfl) m_abs (by decide +kernel) (pa_cons (pv 1) pa_nil)) (pa_cons (pe_callB call_abs (by rfl) m_abs (by decide +kernel) (pa_cons (pv 2) pa_nil)) pa_nil))))
    (pss_cons (ps_if (pt_cmpR op_lt (pv 2) pe_int (nomark _)) (pss_one (ps_set (i := 3) sc_Ratio___init__.nd rfl (by first | exact Or.inl rfl | exact Or.inr rfl) (pe_un un_neg (pv 3)))) pss_nil)
    (pss_cons (ps_fld (pv 0) (pe_op op_fdivW (pv 1) (pv 3)) rfl)
    (pss_one (ps_fld (pv 0) (pe_op op_fdivW (pv 2) (pv 3)) rfl)))))))
theorem ok_Ratio___init__ {P : Program} {w : World} {K : PySem.W.Frag} {mg : Str → Option Value} {base : Heap} {C_Ratio : Addr} {f : Addr} {fd : FuncData} (F : FunD K "__init__" "Ratio.__init__" (defArgs s_Ratio___init__) (defBody s_Ratio___init__) (defScope s_Ratio___init__) [.int 1] [] f fd) (c_is_whole : Cal P w K mg base CX0 1 "is_whole" ["value"] (spWhole K)) (m_abs : mg "abs" = none) (c_common_divisor : Cal P w K mg base CX0 1 "common_divisor" ["first", "second"] (spGcd K)) : FnOk P w K mg base CX0 2 f fd ["self", "numerator", "denominator"] (spRInit K C_Ratio) :=
  F.ok sc_Ratio___init__ (fun vs H Q E h => by first | (obtain ⟨_, rfl, _⟩ := h; rfl) | (obtain ⟨_, _, rfl, _⟩ := h; rfl) | (obtain ⟨_, _, _, rfl, _⟩ := h; rfl) | (obtain ⟨_, _, _, _, rfl, _⟩ := h; rfl) | (obtain ⟨_, _, _, _, _, rfl, _⟩ := h; rfl) | (obtain ⟨_, _, _, _, _, _, rfl, _⟩ := h; rfl) | (obtain ⟨_, _, _, _, _, _, _, rfl, _⟩ := h; rfl) | (obtain ⟨_, _, _, _, _, _, _, _, rfl, _⟩ := h; rfl) | (obtain ⟨_, _, _, _, _, _, _, _, _, rfl, _⟩ := h; rfl) | (obtain ⟨_, _, _, _, _, _, _, _, _, _, rfl, _⟩ := h; rfl) | (obtain ⟨_, _, _, _, _, _, _, _, _, _, _, rfl, _⟩ := h; rfl) | (obtain ⟨_, _, _, _, _, _, _, _, _, _, _, _, rfl, _⟩ := h; rfl) | (obtain ⟨_, _, _, _, _, _, _, _, _, _, _, _, _, rfl, _⟩ := h; rfl) | (obtain ⟨_, _, _, _, _, _, _, _, _, _, _, _, _, _, rfl, _⟩ := h; rfl) | (obtain ⟨_, _, _, _, _, _, _, _, _, _, _, _, _, _, _, rfl, _⟩ := h; rfl) | (obtain ⟨_, _, _, _, _, _, _, _, _, _, _, _, _, _, _, _, rfl, _⟩ := h; rfl) | (obtain ⟨_, _, _, _, _, _, _, _, _, _, _, _, _, _, _, _, _, rfl, _⟩ := h; rfl) | (obtain ⟨_, _, _, _, _, _, _, _, _, _, _, _, _, _, _, _, _, _, rfl, _⟩ := h; rfl) | (obtain ⟨_, _, _, _, _, _, _, _, _, _, _, _, _, _, _, _, _, _, _, rfl, _⟩ := h; rfl) | (obtain ⟨_, _, _, _, _, _, _, _, _, _, _, _, _, _, _, _, _, _, _, _, rfl, _⟩ := h; rfl) | (obtain ⟨_, _, _, _, _, _, _, _, _, _, _, _, _, _, _, _, _, _, _, _, _, rfl, _⟩ := h; rfl) | (obtain ⟨_, _, _, _, _, _, _, _, _, _, _, _, _, _, _, _, _, _, _, _, _, _, rfl, _⟩ := h; rfl) | (obtain ⟨_, _, _, _, _, _, _, _, _, _, _, _, _, _, _, _, _, _, _, _, _, _, _, rfl, _⟩ := h; rfl) | (obtain ⟨_, _, _, _, _, _, _, _, _, _, _, _, _, _, _, _, _, _, _, _, _, _, _, _, rfl, _⟩ := h; rfl) | (obtain ⟨_, _, _, _, _, _, _, _, _, _, _, _, _, _, _, _, _, _, _, _, _, _, _, _, _, rfl, _⟩ := h; rfl)) (fun cdv A outer s H vs Q E hr h => ⟨_, d_Ratio___init__ c_is_whole m_abs c_common_divisor hr, p_rinit h⟩)
abbrev s_as_ratio : Stmt := top 8
theorem sc_as_ratio : FnScope ["value"] ["value"] (defScope s_as_ratio) := ⟨rfl, rfl, rfl, by decide +kernel, rfl, by decide +kernel, by decide +kernel⟩
theorem d_as_ratio {P : Program} {w : World} {K : PySem.W.Frag} {mg : Str → Option Value} {base : Heap} {C_Ratio : Addr} {CX : CXT} {f : Addr} {cdv : Value} {A : Around} {outer : List Env} {s : Shared} {H : Hp} {E : XK} (g_Ratio : mg "Ratio" = some (.ref C_Ratio)) (m_isinstance : mg "isinstance" = none) (c_is_whole : Cal P w K mg base CX0 1 "is_whole" ["value"] (spWhole K)) (cm1_Ratio : CalM P w K mg base CX0 2 "Ratio" C_Ratio ["self", "numerator", "denominator"] (spRInit K C_Ratio) [.int 1])
    (hr : Room 3 (A.deeper (envOfC "as_ratio" (defScope s_as_ratio) s.heap.objs.size f cdv))) :
    PSs (cxOf CX P w K mg base ["value"] "as_ratio" (defScope s_as_ratio) f cdv A outer s H E) (defBody s_as_ratio) (t_as_ratio K C_Ratio) :=
  (pss_cons (ps_if (pt_val (pe_callB call_isi (by rfl) m_isinstance (by decide +kernel) (pa_cons (pv 0) (pa_cons (pe_glob rfl g_Ratio rfl) pa_nil)))) (pss_one (ps_ret (pv 0))) pss_nil)
    (pss_cons (ps_if (pt_val (pe_cal c_is_whole (hr.mono (by decide)) rfl pass0 (pa_cons (pv 0) pa_nil))) (pss_one (ps_ret (pe_calm cm1_Ratio (hr.mono (by decide)) rfl pass0 (pa_cons (pv 0) pa_nil)))) pss_nil)
    (pss_one (ps_ret pe_non))))
theorem ok_as_ratio {P : Program} {w : World} {K : PySem.W.Frag} {mg : Str → Option Value} {base : Heap} {C_Ratio : Addr} {f : Addr} {fd : FuncData} (F : FunD K "as_ratio" "as_ratio" (defArgs s_as_ratio) (defBody s_as_ratio) (defScope s_as_ratio) [] [] f fd) (g_Ratio : mg "Ratio" = some (.ref C_Ratio)) (m_isinstance : mg "isinstance" = none) (c_is_whole : Cal P w K mg base CX0 1 "is_whole" ["value"] (spWhole K)) (cm1_Ratio : CalM P w K mg base CX0 2 "Ratio" C_Ratio ["self", "numerator", "denominator"] (spRInit K C_Ratio) [.int 1]) : FnOk P w K mg base CX0 4 f fd ["value"] (spAsR K C_Ratio) :=
  F.ok sc_as_ratio (fun vs H Q E h => by first | (obtain ⟨_, rfl, _⟩ := h; rfl) | (obtain ⟨_, _, rfl, _⟩ := h; rfl) | (obtain ⟨_, _, _, rfl, _⟩ := h; rfl) | (obtain ⟨_, _, _, _, rfl, _⟩ := h; rfl) | (obtain ⟨_, _, _, _, _, rfl, _⟩ := h; rfl) | (obtain ⟨_, _, _, _, _, _, rfl, _⟩ := h; rfl) | (obtain ⟨_, _, _, _, _, _, _, rfl, _⟩ := h; rfl) | (obtain ⟨_, _, _, _, _, _, _, _, rfl, _⟩ := h; rfl) | (obtain ⟨_, _, _, _, _, _, _, _, _, rfl, _⟩ := h; rfl) | (obtain ⟨_, _, _, _, _, _, _, _, _, _, rfl, _⟩ := h; rfl) | (obtain ⟨_, _, _, _, _, _, _, _, _, _, _, rfl, _⟩ := h; rfl) | (obtain ⟨_, _, _, _, _, _, _, _, _, _, _, _, rfl, _⟩ := h; rfl) | (obtain ⟨_, _, _, _, _, _, _, _, _, _, _, _, _, rfl, _⟩ := h; rfl) | (obtain ⟨_, _, _, _, _, _, _, _, _, _, _, _, _, _, rfl, _⟩ := h; rfl) | (obtain ⟨_, _, _, _, _, _, _, _, _, _, _, _, _, _, _, rfl, _⟩ := h; rfl) | (obtain ⟨_, _, _, _, _, _, _, _, _, _, _, _, _, _, _, _, rfl, _⟩ := h; rfl) | (obtain ⟨_, _, _, _, _, _, _, _, _, _, _, _, _, _, _, _, _, rfl, _⟩ := h; rfl) | (obtain ⟨_, _, _, _, _, _, _, _, _, _, _, _, _, _, _, _, _, _, rfl, _⟩ := h; rfl) | (obtain ⟨_, _, _, _, _, _, _, _, _, _, _, _, _, _, _, _, _, _, _, rfl, _⟩ := h; rfl) | (obtain ⟨_, _, _, _, _, _, _, _, _, _, _, _, _, _, _, _, _, _, _, _, rfl, _⟩ := h; rfl) | (obtain ⟨_, _, _, _, _, _, _, _, _, _, _, _, _, _, _, _, _, _, _, _, _, rfl, _⟩ := h; rfl) | (obtain ⟨_, _, _, _, _, _, _, _, _, _, _, _, _, _, _, _, _, _, _, _, _, _, rfl, _⟩ := h; rfl) | (obtain ⟨_, _, _, _, _, _, _, _, _, _, _, _, _, _, _, _, _, _, _, _, _, _, _, rfl, _⟩ := h; rfl) | (obtain ⟨_, _, _, _, _, _, _, _, _, _, _, _, _, _, _, _, _, _, _, _, _, _, _, _, rfl, _⟩ := h; rfl) | (obtain ⟨_, _, _, _, _, _, _, _, _, _, _, _, _, _, _, _, _, _, _, _, _, _, _, _, _, rfl, _⟩ := h; rfl)) (fun cdv A outer s H vs Q E hr h => ⟨_, d_as_ratio g_Ratio m_isinstance c_is_whole cm1_Ratio hr, p_asR h⟩)
abbrev s_Ratio___eq__ : Stmt := inClass (top 10) 15
theorem sc_Ratio___eq__ : FnScope ["self", "other"] ["self", "other"] (defScope s_Ratio___eq__) := ⟨rfl, rfl, rfl, by decide +kernel, rfl, by decide +kernel, by decide +kernel⟩
theorem d_Ratio___eq__ {P : Program} {w : World} {K : PySem.W.Frag} {mg : Str → Option Value} {base : Heap} {C_Ratio : Addr} {CX : CXT} {f : Addr} {cdv : Value} {A : Around} {outer : List Env} {s : Shared} {H : Hp} {E : XK} (g_Ratio : mg "Ratio" = some (.ref C_Ratio)) (m_isinstance : mg "isinstance" = none) (c_is_whole : Cal P w K mg base CX0 1 "is_whole" ["value"] (spWhole K))
    (hr : Room 4 (A.deeper (envOfC "Ratio.__eq__" (defScope s_Ratio___eq__) s.heap.objs.size f cdv))) :
    PSs (cxOf CX P w K mg base ["self", "other"] "Ratio.__eq__" (defScope s_Ratio___eq__) f cdv A outer s H E) (defBody s_Ratio___eq__) (t_Ratio___eq__ K C_Ratio) :=
  (pss_cons (ps_if (pt_val (pe_callB call_isi (by rfl) m_isinstance (by decide +kernel) (pa_cons (pv 1) (pa_cons (pe_glob rfl g_Ratio rfl) pa_nil)))) (pss_one (ps_ret (pe_and (pe_cmpR op_eq (pe_fld (pv 0) rfl) (pe_fld (pv 1) rfl) (nomark _)) (pe_one (pe_cmpR op_eq (pe_fld (pv 0) rfl) (pe_fld (pv 1) rfl) (nomark _)))))) pss_nil)
    (pss_one (ps_ret (pe_and (pe_cal c_is_whole (hr.mono (by decide)) rfl pass0 (pa_cons (pv 1) pa_nil)) (pe_and (pe_cmpR op_eq (pe_fld (pv 0) rfl) pe_int (nomark _)) (pe_one (pe_cmpR op_eq (pe_fld (pv 0) rfl) (pv 1) (nomark _))))))))
theorem ok_Ratio___eq__ {P : Program} {w : World} {K : PySem.W.Frag} {mg : Str → Option Value} {base : Heap} {C_Ratio : Addr} {f : Addr} {fd : FuncData} (F : FunD K "__eq__" "Ratio.__eq__" (defArgs s_Ratio___eq__) (defBody s_Ratio___eq__) (defScope s_Ratio___eq__) [] [] f fd) (g_Ratio : mg "Ratio" = some (.ref C_Ratio)) (m_isinstance : mg "isinstance" = none) (c_is_whole : Cal P w K mg base CX0 1 "is_whole" ["value"] (spWhole K)) : FnOk P w K mg base CX0 5 f fd ["self", "other"] (spEqR K C_Ratio) :=
  F.ok sc_Ratio___eq__ (fun vs H Q E h => by first | (obtain ⟨_, rfl, _⟩ := h; rfl) | (obtain ⟨_, _, rfl, _⟩ := h; rfl) | (obtain ⟨_, _, _, rfl, _⟩ := h; rfl) | (obtain ⟨_, _, _, _, rfl, _⟩ := h; rfl) | (obtain ⟨_, _, _, _, _, rfl, _⟩ := h; rfl) | (obtain ⟨_, _, _, _, _, _, rfl, _⟩ := h; rfl) | (obtain ⟨_, _, _, _, _, _, _, rfl, _⟩ := h; rfl) | (obtain ⟨_, _, _, _, _, _, _, _, rfl, _⟩ := h; rfl) | (obtain ⟨_, _, _, _, _, _, _, _, _, rfl, _⟩ := h; rfl) | (obtain ⟨_, _, _, _, _, _, _, _, _, _, rfl, _⟩ := h; rfl) | (obtain ⟨_, _, _, _, _, _, _, _, _, _, _, rfl, _⟩ := h; rfl) | (obtain ⟨_, _, _, _, _, _, _, _, _, _, _, _, rfl, _⟩ := h; rfl) | (obtain ⟨_, _, _, _, _, _, _, _, _, _, _, _, _, rfl, _⟩ := h; rfl) | (obtain ⟨_, _, _, _, _, _, _, _, _, _, _, _, _, _, rfl, _⟩ := h; rfl) | (obtain ⟨_, _, _, _, _, _, _, _, _, _, _, _, _, _, _, rfl, _⟩ := h; rfl) | (obtain ⟨_, _, _, _, _, _, _, _, _, _, _, _, _, _, _, _, rfl, _⟩ := h; rfl) | (obtain ⟨_, _, _, _, _, _, _, _, _, _, _, _, _, _, _, _, _, rfl, _⟩ := h; rfl) | (obtain ⟨_, _, _, _, _, _, _, _, _, _, _, _, _, _, _, _, _, _, rfl, _⟩ := h; rfl) | (obtain ⟨_, _, _, _, _, _, _, _, _, _, _, _, _, _, _, _, _, _, _, rfl, _⟩ := h; rfl) | (obtain ⟨_, _, _, _, _, _, _, _, _, _, _, _, _, _, _, _, _, _, _, _, rfl, _⟩ := h; rfl) | (obtain ⟨_, _, _, _, _, _, _, _, _, _, _, _, _, _, _, _, _, _, _, _, _, rfl, _⟩ := h; rfl) | (obtain ⟨_, _, _, _, _, _, _, _, _, _, _, _, _, _, _, _, _, _, _, _, _, _, rfl, _⟩ := h; rfl) | (obtain ⟨_, _, _, _, _, _, _, _, _, _, _, _, _, _, _, _, _, _, _, _, _, _, _, rfl, _⟩ := h; rfl) | (obtain ⟨_, _, _, _, _, _, _, _, _, _, _, _, _, _, _, _, _, _, _, _, _, _, _, _, rfl, _⟩ := h; rfl) | (obtain ⟨_, _, _, _, _, _, _, _, _, _, _, _, _, _, _, _, _, _, _, _, _, _, _, _, _, rfl, _⟩ := h; rfl)) (fun cdv A outer s H vs Q E hr h => ⟨_, d_Ratio___eq__ g_Ratio m_isinstance c_is_whole hr, p_eqR h⟩)
abbrev s_Ratio___ne__ : Stmt := inClass (top 10) 16
theorem sc_Ratio___ne__ : FnScope ["self", "other"] ["self", "other"] (defScope s_Ratio___ne__) := ⟨rfl, rfl, rfl, by decide +kernel, rfl, by decide +kernel, by decide +kernel⟩
theorem d_Ratio___ne__ {P : Program} {w : World} {K : PySem.W.Frag} {mg : Str → Option Value} {base : Heap} {C_Ratio : Addr} {CX : CXT} {f : Addr} {cdv : Value} {A : Around} {outer : List Env} {s : Shared} {H : Hp} {E : XK} (co_eq : CalO P w K mg base CX0 5 C_Ratio "__eq__" (spEqR K C_Ratio)) (oc_R : OpC K C_Ratio) (su_R : PySem.W.subIn K (.ref C_Ratio) (.type "int") = some false)
    (hr : Room 5 (A.deeper (envOfC "Ratio.__ne__" (defScope s_Ratio___ne__) s.heap.objs.size f cdv))) :
    PSs (cxOf CX P w K mg base ["self", "other"] "Ratio.__ne__" (defScope s_Ratio___ne__) f cdv A outer s H E) (defBody s_Ratio___ne__) (t_Ratio___ne__ K C_Ratio) :=
  (pss_one (ps_ret (pe_not (pe_cmpR (op_both dec_eq co_eq co_eq oc_R su_R (hr.mono (by decide)) pass0) (pv 0) (pv 1) (nomark _)))))
theorem ok_Ratio___ne__ {P : Program} {w : World} {K : PySem.W.Frag} {mg : Str → Option Value} {base : Heap} {C_Ratio : Addr} {f : Addr} {fd : FuncData} (F : FunD K "__ne__" "Ratio.__ne__" (defArgs s_Ratio___ne__) (defBody s_Ratio___ne__) (defScope s_Ratio___ne__) [] [] f fd) (co_eq : CalO P w K mg base CX0 5 C_Ratio "__eq__" (spEqR K C_Ratio)) (oc_R : OpC K C_Ratio) (su_R : PySem.W.subIn K (.ref C_Ratio) (.type "int") = some false) : FnOk P w K mg base CX0 6 f fd ["self", "other"] (spNeR K C_Ratio) :=
  F.ok sc_Ratio___ne__ (fun vs H Q E h => by first | (obtain ⟨_, rfl, _⟩ := h; rfl) | (obtain ⟨_, _, rfl, _⟩ := h; rfl) | (obtain ⟨_, _, _, rfl, _⟩ := h; rfl) | (obtain ⟨_, _, _, _, rfl, _⟩ := h; rfl) | (obtain ⟨_, _, _, _, _, rfl, _⟩ := h; rfl) | (obtain ⟨_, _, _, _, _, _, rfl, _⟩ := h; rfl) | (obtain ⟨_, _, _, _, _, _, _, rfl, _⟩ := h; rfl) | (obtain ⟨_, _, _, _, _, _, _, _, rfl, _⟩ := h; rfl) | (obtain ⟨_, _, _, _, _, _, _, _, _, rfl, _⟩ := h; rfl) | (obtain ⟨_, _, _, _, _, _, _, _, _, _, rfl, _⟩ := h; rfl) | (obtain ⟨_, _, _, _, _, _, _, _, _, _, _, rfl, _⟩ := h; rfl) | (obtain ⟨_, _, _, _, _, _, _, _, _, _, _, _, rfl, _⟩ := h; rfl) | (obtain ⟨_, _, _, _, _, _, _, _, _, _, _, _, _, rfl, _⟩ := h; rfl) | (obtain ⟨_, _, _, _, _, _, _, _, _, _, _, _, _, _, rfl, _⟩ := h; rfl) | (obtain ⟨_, _, _, _, _, _, _, _, _, _, _, _, _, _, _, rfl, _⟩ := h; rfl) | (obtain ⟨_, _, _, _, _, _, _, _, _, _, _, _, _, _, _, _, rfl, _⟩ := h; rfl) | (obtain ⟨_, _, _, _, _, _, _, _, _, _, _, _, _, _, _, _, _, rfl, _⟩ := h; rfl) | (obtain ⟨_, _, _, _, _, _, _, _, _, _, _, _, _, _, _, _, _, _, rfl, _⟩ := h; rfl) | (obtain ⟨_, _, _, _, _, _, _, _, _, _, _, _, _, _, _, _, _, _, _, rfl, _⟩ := h; rfl) | (obtain ⟨_, _, _, _, _, _, _, _, _, _, _, _, _, _, _, _, _, _, _, _, rfl, _⟩ := h; rfl) | (obtain ⟨_, _, _, _, _, _, _, _, _, _, _, _, _, _, _, _, _, _, _, _, _, rfl, _⟩ := h; rfl) | (obtain ⟨_, _, _, _, _, _, _, _, _, _, _, _, _, _, _, _, _, _, _, _, _, _, rfl, _⟩ := h; rfl) | (obtain ⟨_, _, _, _, _, _, _, _, _, _, _, _, _, _, _, _, _, _, _, _, _, _, _, rfl, _⟩ := h; rfl) | (obtain ⟨_, _, _, _, _, _, _, _, _, _, _, _, _, _, _, _, _, _, _, _, _, _, _, _, rfl, _⟩ := h; rfl) | (obtain ⟨_, _, _, _, _, _, _, _, _, _, _, _, _, _, _, _, _, _, _, _, _, _, _, _, _, rfl, _⟩ := h; rfl)) (fun cdv A outer s H vs Q E hr h => ⟨_, d_Ratio___ne__ co_eq oc_R su_R hr, p_neR h⟩)
abbrev s_Ratio___lt__ : Stmt := inClass (top 10) 17
theorem sc_Ratio___lt__ : FnScope ["self", "other", "right"] ["self", "other"] (defScope s_Ratio___lt__) := ⟨rfl, rfl, rfl, by decide +kernel, rfl, by decide +kernel, by decide +kernel⟩
theorem d_Ratio___lt__ {P : Program} {w : World} {K : PySem.W.Frag} {mg : Str → Option Value} {base : Heap} {C_Ratio : Addr} {CX : CXT} {f : Addr} {cdv : Value} {A : Around} {outer : List Env} {s : Shared} {H : Hp} {E : XK} (c_as_ratio : Cal P w K mg base CX0 4 "as_ratio" ["value"] (spAsR K C_Ratio)) (c_gap : Cal P w K mg base CX0 1 "gap" ["left", "right"] (spGap K C_Ratio))
    (hr : Room 4 (A.deeper (envOfC "Ratio.__lt__" (defScope s_Ratio___lt__) s.heap.objs.size f cdv))) :
    PSs (cxOf CX P w K mg base ["self", "other", "right"] "Ratio.__lt__" (defScope s_Ratio___lt__) f cdv A outer s H E) (defBody s_Ratio___lt__) (t_Ratio___lt__ K C_Ratio) :=
  (pss_cons (ps_set (i := 2) sc_Ratio___lt__.nd rfl (by first | exact Or.inl rfl | exact Or.inr rfl) (pe_cal c_as_ratio (hr.mono (by decide)) rfl pass0 (pa_cons (pv 1) pa_nil)))
    (pss_cons (ps_if (pt_cmpR op_isN (pv 2) pe_non (nomark _)) (pss_one ps_never) pss_nil)
    (pss_one (ps_ret (pe_cmpR op_lt (pe_cal c_gap (hr.mono (by decide)) rfl pass0 (pa_cons (pv 0) (pa_cons (pv 2) pa_nil))) pe_int (nomark _))))))
theorem ok_Ratio___lt__ {P : Program} {w : World} {K : PySem.W.Frag} {mg : Str → Option Value} {base : Heap} {C_Ratio : Addr} {f : Addr} {fd : FuncData} (F : FunD K "__lt__" "Ratio.__lt__" (defArgs s_Ratio___lt__) (defBody s_Ratio___lt__) (defScope s_Ratio___lt__) [] [] f fd) (c_as_ratio : Cal P w K mg base CX0 4 "as_ratio" ["value"] (spAsR K C_Ratio)) (c_gap : Cal P w K mg base CX0 1 "gap" ["left", "right"] (spGap K C_Ratio)) : FnOk P w K mg base CX0 5 f fd ["self", "other"] (spLt K C_Ratio) :=
  F.ok sc_Ratio___lt__ (fun vs H Q E h => by first | (obtain ⟨_, rfl, _⟩ := h; rfl) | (obtain ⟨_, _, rfl, _⟩ := h; rfl) | (obtain ⟨_, _, _, rfl, _⟩ := h; rfl) | (obtain ⟨_, _, _, _, rfl, _⟩ := h; rfl) | (obtain ⟨_, _, _, _, _, rfl, _⟩ := h; rfl) | (obtain ⟨_, _, _, _, _, _, rfl, _⟩ := h; rfl) | (obtain ⟨_, _, _, _, _, _, _, rfl, _⟩ := h; rfl) | (obtain ⟨_, _, _, _, _, _, _, _, rfl, _⟩ := h; rfl) | (obtain ⟨_, _, _, _, _, _, _, _, _, rfl, _⟩ := h; rfl) | (obtain ⟨_, _, _, _, _, _, _, _, _, _, rfl, _⟩ := h; rfl) | (obtain ⟨_, _, _, _, _, _, _, _, _, _, _, rfl, _⟩ := h; rfl) | (obtain ⟨_, _, _, _, _, _, _, _, _, _, _, _, rfl, _⟩ := h; rfl) | (obtain ⟨_, _, _, _, _, _, _, _, _, _, _, _, _, rfl, _⟩ := h; rfl) | (obtain ⟨_, _, _, _, _, _, _, _, _, _, _, _, _, _, rfl, _⟩ := h; rfl) | (obtain ⟨_, _, _, _, _, _, _, _, _, _, _, _, _, _, _, rfl, _⟩ := h; rfl) | (obtain ⟨_, _, _, _, _, _, _, _, _, _, _, _, _, _, _, _, rfl, _⟩ := h; rfl) | (obtain ⟨_, _, _, _, _, _, _, _, _, _, _, _, _, _, _, _, _, rfl, _⟩ := h; rfl) | (obtain ⟨_, _, _, _, _, _, _, _, _, _, _, _, _, _, _, _, _, _, rfl, _⟩ := h; rfl) | (obtain ⟨_, _, _, _, _, _, _, _, _, _, _, _, _, _, _, _, _, _, _, rfl, _⟩ := h; rfl) | (obtain ⟨_, _, _, _, _, _, _, _, _, _, _, _, _, _, _, _, _, _, _, _, rfl, _⟩ := h; rfl) | (obtain ⟨_, _, _, _, _, _, _, _, _, _, _, _, _, _, _, _, _, _, _, _, _, rfl, _⟩ := h; rfl) | (obtain ⟨_, _, _, _, _, _, _, _, _, _, _, _, _, _, _, _, _, _, _, _, _, _, rfl, _⟩ := h; rfl) | (obtain ⟨_, _, _, _, _, _, _, _, _, _, _, _, _, _, _, _, _, _, _, _, _, _, _, rfl, _⟩ := h; rfl) | (obtain ⟨_, _, _, _, _, _, _, _, _, _, _, _, _, _, _, _, _, _, _, _, _, _, _, _, rfl, _⟩ := h; rfl) | (obtain ⟨_, _, _, _, _, _, _, _, _, _, _, _, _, _, _, _, _, _, _, _, _, _, _, _, _, rfl, _⟩ := h; rfl)) (fun cdv A outer s H vs Q E hr h => ⟨_, d_Ratio___lt__ c_as_ratio c_gap hr, p_lt h⟩)
abbrev s_Ratio___le__ : Stmt := inClass (top 10) 18
theorem sc_Ratio___le__ : FnScope ["self", "other", "right"] ["self", "other"] (defScope s_Ratio___le__) := ⟨rfl, rfl, rfl, by decide +kernel, rfl, by decide +kernel, by decide +kernel⟩
theorem d_Ratio___le__ {P : Program} {w : World} {K : PySem.W.Frag} {mg : Str → Option Value} {base : Heap} {C_Ratio : Addr} {CX : CXT} {f : Addr} {cdv : Value} {A : Around} {outer : List Env} {s : Shared} {H : Hp} {E : XK} (c_as_ratio : Cal P w K mg base CX0 4 "as_ratio" ["value"] (spAsR K C_Ratio)) (c_gap : Cal P w K mg base CX0 1 "gap" ["left", "right"] (spGap K C_Ratio))
    (hr : Room 4 (A.deeper (envOfC "Ratio.__le__" (defScope s_Ratio___le__) s.heap.objs.size f cdv))) :
    PSs (cxOf CX P w K mg base ["self", "other", "right"] "Ratio.__le__" (defScope s_Ratio___le__) f cdv A outer s H E) (defBody s_Ratio___le__) (t_Ratio___le__ K C_Ratio) :=
  (pss_cons (ps_set (i := 2) sc_Ratio___le__.nd rfl (by first | exact Or.inl rfl | exact Or.inr rfl) (pe_cal c_as_ratio (hr.mono (by decide)) rfl pass0 (pa_cons (pv 1) pa_nil)))
    (pss_cons (ps_if (pt_cmpR op_isN (pv 2) pe_non (nomark _)) (pss_one ps_never) pss_nil)
    (pss_one (ps_ret (pe_cmpR op_le (pe_cal c_gap (hr.mono (by decide)) rfl pass0 (pa_cons (pv 0) (pa_cons (pv 2) pa_nil))) pe_int (nomark _))))))
theorem ok_Ratio___le__ {P : Program} {w : World} {K : PySem.W.Frag} {mg : Str → Option Value} {base : Heap} {C_Ratio : Addr} {f : Addr} {fd : FuncData} (F : FunD K "__le__" "Ratio.__le__" (defArgs s_Ratio___le__) (defBody s_Ratio___le__) (defScope s_Ratio___le__) [] [] f fd) (c_as_ratio : Cal P w K mg base CX0 4 "as_ratio" ["value"] (spAsR K C_Ratio)) (c_gap : Cal P w K mg base CX0 1 "gap" ["left", "right"] (spGap K C_Ratio)) : FnOk P w K mg base CX0 5 f fd ["self", "other"] (spLe K C_Ratio) :=
  F.ok sc_Ratio___le__ (fun vs H Q E h => by first | (obtain ⟨_, rfl, _⟩ := h; rfl) | (obtain ⟨_, _, rfl, _⟩ := h; rfl) | (obtain ⟨_, _, _, rfl, _⟩ := h; rfl) | (obtain ⟨_, _, _, _, rfl, _⟩ := h; rfl) | (obtain ⟨_, _, _, _, _, rfl, _⟩ := h; rfl) | (obtain ⟨_, _, _, _, _, _, rfl, _⟩ := h; rfl) | (obtain ⟨_, _, _, _, _, _, _, rfl, _⟩ := h; rfl) | (obtain ⟨_, _, _, _, _, _, _, _, rfl, _⟩ := h; rfl) | (obtain ⟨_, _, _, _, _, _, _, _, _, rfl, _⟩ := h; rfl) | (obtain ⟨_, _, _, _, _, _, _, _, _, _, rfl, _⟩ := h; rfl) | (obtain ⟨_, _, _, _, _, _, _, _, _, _, _, rfl, _⟩ := h; rfl) | (obtain ⟨_, _, _, _, _, _, _, _, _, _, _, _, rfl, _⟩ := h; rfl) | (obtain ⟨_, _, _, _, _, _, _, _, _, _, _, _, _, rfl, _⟩ := h; rfl) | (obtain ⟨_, _, _, _, _, _, _, _, _, _, _, _, _, _, rfl, _⟩ := h; rfl) | (obtain ⟨_, _, _, _, _, _, _, _, _, _, _, _, _, _, _, rfl, _⟩ := h; rfl) | (obtain ⟨_, _, _, _, _, _, _, _, _, _, _, _, _, _, _, _, rfl, _⟩ := h; rfl) | (obtain ⟨_, _, _, _, _, _, _, _, _, _, _, _, _, _, _, _, _, rfl, _⟩ := h; rfl) | (obtain ⟨_, _, _, _, _, _, _, _, _, _, _, _, _, _, _, _, _, _, rfl, _⟩ := h; rfl) | (obtain ⟨_, _, _, _, _, _, _, _, _, _, _, _, _, _, _, _, _, _, _, rfl, _⟩ := h; rfl) | (obtain ⟨_, _, _, _, _, _, _, _, _, _, _, _, _, _, _, _, _, _, _, _, rfl, _⟩ := h; rfl) | (obtain ⟨_, _, _, _, _, _, _, _, _, _, _, _, _, _, _, _, _, _, _, _, _, rfl, _⟩ := h; rfl) | (obtain ⟨_, _, _, _, _, _, _, _, _, _, _, _, _, _, _, _, _, _, _, _, _, _, rfl, _⟩ := h; rfl) | (obtain ⟨_, _, _, _, _, _, _, _, _, _, _, _, _, _, _, _, _, _, _, _, _, _, _, rfl, _⟩ := h; rfl) | (obtain ⟨_, _, _, _, _, _, _, _, _, _, _, _, _, _, _, _, _, _, _, _, _, _, _, _, rfl, _⟩ := h; rfl) | (obtain ⟨_, _, _, _, _, _, _, _, _, _, _, _, _, _, _, _, _, _, _, _, _, _, _, _, _, rfl, _⟩ := h; rfl)) (fun cdv A outer s H vs Q E hr h => ⟨_, d_Ratio___le__ c_as_ratio c_gap hr, p_le h⟩)
abbrev s_Ratio___gt__ : Stmt := inClass (top 10) 19
theorem sc_Ratio___gt__ : FnScope ["self", "other", "right"] ["self", "other"] (defScope s_Ratio___gt__) := ⟨rfl, rfl, rfl, by decide +kernel, rfl, by decide +kernel, by decide +kernel⟩
theorem d_Ratio___gt__ {P : Program} {w : World} {K : PySem.W.Frag} {mg : Str → Option Value} {base : Heap} {C_Ratio : Addr} {CX : CXT} {f : Addr} {cdv : Value} {A : Around} {outer : List Env} {s : Shared} {H : Hp} {E : XK} (c_as_ratio : Cal P w K mg base CX0 4 "as_ratio" ["value"] (spAsR K C_Ratio)) (c_gap : Cal P w K mg base CX0 1 "gap" ["left", "right"] (spGap K C_Ratio))
    (hr : Room 4 (A.deeper (envOfC "Ratio.__gt__" (defScope s_Ratio___gt__) s.heap.objs.size f cdv))) :
    PSs (cxOf CX P w K mg base ["self", "other", "right"] "Ratio.__gt__" (defScope s_Ratio___gt__) f cdv A outer s H E) (defBody s_Ratio___gt__) (t_Ratio___gt__ K C_Ratio) :=
  (pss_cons (ps_set (i := 2) sc_Ratio___gt__.nd rfl (by first | exact Or.inl rfl | exact Or.inr rfl) (pe_cal c_as_ratio (hr.mono (by decide)) rfl pass0 (pa_cons (pv 1) pa_nil)))
    (pss_cons (ps_if (pt_cmpR op_isN (pv 2) pe_non (nomark _)) (pss_one ps_never) pss_nil)
    (pss_one (ps_ret (pe_cmpR op_gt (pe_cal c_gap (hr.mono (by decide)) rfl pass0 (pa_cons (pv 0) (pa_cons (pv 2) pa_nil))) pe_int (nomark _))))))
theorem ok_Ratio___gt__ {P : Program} {w : World} {K : PySem.W.Frag} {mg : Str → Option Value} {base : Heap} {C_Ratio : Addr} {f : Addr} {fd : FuncData} (F : FunD K "__gt__" "Ratio.__gt__" (defArgs s_Ratio___gt__) (defBody s_Ratio___gt__) (defScope s_Ratio___gt__) [] [] f fd) (c_as_ratio : Cal P w K mg base CX0 4 "as_ratio" ["value"] (spAsR K C_Ratio)) (c_gap : Cal P w K mg base CX0 1 "gap" ["left", "right"] (spGap K C_Ratio)) : FnOk P w K mg base CX0 5 f fd ["self", "other"] (spGt K C_Ratio) :=
  F.ok sc_Ratio___gt__ (fun vs H Q E h => by first | (obtain ⟨_, rfl, _⟩ := h; rfl) | (obtain ⟨_, _, rfl, _⟩ := h; rfl) | (obtain ⟨_, _, _, rfl, _⟩ := h; rfl) | (obtain ⟨_, _, _, _, rfl, _⟩ := h; rfl) | (obtain ⟨_, _, _, _, _, rfl, _⟩ := h; rfl) | (obtain ⟨_, _, _, _, _, _, rfl, _⟩ := h; rfl) | (obtain ⟨_, _, _, _, _, _, _, rfl, _⟩ := h; rfl) | (obtain ⟨_, _, _, _, _, _, _, _, rfl, _⟩ := h; rfl) | (obtain ⟨_, _, _, _, _, _, _, _, _, rfl, _⟩ := h; rfl) | (obtain ⟨_, _, _, _, _, _, _, _, _, _, rfl, _⟩ := h; rfl) | (obtain ⟨_, _, _, _, _, _, _, _, _, _, _, rfl, _⟩ := h; rfl) | (obtain ⟨_, _, _, _, _, _, _, _, _, _, _, _, rfl, _⟩ := h; rfl) | (obtain ⟨_, _, _, _, _, _, _, _, _, _, _, _, _, rfl, _⟩ := h; rfl) | (obtain ⟨_, _, _, _, _, _, _, _, _, _, _, _, _, _, rfl, _⟩ := h; rfl) | (obtain ⟨_, _, _, _, _, _, _, _, _, _, _, _, _, _, _, rfl, _⟩ := h; rfl) | (obtain ⟨_, _, _, _, _, _, _, _, _, _, _, _, _, _, _, _, rfl, _⟩ := h; rfl) | (obtain ⟨_, _, _, _, _, _, _, _, _, _, _, _, _, _, _, _, _, rfl, _⟩ := h; rfl) | (obtain ⟨_, _, _, _, _, _, _, _, _, _, _, _, _, _, _, _, _, _, rfl, _⟩ := h; rfl) | (obtain ⟨_, _, _, _, _, _, _, _, _, _, _, _, _, _, _, _, _, _, _, rfl, _⟩ := h; rfl) | (obtain ⟨_, _, _, _, _, _, _, _, _, _, _, _, _, _, _, _, _, _, _, _, rfl, _⟩ := h; rfl) | (obtain ⟨_, _, _, _, _, _, _, _, _, _, _, _, _, _, _, _, _, _, _, _, _, rfl, _⟩ := h; rfl) | (obtain ⟨_, _, _, _, _, _, _, _, _, _, _, _, _, _, _, _, _, _, _, _, _, _, rfl, _⟩ := h; rfl) | (obtain ⟨_, _, _, _, _, _, _, _, _, _, _, _, _, _, _, _, _, _, _, _, _, _, _, rfl, _⟩ := h; rfl) | (obtain ⟨_, _, _, _, _, _, _, _, _, _, _, _, _, _, _, _, _, _, _, _, _, _, _, _, rfl, _⟩ := h; rfl) | (obtain ⟨_, _, _, _, _, _, _, _, _, _, _, _, _, _, _, _, _, _, _, _, _, _, _, _, _, rfl, _⟩ := h; rfl)) (fun cdv A outer s H vs Q E hr h => ⟨_, d_Ratio___gt__ c_as_ratio c_gap hr, p_gt h⟩)
abbrev s_Ratio___ge__ : Stmt := inClass (top 10) 20
theorem sc_Ratio___ge__ : FnScope ["self", "other", "right"] ["self", "other"] (defScope s_Ratio___ge__) := ⟨rfl, rfl, rfl, by decide +kernel, rfl, by decide +kernel, by decide +kernel⟩
theorem d_Ratio___ge__ {P : Program} {w : World} {K : PySem.W.Frag} {mg : Str → Option Value} {base : Heap} {C_Ratio : Addr} {CX : CXT} {f : Addr} {cdv : Value} {A : Around} {outer : List Env} {s : Shared} {H : Hp} {E : XK} (c_as_ratio : Cal P w K mg base CX0 4 "as_ratio" ["value"] (spAsR K C_Ratio)) (c_gap : Cal P w K mg base CX0 1 "gap" ["left", "right"] (spGap K C_Ratio))
    (hr : Room 4 (A.deeper (envOfC "Ratio.__ge__" (defScope s_Ratio___ge__) s.heap.objs.size f cdv))) :
    PSs (cxOf CX P w K mg base ["self", "other", "right"] "Ratio.__ge__" (defScope s_Ratio___ge__) f cdv A outer s H E) (defBody s_Ratio___ge__) (t_Ratio___ge__ K C_Ratio) :=
  (pss_cons (ps_set (i := 2) sc_Ratio___ge__.nd rfl (by first | exact Or.inl rfl | exact Or.inr rfl) (pe_cal c_as_ratio (hr.mono (by decide)) rfl pass0 (pa_cons (pv 1) pa_nil)))
    (pss_cons (ps_if (pt_cmpR op_isN (pv 2) pe_non (nomark _)) (pss_one ps_never) pss_nil)
    (pss_one (ps_ret (pe_cmpR op_ge (pe_cal c_gap (hr.mono (by decide)) rfl pass0 (pa_cons (pv 0) (pa_cons (pv 2) pa_nil))) pe_int (nomark _))))))
theorem ok_Ratio___ge__ {P : Program} {w : World} {K : PySem.W.Frag} {mg : Str → Option Value} {base : Heap} {C_Ratio : Addr} {f : Addr} {fd : FuncData} (F : FunD K "__ge__" "Ratio.__ge__" (defArgs s_Ratio___ge__) (defBody s_Ratio___ge__) (defScope s_Ratio___ge__) [] [] f fd) (c_as_ratio : Cal P w K mg base CX0 4 "as_ratio" ["value"] (spAsR K C_Ratio)) (c_gap : Cal P w K mg base CX0 1 "gap" ["left", "right"] (spGap K C_Ratio)) : FnOk P w K mg base CX0 5 f fd ["self", "other"] (spGe K C_Ratio) :=
  F.ok sc_Ratio___ge__ (fun vs H Q E h => by first | (obtain ⟨_, rfl, _⟩ := h; rfl) | (obtain ⟨_, _, rfl, _⟩ := h; rfl) | (obtain ⟨_, _, _, rfl, _⟩ := h; rfl) | (obtain ⟨_, _, _, _, rfl, _⟩ := h; rfl) | (obtain ⟨_, _, _, _, _, rfl, _⟩ := h; rfl) | (obtain ⟨_, _, _, _, _, _, rfl, _⟩ := h; rfl) | (obtain ⟨_, _, _, _, _, _, _, rfl, _⟩ := h; rfl) | (obtain ⟨_, _, _, _, _, _, _, _, rfl, _⟩ := h; rfl) | (obtain ⟨_, _, _, _, _, _, _, _, _, rfl, _⟩ := h; rfl) | (obtain ⟨_, _, _, _, _, _, _, _, _, _, rfl, _⟩ := h; rfl) | (obtain ⟨_, _, _, _, _, _, _, _, _, _, _, rfl, _⟩ := h; rfl) | (obtain ⟨_, _, _, _, _, _, _, _, _, _, _, _, rfl, _⟩ := h; rfl) | (obtain ⟨_, _, _, _, _, _, _, _, _, _, _, _, _, rfl, _⟩ := h; rfl) | (obtain ⟨_, _, _, _, _, _, _, _, _, _, _, _, _, _, rfl, _⟩ := h; rfl) | (obtain ⟨_, _, _, _, _, _, _, _, _, _, _, _, _, _, _, rfl, _⟩ := h; rfl) | (obtain ⟨_, _, _, _, _, _, _, _, _, _, _, _, _, _, _, _, rfl, _⟩ := h; rfl) | (obtain ⟨_, _, _, _, _, _, _, _, _, _, _, _, _, _, _, _, _, rfl, _⟩ := h; rfl) | (obtain ⟨_, _, _, _, _, _, _, _, _, _, _, _, _, _, _, _, _, _, rfl, _⟩ := h; rfl) | (obtain ⟨_, _, _, _, _, _, _, _, _, _, _, _, _, _, _, _, _, _, _, rfl, _⟩ := h; rfl) | (obtain ⟨_, _, _, _, _, _, _, _, _, _, _, _, _, _, _, _, _, _, _, _, rfl, _⟩ := h; rfl) | (obtain ⟨_, _, _, _, _, _, _, _, _, _, _, _, _, _, _, _, _, _, _, _, _, rfl, _⟩ := h; rfl) | (obtain ⟨_, _, _, _, _, _, _, _, _, _, _, _, _, _, _, _, _, _, _, _, _, _, rfl, _⟩ := h; rfl) | (obtain ⟨_, _, _, _, _, _, _, _, _, _, _, _, _, _, _, _, _, _, _, _, _, _, _, rfl, _⟩ := h; rfl) | (obtain ⟨_, _, _, _, _, _, _, _, _, _, _, _, _, _, _, _, _, _, _, _, _, _, _, _, rfl, _⟩ := h; rfl) | (obtain ⟨_, _, _, _, _, _, _, _, _, _, _, _, _, _, _, _, _, _, _, _, _, _, _, _, _, rfl, _⟩ := h; rfl)) (fun cdv A outer s H vs Q E hr h => ⟨_, d_Ratio___ge__ c_as_ratio c_gap hr, p_ge h⟩)
abbrev s__law_pool : Stmt := top 12
theorem sc__law_pool : FnScope ["_law_script", "_law_k", "_law_cell", "_law_number", "_law_mixed"] ["_law_script", "_law_k"] (defScope s__law_pool) := ⟨rfl, rfl, rfl, by decide +kernel, rfl, by decide +kernel, by decide +kernel⟩
theorem d__law_pool {P : Program} {w : World} {K : PySem.W.Frag} {mg : Str → Option Value} {base : Heap} {CX : CXT} {f : Addr} {cdv : Value} {A : Around} {outer : List Env} {s : Shared} {H : Hp} {E : XK} (m_int : mg "int" = none)
    (hr : Room 0 (A.deeper (envOfC "_law_pool" (defScope s__law_pool) s.heap.objs.size f cdv))) :
    PSs (cxOf CX P w K mg base ["_law_script", "_law_k", "_law_cell", "_law_number", "_law_mixed"] "_law_pool" (defScope s__law_pool) f cdv A outer s H E) (defBody s__law_pool) (t__law_pool K) :=
  (pss_cons (ps_set (i := 2) sc__law_pool.nd rfl (by first | exact Or.inl rfl | exact Or.inr rfl) (pe_ix ix_list (pe_op op_cat (pe_slice sl_list (pv 0) (po_some (pv 1)) (po_some (pe_op op_add (pv 1) pe_int))) (pe_lst (pa_cons pe_int pa_nil))) pe_int (fun _ _ => rfl)))
    (pss_cons (ps_set (i := 3) sc__law_pool.nd rfl (by first | exact Or.inl rfl | exact Or.inr rfl) (pe_ifExp (pt_cmpR op_ge (pv 2) pe_int (nomark _)) (pv 2) (pe_op op_sub (pe_un un_neg pe_int) (pv 2))))
    (pss_cons (ps_set (i := 4) sc__law_pool.nd rfl (by first | exact Or.inl rfl | exact Or.inr rfl) (pe_op op_mod (pe_op op_mul (pe_op op_add (pe_op op_add (pe_op op_add (pe_op op_mod (pv 3) pe_int) (pe_op op_mul (pe_op op_mul pe_int (pv 1)) (pv 1))) (pe_op op_mul pe_int (pv 1))) pe_int) pe_int) pe_int))
    (pss_one (ps_ret (pe_lst (pa_cons (pe_op op_mul (pv 3) (pe_callTy call_int1 (by rfl) m_int (by decide +kernel) (pa_cons (pe_cmpR op_ge (pv 3) (pe_op op_pow pe_int pe_int) (nomark _)) pa_nil))) (pa_cons (pe_op op_mod (pe_op op_mul (pv 4) (pv 4)) pe_int) pa_nil))))))))
theorem ok__law_pool {P : Program} {w : World} {K : PySem.W.Frag} {mg : Str → Option Value} {base : Heap} {f : Addr} {fd : FuncData} (F : FunD K "_law_pool" "_law_pool" (defArgs s__law_pool) (defBody s__law_pool) (defScope s__law_pool) [] [] f fd) (m_int : mg "int" = none) : FnOk P w K mg base CX0 1 f fd ["_law_script", "_law_k"] (spPool K) :=
  F.ok sc__law_pool (fun vs H Q E h => by first | (obtain ⟨_, rfl, _⟩ := h; rfl) | (obtain ⟨_, _, rfl, _⟩ := h; rfl) | (obtain ⟨_, _, _, rfl, _⟩ := h; rfl) | (obtain ⟨_, _, _, _, rfl, _⟩ := h; rfl) | (obtain ⟨_, _, _, _, _, rfl, _⟩ := h; rfl) | (obtain ⟨_, _, _, _, _, _, rfl, _⟩ := h; rfl) | (obtain ⟨_, _, _, _, _, _, _, rfl, _⟩ := h; rfl) | (obtain ⟨_, _, _, _, _, _, _, _, rfl, _⟩ := h; rfl) | (obtain ⟨_, _, _, _, _, _, _, _, _, rfl, _⟩ := h; rfl) | (obtain ⟨_, _, _, _, _, _, _, _, _, _, rfl, _⟩ := h; rfl) | (obtain ⟨_, _, _, _, _, _, _, _, _, _, _, rfl, _⟩ := h; rfl) | (obtain ⟨_, _, _, _, _, _, _, _, _, _, _, _, rfl, _⟩ := h; rfl) | (obtain ⟨_, _, _, _, _, _, _, _, _, _, _, _, _, rfl, _⟩ := h; rfl) | (obtain ⟨_, _, _, _, _, _, _, _, _, _, _, _, _, _, rfl, _⟩ := h; rfl) | (obtain ⟨_, _, _, _, _, _, _, _, _, _, _, _, _, _, _, rfl, _⟩ := h; rfl) | (obtain ⟨_, _, _, _, _, _, _, _, _, _, _, _, _, _, _, _, rfl, _⟩ := h; rfl) | (obtain ⟨_, _, _, _, _, _, _, _, _, _, _, _, _, _, _, _, _, rfl, _⟩ := h; rfl) | (obtain ⟨_, _, _, _, _, _, _, _, _, _, _, _, _, _, _, _, _, _, rfl, _⟩ := h; rfl) | (obtain ⟨_, _, _, _, _, _, _, _, _, _, _, _, _, _, _, _, _, _, _, rfl, _⟩ := h; rfl) | (obtain ⟨_, _, _, _, _, _, _, _, _, _, _, _, _, _, _, _, _, _, _, _, rfl, _⟩ := h; rfl) | (obtain ⟨_, _, _, _, _, _, _, _, _, _, _, _, _, _, _, _, _, _, _, _, _, rfl, _⟩ := h; rfl) | (obtain ⟨_, _, _, _, _, _, _, _, _, _, _, _, _, _, _, _, _, _, _, _, _, _, rfl, _⟩ := h; rfl) | (obtain ⟨_, _, _, _, _, _, _, _, _, _, _, _, _, _, _, _, _, _, _, _, _, _, _, rfl, _⟩ := h; rfl) | (obtain ⟨_, _, _, _, _, _, _, _, _, _, _, _, _, _, _, _, _, _, _, _, _, _, _, _, rfl, _⟩ := h; rfl) | (obtain ⟨_, _, _, _, _, _, _, _, _, _, _, _, _, _, _, _, _, _, _, _, _, _, _, _, _, rfl, _⟩ := h; rfl)) (fun cdv A outer s H vs Q E hr h => ⟨_, d__law_pool m_int hr, p_pool h⟩)
abbrev s__law_take : Stmt := top 13
theorem sc__law_take : FnScope ["_law_pool_here", "_law_many", "_law_digit"] ["_law_pool_here", "_law_many"] (defScope s__law_take) := ⟨rfl, rfl, rfl, by decide +kernel, rfl, by decide +kernel, by decide +kernel⟩
theorem d__law_take {P : Program} {w : World} {K : PySem.W.Frag} {mg : Str → Option Value} {base : Heap} {CX : CXT} {f : Addr} {cdv : Value} {A : Around} {outer : List Env} {s : Shared} {H : Hp} {E : XK} 
    (hr : Room 0 (A.deeper (envOfC "_law_take" (defScope s__law_take) s.heap.objs.size f cdv))) :
    PSs (cxOf CX P w K mg base ["_law_pool_here", "_law_many", "_law_digit"] "_law_take" (defScope s__law_take) f cdv A outer s H E) (defBody s__law_take) (t__law_take K) :=
  (pss_cons (ps_if (pt_cmpR op_gt (pe_ix ix_list (pv 0) pe_int (fun _ _ => rfl)) pe_int (nomark _)) (pss_cons (ps_set (i := 2) sc__law_take.nd rfl (by first | exact Or.inl rfl | exact Or.inr rfl) (pe_op op_mod (pe_ix ix_list (pv 0) pe_int (fun _ _ => rfl)) (pv 1)))
    (pss_cons (ps_asg (pe_op op_fdivW (pe_ix ix_list (pv 0) pe_int (fun _ _ => rfl)) (pv 1)) (pg_sub (pv 0) pe_int set_list))
    (pss_one (ps_ret (pv 2))))) pss_nil)
    (pss_cons (ps_asg (pe_op op_mod (pe_op op_add (pe_op op_mul (pe_ix ix_list (pv 0) pe_int (fun _ _ => rfl)) pe_int) pe_int) pe_int) (pg_sub (pv 0) pe_int set_list))
    (pss_one (ps_ret (pe_op op_mod (pe_op op_fdivW (pe_op op_mod (pe_op op_mul (pe_ix ix_list (pv 0) pe_int (fun _ _ => rfl)) (pe_ix ix_list (pv 0) pe_int (fun _ _ => rfl))) pe_int) pe_int) (pv 1))))))
theorem ok__law_take {P : Program} {w : World} {K : PySem.W.Frag} {mg : Str → Option Value} {base : Heap} {f : Addr} {fd : FuncData} (F : FunD K "_law_take" "_law_take" (defArgs s__law_take) (defBody s__law_take) (defScope s__law_take) [] [] f fd)  : FnOk P w K mg base CX0 1 f fd ["_law_pool_here", "_law_many"] (spTake K) :=
  F.ok sc__law_take (fun vs H Q E h => by first | (obtain ⟨_, rfl, _⟩ := h; rfl) | (obtain ⟨_, _, rfl, _⟩ := h; rfl) | (obtain ⟨_, _, _, rfl, _⟩ := h; rfl) | (obtain ⟨_, _, _, _, rfl, _⟩ := h; rfl) | (obtain ⟨_, _, _, _, _, rfl, _⟩ := h; rfl) | (obtain ⟨_, _, _, _, _, _, rfl, _⟩ := h; rfl) | (obtain ⟨_, _, _, _, _, _, _, rfl, _⟩ := h; rfl) | (obtain ⟨_, _, _, _, _, _, _, _, rfl, _⟩ := h; rfl) | (obtain ⟨_, _, _, _, _, _, _, _, _, rfl, _⟩ := h; rfl) | (obtain ⟨_, _, _, _, _, _, _, _, _, _, rfl, _⟩ := h; rfl) | (obtain ⟨_, _, _, _, _, _, _, _, _, _, _, rfl, _⟩ := h; rfl) | (obtain ⟨_, _, _, _, _, _, _, _, _, _, _, _, rfl, _⟩ := h; rfl) | (obtain ⟨_, _, _, _, _, _, _, _, _, _, _, _, _, rfl, _⟩ := h; rfl) | (obtain ⟨_, _, _, _, _, _, _, _, _, _, _, _, _, _, rfl, _⟩ := h; rfl) | (obtain ⟨_, _, _, _, _, _, _, _, _, _, _, _, _, _, _, rfl, _⟩ := h; rfl) | (obtain ⟨_, _, _, _, _, _, _, _, _, _, _, _, _, _, _, _, rfl, _⟩ := h; rfl) | (obtain ⟨_, _, _, _, _, _, _, _, _, _, _, _, _, _, _, _, _, rfl, _⟩ := h; rfl) | (obtain ⟨_, _, _, _, _, _, _, _, _, _, _, _, _, _, _, _, _, _, rfl, _⟩ := h; rfl) | (obtain ⟨_, _, _, _, _, _, _, _, _, _, _, _, _, _, _, _, _, _, _, rfl, _⟩ := h; rfl) | (obtain ⟨_, _, _, _, _, _, _, _, _, _, _, _, _, _, _, _, _, _, _, _, rfl, _⟩ := h; rfl) | (obtain ⟨_, _, _, _, _, _, _, _, _, _, _, _, _, _, _, _, _, _, _, _, _, rfl, _⟩ := h; rfl) | (obtain ⟨_, _, _, _, _, _, _, _, _, _, _, _, _, _, _, _, _, _, _, _, _, _, rfl, _⟩ := h; rfl) | (obtain ⟨_, _, _, _, _, _, _, _, _, _, _, _, _, _, _, _, _, _, _, _, _, _, _, rfl, _⟩ := h; rfl) | (obtain ⟨_, _, _, _, _, _, _, _, _, _, _, _, _, _, _, _, _, _, _, _, _, _, _, _, rfl, _⟩ := h; rfl) | (obtain ⟨_, _, _, _, _, _, _, _, _, _, _, _, _, _, _, _, _, _, _, _, _, _, _, _, _, rfl, _⟩ := h; rfl)) (fun cdv A outer s H vs Q E hr h => ⟨_, d__law_take  hr, p_take h⟩)
abbrev s__law_whole : Stmt := top 14
theorem sc__law_whole : FnScope ["_law_pool_here", "_law_size"] ["_law_pool_here"] (defScope s__law_whole) := ⟨rfl, rfl, rfl, by decide +kernel, rfl, by decide +kernel, by decide +kernel⟩
theorem d__law_whole {P : Program} {w : World} {K : PySem.W.Frag} {mg : Str → Option Value} {base : Heap} {CX : CXT} {f : Addr} {cdv : Value} {A : Around} {outer : List Env} {s : Shared} {H : Hp} {E : XK} (c__law_take : Cal P w K mg base CX0 1 "_law_take" ["_law_pool_here", "_law_many"] (spTake K))
    (hr : Room 1 (A.deeper (envOfC "_law_whole" (defScope s__law_whole) s.heap.objs.size f cdv))) :
    PSs (cxOf CX P w K mg base ["_law_pool_here", "_law_size"] "_law_whole" (defScope s__law_whole) f cdv A outer s H E) (defBody s__law_whole) (t__law_whole K) :=
  (pss_cons (ps_set (i := 1) sc__law_whole.nd rfl (by first | exact Or.inl rfl | exact Or.inr rfl) (pe_ix ix_list (pe_lst (pa_cons pe_int (pa_cons pe_int (pa_cons (pe_op op_pow pe_int pe_int) pa_nil)))) (pe_cal c__law_take (hr.mono (by decide)) rfl pass0 (pa_cons (pv 0) (pa_cons pe_int pa_nil))) (fun _ _ => rfl)))
    (pss_one (ps_ret (pe_op op_mul (pe_cal c__law_take (hr.mono (by decide)) rfl pass0 (pa_cons (pv 0) (pa_cons (pv 1) pa_nil))) (pe_ix ix_list (pe_lst (pa_cons pe_int (pa_cons (pe_un un_neg pe_int) pa_nil))) (pe_cal c__law_take (hr.mono (by decide)) rfl pass0 (pa_cons (pv 0) (pa_cons pe_int pa_nil))) (fun _ _ => rfl))))))
theorem ok__law_whole {P : Program} {w : World} {K : PySem.W.Frag} {mg : Str → Option Value} {base : Heap} {f : Addr} {fd : FuncData} (F : FunD K "_law_whole" "_law_whole" (defArgs s__law_whole) (defBody s__law_whole) (defScope s__law_whole) [] [] f fd) (c__law_take : Cal P w K mg base CX0 1 "_law_take" ["_law_pool_here", "_law_many"] (spTake K)) : FnOk P w K mg base CX0 2 f fd ["_law_pool_here"] (spLWhole K) :=
  F.ok sc__law_whole (fun vs H Q E h => by first | (obtain ⟨_, rfl, _⟩ := h; rfl) | (obtain ⟨_, _, rfl, _⟩ := h; rfl) | (obtain ⟨_, _, _, rfl, _⟩ := h; rfl) | (obtain ⟨_, _, _, _, rfl, _⟩ := h; rfl) | (obtain ⟨_, _, _, _, _, rfl, _⟩ := h; rfl) | (obtain ⟨_, _, _, _, _, _, rfl, _⟩ := h; rfl) | (obtain ⟨_, _, _, _, _, _, _, rfl, _⟩ := h; rfl) | (obtain ⟨_, _, _, _, _, _, _, _, rfl, _⟩ := h; rfl) | (obtain ⟨_, _, _, _, _, _, _, _, _, rfl, _⟩ := h; rfl) | (obtain ⟨_, _, _, _, _, _, _, _, _, _, rfl, _⟩ := h; rfl) | (obtain ⟨_, _, _, _, _, _, _, _, _, _, _, rfl, _⟩ := h; rfl) | (obtain ⟨_, _, _, _, _, _, _, _, _, _, _, _, rfl, _⟩ := h; rfl) | (obtain ⟨_, _, _, _, _, _, _, _, _, _, _, _, _, rfl, _⟩ := h; rfl) | (obtain ⟨_, _, _, _, _, _, _, _, _, _, _, _, _, _, rfl, _⟩ := h; rfl) | (obtain ⟨_, _, _, _, _, _, _, _, _, _, _, _, _, _, _, rfl, _⟩ := h; rfl) | (obtain ⟨_, _, _, _, _, _, _, _, _, _, _, _, _, _, _, _, rfl, _⟩ := h; rfl) | (obtain ⟨_, _, _, _, _, _, _, _, _, _, _, _, _, _, _, _, _, rfl, _⟩ := h; rfl) | (obtain ⟨_, _, _, _, _, _, _, _, _, _, _, _, _, _, _, _, _, _, rfl, _⟩ := h; rfl) | (obtain ⟨_, _, _, _, _, _, _, _, _, _, _, _, _, _, _, _, _, _, _, rfl, _⟩ := h; rfl) | (obtain ⟨_, _, _, _, _, _, _, _, _, _, _, _, _, _, _, _, _, _, _, _, rfl, _⟩ := h; rfl) | (obtain ⟨_, _, _, _, _, _, _, _, _, _, _, _, _, _, _, _, _, _, _, _, _, rfl, _⟩ := h; rfl) | (obtain ⟨_, _, _, _, _, _, _, _, _, _, _, _, _, _, _, _, _, _, _, _, _, _, rfl, _⟩ := h; rfl) | (obtain ⟨_, _, _, _, _, _, _, _, _, _, _, _, _, _, _, _, _, _, _, _, _, _, _, rfl, _⟩ := h; rfl) | (obtain ⟨_, _, _, _, _, _, _, _, _, _, _, _, _, _, _, _, _, _, _, _, _, _, _, _, rfl, _⟩ := h; rfl) | (obtain ⟨_, _, _, _, _, _, _, _, _, _, _, _, _, _, _, _, _, _, _, _, _, _, _, _, _, rfl, _⟩ := h; rfl)) (fun cdv A outer s H vs Q E hr h => ⟨_, d__law_whole c__law_take hr, p_lwhole h⟩)
abbrev s__law_right : Stmt := top 15
theorem sc__law_right : FnScope ["_law_one", "_law_other", "_law_a", "_law_b", "_law_c", "_law_d", "_law_left", "_law_right_here", "_law_found"] ["_law_one", "_law_other", "_law_a", "_law_b", "_law_c", "_law_d"] (defScope s__law_right) := ⟨rfl, rfl, rfl, by decide +kernel, rfl, by decide +kernel, by decide +kernel⟩
theorem d__law_right {P : Program} {w : World} {K : PySem.W.Frag} {mg : Str → Option Value} {base : Heap} {C_Ratio : Addr} {CX : CXT} {f : Addr} {cdv : Value} {A : Around} {outer : List Env} {s : Shared} {H : Hp} {E : XK} (co_ne : CalO P w K mg base CX0 6 C_Ratio "__ne__" (spNeR K C_Ratio)) (oc_R : OpC K C_Ratio) (su_R : PySem.W.subIn K (.ref C_Ratio) (.type "int") = some false) (co_eq : CalO P w K mg base CX0 5 C_Ratio "__eq__" (spEqR K C_Ratio)) (co_ge : CalO P w K mg base CX0 5 C_Ratio "__ge__" (spGe K C_Ratio)) (co_le : CalO P w K mg base CX0 5 C_Ratio "__le__" (spLe K C_Ratio)) (co_gt : CalO P w K mg base CX0 5 C_Ratio "__gt__" (spGt K C_Ratio)) (co_lt : CalO P w K mg base CX0 5 C_Ratio "__lt__" (spLt K C_Ratio))
    (hr : Room 6 (A.deeper (envOfC "_law_right" (defScope s__law_right) s.heap.objs.size f cdv))) :
    PSs (cxOf CX P w K mg base ["_law_one", "_law_other", "_law_a", "_law_b", "_law_c", "_law_d", "_law_left", "_law_right_here", "_law_found"] "_law_right" (defScope s__law_right) f cdv A outer s H E) (defBody s__law_right) (t__law_right K C_Ratio) :=
  (pss_cons (ps_par (by rfl) sc__law_right.nd rfl rfl (by decide) rfl rfl (pa_cons (pe_op op_mul (pv 2) (pv 5)) (pa_cons (pe_op op_mul (pv 4) (pv 3)) pa_nil)) (by rfl))
    (pss_cons (ps_set (i := 8) sc__law_right.nd rfl (by first | exact Or.inl rfl | exact Or.inr rfl) (pe_lst (pa_cons (pe_cmpR (op_both dec_lt co_lt co_gt oc_R su_R (hr.mono (by decide)) pass0) (pv 0) (pv 1) (nomark _)) (pa_cons (pe_cmpR (op_both dec_le co_le co_ge oc_R su_R (hr.mono (by decide)) pass0) (pv 0) (pv 1) (nomark _)) (pa_cons (pe_cmpR (op_both dec_gt co_gt co_lt oc_R su_R (hr.mono (by decide)) pass0) (pv 0) (pv 1) (nomark _)) (pa_cons (pe_cmpR (op_both dec_ge co_ge co_le oc_R su_R (hr.mono (by decide)) pass0) (pv 0) (pv 1) (nomark _)) (pa_cons (pe_cmpR (op_both dec_eq co_eq co_eq oc_R su_R (hr.mono (by decide)) pass0) (pv 0) (pv 1) (nomark _)) (pa_cons (pe_cmpR (op_both dec_ne co_ne co_ne oc_R su_R (hr.mono (by decide)) pass0) (pv 0) (pv 1) (nomark _)) pa_nil))))))))
    (pss_cons (ps_if (pt_cmpR (op_neD hr.units) (pv 8) (pe_lst (pa_cons (pe_cmpR op_lt (pv 6) (pv 7) (nomark _)) (pa_cons (pe_cmpR op_le (pv 6) (pv 7) (nomark _)) (pa_cons (pe_cmpR op_gt (pv 6) (pv 7) (nomark _)) (pa_cons (pe_cmpR op_ge (pv 6) (pv 7) (nomark _)) (pa_cons (pe_cmpR op_eq (pv 6) (pv 7) (nomark _)) (pa_cons (pe_cmpR op_ne (pv 6) (pv 7) (nomark _)) pa_nil))))))) (nomark _)) (pss_one (ps_ret pe_bl)) pss_nil)
    (pss_cons (ps_set (i := 8) sc__law_right.nd rfl (by first | exact Or.inl rfl | exact Or.inr rfl) (pe_lst (pa_cons (pe_cmpR (op_both dec_lt co_lt co_gt oc_R su_R (hr.mono (by decide)) pass0) (pv 1) (pv 0) (nomark _)) (pa_cons (pe_cmpR (op_both dec_le co_le co_ge oc_R su_R (hr.mono (by decide)) pass0) (pv 1) (pv 0) (nomark _)) (pa_cons (pe_cmpR (op_both dec_gt co_gt co_lt oc_R su_R (hr.mono (by decide)) pass0) (pv 1) (pv 0) (nomark _)) (pa_cons (pe_cmpR (op_both dec_ge co_ge co_le oc_R su_R (hr.mono (by decide)) pass0) (pv 1) (pv 0) (nomark _)) (pa_cons (pe_cmpR (op_both dec_eq co_eq co_eq oc_R su_R (hr.mono (by decide)) pass0) (pv 1) (pv 0) (nomark _)) (pa_cons (pe_cmpR (op_both dec_ne co_ne co_ne oc_R su_R (hr.mono (by decide)) pass0) (pv 1) (pv 0) (nomark _)) pa_nil))))))))
    (pss_one (ps_ret (pe_cmpR (op_eqD hr.units) (pv 8) (pe_lst (pa_cons (pe_cmpR op_gt (pv 6) (pv 7) (nomark _)) (pa_cons (pe_cmpR op_ge (pv 6) (pv 7) (nomark _)) (pa_cons (pe_cmpR op_lt (pv 6) (pv 7) (nomark _)) (pa_cons (pe_cmpR op_le (pv 6) (pv 7) (nomark _)) (pa_cons (pe_cmpR op_eq (pv 6) (pv 7) (nomark _)) (pa_cons (pe_cmpR op_ne (pv 6) (pv 7) (nomark _)) pa_nil))))))) (nomark _))))))))
theorem ok__law_right {P : Program} {w : World} {K : PySem.W.Frag} {mg : Str → Option Value} {base : Heap} {C_Ratio : Addr} {f : Addr} {fd : FuncData} (F : FunD K "_law_right" "_law_right" (defArgs s__law_right) (defBody s__law_right) (defScope s__law_right) [] [] f fd) (co_ne : CalO P w K mg base CX0 6 C_Ratio "__ne__" (spNeR K C_Ratio)) (oc_R : OpC K C_Ratio) (su_R : PySem.W.subIn K (.ref C_Ratio) (.type "int") = some false) (co_eq : CalO P w K mg base CX0 5 C_Ratio "__eq__" (spEqR K C_Ratio)) (co_ge : CalO P w K mg base CX0 5 C_Ratio "__ge__" (spGe K C_Ratio)) (co_le : CalO P w K mg base CX0 5 C_Ratio "__le__" (spLe K C_Ratio)) (co_gt : CalO P w K mg base CX0 5 C_Ratio "__gt__" (spGt K C_Ratio)) (co_lt : CalO P w K mg base CX0 5 C_Ratio "__lt__" (spLt K C_Ratio)) : FnOk P w K mg base CX0 7 f fd ["_law_one", "_law_other", "_law_a", "_law_b", "_law_c", "_law_d"] (spRight K C_Ratio) :=
  F.ok sc__law_right (fun vs H Q E h => by first | (obtain ⟨_, rfl, _⟩ := h; rfl) | (obtain ⟨_, _, rfl, _⟩ := h; rfl) | (obtain ⟨_, _, _, rfl, _⟩ := h; rfl) | (obtain ⟨_, _, _, _, rfl, _⟩ := h; rfl) | (obtain ⟨_, _, _, _, _, rfl, _⟩ := h; rfl) | (obtain ⟨_, _, _, _, _, _, rfl, _⟩ := h; rfl) | (obtain ⟨_, _, _, _, _, _, _, rfl, _⟩ := h; rfl) | (obtain ⟨_, _, _, _, _, _, _, _, rfl, _⟩ := h; rfl) | (obtain ⟨_, _, _, _, _, _, _, _, _, rfl, _⟩ := h; rfl) | (obtain ⟨_, _, _, _, _, _, _, _, _, _, rfl, _⟩ := h; rfl) | (obtain ⟨_, _, _, _, _, _, _, _, _, _, _, rfl, _⟩ := h; rfl) | (obtain ⟨_, _, _, _, _, _, _, _, _, _, _, _, rfl, _⟩ := h; rfl) | (obtain ⟨_, _, _, _, _, _, _, _, _, _, _, _, _, rfl, _⟩ := h; rfl) | (obtain ⟨_, _, _, _, _, _, _, _, _, _, _, _, _, _, rfl, _⟩ := h; rfl) | (obtain ⟨_, _, _, _, _, _, _, _, _, _, _, _, _, _, _, rfl, _⟩ := h; rfl) | (obtain ⟨_, _, _, _, _, _, _, _, _, _, _, _, _, _, _, _, rfl, _⟩ := h; rfl) | (obtain ⟨_, _, _, _, _, _, _, _, _, _, _, _, _, _, _, _, _, rfl, _⟩ := h; rfl) | (obtain ⟨_, _, _, _, _, _, _, _, _, _, _, _, _, _, _, _, _, _, rfl, _⟩ := h; rfl) | (obtain ⟨_, _, _, _, _, _, _, _, _, _, _, _, _, _, _, _, _, _, _, rfl, _⟩ := h; rfl) | (obtain ⟨_, _, _, _, _, _, _, _, _, _, _, _, _, _, _, _, _, _, _, _, rfl, _⟩ := h; rfl) | (obtain ⟨_, _, _, _, _, _, _, _, _, _, _, _, _, _, _, _, _, _, _, _, _, rfl, _⟩ := h; rfl) | (obtain ⟨_, _, _, _, _, _, _, _, _, _, _, _, _, _, _, _, _, _, _, _, _, _, rfl, _⟩ := h; rfl) | (obtain ⟨_, _, _, _, _, _, _, _, _, _, _, _, _, _, _, _, _, _, _, _, _, _, _, rfl, _⟩ := h; rfl) | (obtain ⟨_, _, _, _, _, _, _, _, _, _, _, _, _, _, _, _, _, _, _, _, _, _, _, _, rfl, _⟩ := h; rfl) | (obtain ⟨_, _, _, _, _, _, _, _, _, _, _, _, _, _, _, _, _, _, _, _, _, _, _, _, _, rfl, _⟩ := h; rfl)) (fun cdv A outer s H vs Q E hr h => ⟨_, d__law_right co_ne oc_R su_R co_eq co_ge co_le co_gt co_lt hr, p_right h⟩)
abbrev s_law : Stmt := top 16
theorem sc_law : FnScope ["_law_script", "_law_k", "_law_pool_here", "_law_a", "_law_b", "_law_c", "_law_d", "_law_pairs", "_law_top", "_law_bottom", "_law_number", "_law_odd"] ["_law_script"] (defScope s_law) := ⟨rfl, rfl, rfl, by decide +kernel, rfl, by decide +kernel, by decide +kernel⟩
theorem d_law {P : Program} {w : World} {K : PySem.W.Frag} {mg : Str → Option Value} {base : Heap} {C_Ratio : Addr} {CX : CXT} {f : Addr} {cdv : Value} {A : Around} {outer : List Env} {s : Shared} {H : Hp} {E : XK} (m_len : mg "len" = none) (m_min : mg "min" = none) (m_max : mg "max" = none) (m_range : mg "range" = none) (c__law_pool : Cal P w K mg base CX0 1 "_law_pool" ["_law_script", "_law_k"] (spPool K)) (c__law_take : Cal P w K mg base CX0 1 "_law_take" ["_law_pool_here", "_law_many"] (spTake K)) (c__law_whole : Cal P w K mg base CX0 2 "_law_whole" ["_law_pool_here"] (spLWhole K)) (cm2_Ratio : CalM P w K mg base CX0 2 "Ratio" C_Ratio ["self", "numerator", "denominator"] (spRInit K C_Ratio) []) (c__law_right : Cal P w K mg base CX0 7 "_law_right" ["_law_one", "_law_other", "_law_a", "_law_b", "_law_c", "_law_d"] (spRight K C_Ratio)) (m_str : mg "str" = none) (co_eq : CalO P w K mg base CX0 5 C_Ratio "__eq__" (spEqR K C_Ratio)) (oc_R : OpC K C_Ratio) (su_R : PySem.W.subIn K (.ref C_Ratio) (.type "int") = some false) (cm1_Ratio : CalM P w K mg base CX0 2 "Ratio" C_Ratio ["self", "numerator", "denominator"] (spRInit K C_Ratio) [.int 1])
    (hr : Room 7 (A.deeper (envOfC "law" (defScope s_law) s.heap.objs.size f cdv))) :
    PSs (cxOf CX P w K mg base ["_law_script", "_law_k", "_law_pool_here", "_law_a", "_law_b", "_law_c", "_law_d", "_law_pairs", "_law_top", "_law_bottom", "_law_number", "_law_odd"] "law" (defScope s_law) f cdv A outer s H E) (defBody s_law) (t_law03 K C_Ratio) :=
  (pss_cons (ps_for (passes_of rfl) rfl (pi_range1 rfl m_range (pa_cons (pe_callB (call_max2 rfl) (by rfl) m_max (by decide +kernel) (pa_cons pe_int (pa_cons (pe_callB (call_min2 rfl) (by rfl) m_min (by decide +kernel) (pa_cons pe_int (pa_cons (pe_callB call_len_seq (by rfl) m_len (by decide +kernel) (pa_cons (pv 0) pa_nil)) pa_nil))) pa_nil))) pa_nil)) (pg_name (i := 1) sc_law.nd rfl (by first | exact Or.inl rfl | exact Or.inr rfl)) (pss_cons (ps_set (i := 2) sc_law.nd rfl (by first | exact Or.inl rfl | exact Or.inr rfl) (pe_cal c__law_pool (hr.mono (by decide)) rfl pass0 (pa_cons (pv 0) (pa_cons (pv 1) pa_nil))))
    (pss_cons (ps_par (by rfl) sc_law.nd rfl rfl (by decide) rfl rfl (pa_cons (pe_cal c__law_whole (hr.mono (by decide)) rfl pass0 (pa_cons (pv 2) pa_nil)) (pa_cons (pe_op op_add pe_int (pe_cal c__law_take (hr.mono (by decide)) rfl pass0 (pa_cons (pv 2) (pa_cons (pe_op op_pow pe_int pe_int) pa_nil)))) pa_nil)) (by rfl))
    (pss_cons (ps_par (by rfl) sc_law.nd rfl rfl (by decide) rfl rfl (pa_cons (pe_cal c__law_whole (hr.mono (by decide)) rfl pass0 (pa_cons (pv 2) pa_nil)) (pa_cons (pe_op op_add pe_int (pe_cal c__law_take (hr.mono (by decide)) rfl pass0 (pa_cons (pv 2) (pa_cons pe_int pa_nil)))) pa_nil)) (by rfl))
    (pss_cons (ps_set (i := 7) sc_law.nd rfl (by first | exact Or.inl rfl | exact Or.inr rfl) (pe_lst (pa_cons (pe_tup (pa_cons (pv 5) (pa_cons (pv 6) pa_nil))) (pa_cons (pe_tup (pa_cons (pe_op op_mul (pv 3) (pv 6)) (pa_cons (pe_op op_mul (pv 4) (pv 6)) pa_nil))) (pa_cons (pe_tup (pa_cons (pe_op op_add (pe_op op_mul (pv 3) (pv 6)) pe_int) (pa_cons (pe_op op_mul (pv 4) (pv 6)) pa_nil))) (pa_cons (pe_tup (pa_cons (pe_op op_sub (pe_op op_mul (pv 3) (pv 6)) pe_int) (pa_cons (pe_op op_mul (pv 4) (pv 6)) pa_nil))) (pa_cons (pe_tup (pa_cons (pe_op op_sub pe_int (pv 3)) (pa_cons (pv 4) pa_nil))) pa_nil)))))))
    (pss_cons (ps_for (passes_of rfl) rfl (pi_list (pv 7)) (pg_tup (by rfl) (pgs_cons (pg_name (i := 8) sc_law.nd rfl (by first | exact Or.inl rfl | exact Or.inr rfl)) (pgs_cons (pg_name (i := 9) sc_law.nd rfl (by first | exact Or.inl rfl | exact Or.inr rfl)) pgs_nil))) (pss_one (ps_if (pt_not (pt_val (pe_cal c__law_right (hr.mono (by decide)) rfl pass0 (pa_cons (pe_calm cm2_Ratio (hr.mono (by decide)) rfl pass0 (pa_cons (pv 3) (pa_cons (pv 4) pa_nil))) (pa_cons (pe_calm cm2_Ratio (hr.mono (by decide)) rfl pass0 (pa_cons (pv 8) (pa_cons (pv 9) pa_nil))) (pa_cons (pv 3) (pa_cons (pv 4) (pa_cons (pv 8) (pa_cons (pv 9) pa_nil))))))))) (pss_one (ps_ret pe_bl)) pss_nil)))
    (pss_cons (ps_for (passes_of rfl) rfl (pi_list (pe_lst (pa_cons (pv 5) (pa_cons (pe_op op_fdivW (pv 3) (pv 4)) (pa_cons (pe_op op_add (pe_op op_fdivW (pv 3) (pv 4)) pe_int) (pa_cons pe_int (pa_cons pe_int (pa_cons (pe_un un_neg pe_int) pa_nil)))))))) (pg_name (i := 10) sc_law.nd rfl (by first | exact Or.inl rfl | exact Or.inr rfl)) (pss_one (ps_if (pt_not (pt_val (pe_cal c__law_right (hr.mono (by decide)) rfl pass0 (pa_cons (pe_calm cm2_Ratio (hr.mono (by decide)) rfl pass0 (pa_cons (pv 3) (pa_cons (pv 4) pa_nil))) (pa_cons (pv 10) (pa_cons (pv 3) (pa_cons (pv 4) (pa_cons (pv 10) (pa_cons pe_int pa_nil))))))))) (pss_one (ps_ret pe_bl)) pss_nil)))
    (pss_one (ps_for (passes_of rfl) rfl (pi_list (pe_lst (pa_cons pe_non (pa_cons (pe_callTy call_str_int (by rfl) m_str (by decide +kernel) (pa_cons (pv 3) pa_nil)) (pa_cons (pe_tup (pa_cons (pv 3) (pa_cons (pv 4) pa_nil))) (pa_cons (pe_lst (pa_cons (pv 3) pa_nil)) (pa_cons pe_bl (pa_cons pe_bl (pa_cons pe_dnewK pa_nil))))))))) (pg_name (i := 11) sc_law.nd rfl (by first | exact Or.inl rfl | exact Or.inr rfl)) (pss_one (ps_if (PW.pt (pw_or (pt_cmpR (op_both dec_eq co_eq co_eq oc_R su_R (hr.mono (by decide)) pass0) (pe_calm cm2_Ratio (hr.mono (by decide)) rfl pass0 (pa_cons (pv 3) (pa_cons (pv 4) pa_nil))) (pv 11) (nomark _)) (pw_or (pt_cmpR (op_both dec_eq co_eq co_eq oc_R su_R (hr.mono (by decide)) pass0) (pe_calm cm1_Ratio (hr.mono (by decide)) rfl pass0 (pa_cons pe_int pa_nil)) (pv 11) (nomark _)) (pw_or1 (pt_cmpR (op_both dec_eq co_eq co_eq oc_R su_R (hr.mono (by decide)) pass0) (pe_calm cm1_Ratio (hr.mono (by decide)) rfl pass0 (pa_cons pe_int pa_nil)) (pv 11) (nomark _)))))) (pss_one (ps_ret pe_bl)) pss_nil)))))))))))
    (pss_one (ps_ret (pe_and (pe_cmpR (op_both dec_eq co_eq co_eq oc_R su_R (hr.mono (by decide)) pass0) (pe_calm cm2_Ratio (hr.mono (by decide)) rfl pass0 (pa_cons pe_int (pa_cons pe_int pa_nil))) pe_int (nomark _)) (pe_and (pe_cmpR (op_both dec_eq co_eq co_eq oc_R su_R (hr.mono (by decide)) pass0) pe_int (pe_calm cm1_Ratio (hr.mono (by decide)) rfl pass0 (pa_cons pe_int pa_nil)) (nomark _)) (pe_one (pe_not (pe_cmpR (op_both dec_eq co_eq co_eq oc_R su_R (hr.mono (by decide)) pass0) (pe_calm cm2_Ratio (hr.mono (by decide)) rfl pass0 (pa_cons pe_int (pa_cons pe_int pa_nil))) (pe_calm cm2_Ratio (hr.mono (by decide)) rfl pass0 (pa_cons pe_int (pa_cons pe_int pa_nil))) (nomark _)))))))))
theorem ok_law {P : Program} {w : World} {K : PySem.W.Frag} {mg : Str → Option Value} {base : Heap} {C_Ratio : Addr} {f : Addr} {fd : FuncData} (F : FunD K "law" "law" (defArgs s_law) (defBody s_law) (defScope s_law) [] [] f fd) (m_len : mg "len" = none) (m_min : mg "min" = none) (m_max : mg "max" = none) (m_range : mg "range" = none) (c__law_pool : Cal P w K mg base CX0 1 "_law_pool" ["_law_script", "_law_k"] (spPool K)) (c__law_take : Cal P w K mg base CX0 1 "_law_take" ["_law_pool_here", "_law_many"] (spTake K)) (c__law_whole : Cal P w K mg base CX0 2 "_law_whole" ["_law_pool_here"] (spLWhole K)) (cm2_Ratio : CalM P w K mg base CX0 2 "Ratio" C_Ratio ["self", "numerator", "denominator"] (spRInit K C_Ratio) []) (c__law_right : Cal P w K mg base CX0 7 "_law_right" ["_law_one", "_law_other", "_law_a", "_law_b", "_law_c", "_law_d"] (spRight K C_Ratio)) (m_str : mg "str" = none) (co_eq : CalO P w K mg base CX0 5 C_Ratio "__eq__" (spEqR K C_Ratio)) (oc_R : OpC K C_Ratio) (su_R : PySem.W.subIn K (.ref C_Ratio) (.type "int") = some false) (cm1_Ratio : CalM P w K mg base CX0 2 "Ratio" C_Ratio ["self", "numerator", "denominator"] (spRInit K C_Ratio) [.int 1]) : FnOk P w K mg base CX0 8 f fd ["_law_script"] (spLaw03 K C_Ratio) :=
  F.ok sc_law (fun vs H Q E h => by first | (obtain ⟨_, rfl, _⟩ := h; rfl) | (obtain ⟨_, _, rfl, _⟩ := h; rfl) | (obtain ⟨_, _, _, rfl, _⟩ := h; rfl) | (obtain ⟨_, _, _, _, rfl, _⟩ := h; rfl) | (obtain ⟨_, _, _, _, _, rfl, _⟩ := h; rfl) | (obtain ⟨_, _, _, _, _, _, rfl, _⟩ := h; rfl) | (obtain ⟨_, _, _, _, _, _, _, rfl, _⟩ := h; rfl) | (obtain ⟨_, _, _, _, _, _, _, _, rfl, _⟩ := h; rfl) | (obtain ⟨_, _, _, _, _, _, _, _, _, rfl, _⟩ := h; rfl) | (obtain ⟨_, _, _, _, _, _, _, _, _, _, rfl, _⟩ := h; rfl) | (obtain ⟨_, _, _, _, _, _, _, _, _, _, _, rfl, _⟩ := h; rfl) | (obtain ⟨_, _, _, _, _, _, _, _, _, _, _, _, rfl, _⟩ := h; rfl) | (obtain ⟨_, _, _, _, _, _, _, _, _, _, _, _, _, rfl, _⟩ := h; rfl) | (obtain ⟨_, _, _, _, _, _, _, _, _, _, _, _, _, _, rfl, _⟩ := h; rfl) | (obtain ⟨_, _, _, _, _, _, _, _, _, _, _, _, _, _, _, rfl, _⟩ := h; rfl) | (obtain ⟨_, _, _, _, _, _, _, _, _, _, _, _, _, _, _, _, rfl, _⟩ := h; rfl) | (obtain ⟨_, _, _, _, _, _, _, _, _, _, _, _, _, _, _, _, _, rfl, _⟩ := h; rfl) | (obtain ⟨_, _, _, _, _, _, _, _, _, _, _, _, _, _, _, _, _, _, rfl, _⟩ := h; rfl) | (obtain ⟨_, _, _, _, _, _, _, _, _, _, _, _, _, _, _, _, _, _, _, rfl, _⟩ := h; rfl) | (obtain ⟨_, _, _, _, _, _, _, _, _, _, _, _, _, _, _, _, _, _, _, _, rfl, _⟩ := h; rfl) | (obtain ⟨_, _, _, _, _, _, _, _, _, _, _, _, _, _, _, _, _, _, _, _, _, rfl, _⟩ := h; rfl) | (obtain ⟨_, _, _, _, _, _, _, _, _, _, _, _, _, _, _, _, _, _, _, _, _, _, rfl, _⟩ := h; rfl) | (obtain ⟨_, _, _, _, _, _, _, _, _, _, _, _, _, _, _, _, _, _, _, _, _, _, _, rfl, _⟩ := h; rfl) | (obtain ⟨_, _, _, _, _, _, _, _, _, _, _, _, _, _, _, _, _, _, _, _, _, _, _, _, rfl, _⟩ := h; rfl) | (obtain ⟨_, _, _, _, _, _, _, _, _, _, _, _, _, _, _, _, _, _, _, _, _, _, _, _, _, rfl, _⟩ := h; rfl)) (fun cdv A outer s H vs Q E hr h => ⟨_, d_law m_len m_min m_max m_range c__law_pool c__law_take c__law_whole cm2_Ratio c__law_right m_str co_eq oc_R su_R cm1_Ratio hr, p_law03 h⟩)
def D_is_whole : He.DefD := ⟨("is_whole", none), "is_whole", "is_whole", defArgs s_is_whole, defBody s_is_whole, defScope s_is_whole, [], []⟩
def D_common_divisor : He.DefD := ⟨("common_divisor", none), "common_divisor", "common_divisor", defArgs s_common_divisor, defBody s_common_divisor, defScope s_common_divisor, [], []⟩
def D_gap : He.DefD := ⟨("gap", none), "gap", "gap", defArgs s_gap, defBody s_gap, defScope s_gap, [], []⟩
def D_Ratio___init__ : He.DefD := ⟨("Ratio", some "__init__"), "__init__", "Ratio.__init__", defArgs s_Ratio___init__, defBody s_Ratio___init__, defScope s_Ratio___init__, [.int 1], []⟩
def D_as_ratio : He.DefD := ⟨("as_ratio", none), "as_ratio", "as_ratio", defArgs s_as_ratio, defBody s_as_ratio, defScope s_as_ratio, [], []⟩
def D_Ratio___eq__ : He.DefD := ⟨("Ratio", some "__eq__"), "__eq__", "Ratio.__eq__", defArgs s_Ratio___eq__, defBody s_Ratio___eq__, defScope s_Ratio___eq__, [], []⟩
def D_Ratio___ne__ : He.DefD := ⟨("Ratio", some "__ne__"), "__ne__", "Ratio.__ne__", defArgs s_Ratio___ne__, defBody s_Ratio___ne__, defScope s_Ratio___ne__, [], []⟩
def D_Ratio___lt__ : He.DefD := ⟨("Ratio", some "__lt__"), "__lt__", "Ratio.__lt__", defArgs s_Ratio___lt__, defBody s_Ratio___lt__, defScope s_Ratio___lt__, [], []⟩
def D_Ratio___le__ : He.DefD := ⟨("Ratio", some "__le__"), "__le__", "Ratio.__le__", defArgs s_Ratio___le__, defBody s_Ratio___le__, defScope s_Ratio___le__, [], []⟩
def D_Ratio___gt__ : He.DefD := ⟨("Ratio", some "__gt__"), "__gt__", "Ratio.__gt__", defArgs s_Ratio___gt__, defBody s_Ratio___gt__, defScope s_Ratio___gt__, [], []⟩
def D_Ratio___ge__ : He.DefD := ⟨("Ratio", some "__ge__"), "__ge__", "Ratio.__ge__", defArgs s_Ratio___ge__, defBody s_Ratio___ge__, defScope s_Ratio___ge__, [], []⟩
def D__law_pool : He.DefD := ⟨("_law_pool", none), "_law_pool", "_law_pool", defArgs s__law_pool, defBody s__law_pool, defScope s__law_pool, [], []⟩
def D__law_take : He.DefD := ⟨("_law_take", none), "_law_take", "_law_take", defArgs s__law_take, defBody s__law_take, defScope s__law_take, [], []⟩
def D__law_whole : He.DefD := ⟨("_law_whole", none), "_law_whole", "_law_whole", defArgs s__law_whole, defBody s__law_whole, defScope s__law_whole, [], []⟩
def D__law_right : He.DefD := ⟨("_law_right", none), "_law_right", "_law_right", defArgs s__law_right, defBody s__law_right, defScope s__law_right, [], []⟩
def D_law : He.DefD := ⟨("law", none), "law", "law", defArgs s_law, defBody s_law, defScope s_law, [], []⟩
def fn : List He.DefD := [D_is_whole, D_common_divisor, D_gap, D_Ratio___init__, D_as_ratio, D_Ratio___eq__, D_Ratio___ne__, D_Ratio___lt__, D_Ratio___le__, D_Ratio___gt__, D_Ratio___ge__, D__law_pool, D__law_take, D__law_whole, D__law_right, D_law]
def loose : List PySem.Str := [("_wall" : PySem.Str), ("__name__" : PySem.Str), ("RainError" : PySem.Str), ("InvalidNumber" : PySem.Str), ("is_whole" : PySem.Str), ("common_divisor" : PySem.Str), ("as_ratio" : PySem.Str), ("gap" : PySem.Str), ("Ratio" : PySem.Str), ("_law_pool" : PySem.Str), ("_law_take" : PySem.Str), ("_law_whole" : PySem.Str), ("_law_right" : PySem.Str)]
def fa : List He.Fa := [.free "int", .free "isinstance", .free "bool", .free "abs", .free "len", .free "min", .free "max", .free "range", .free "str", .glo "Ratio", .cls "Ratio", .noat "Ratio" "reduced_top", .noat "Ratio" "reduced_bottom", .mkr "Ratio", .glo "is_whole", .glo "common_divisor", .glo "gap", .glo "as_ratio", .meth "Ratio" "__eq__", .meth "Ratio" "__ne__", .meth "Ratio" "__lt__", .meth "Ratio" "__le__", .meth "Ratio" "__gt__", .meth "Ratio" "__ge__", .glo "_law_pool", .glo "_law_take", .glo "_law_whole", .glo "_law_right", .glo "law"]
def gts : List Gt := []
def exB (K : PySem.W.Frag) : Bool := clB K "Ratio" && (kiB K "Ratio" && (opcB K "Ratio" && (suB K "Ratio" && (odB K "Ratio"))))
theorem exb_clsR {K : PySem.W.Frag} (h : exB K = true) : clB K "Ratio" = true := (He.ba h).1
theorem exb_ki {K : PySem.W.Frag} (h : exB K = true) : kiB K "Ratio" = true := (He.ba (He.ba h).2).1
theorem exb_opc {K : PySem.W.Frag} (h : exB K = true) : opcB K "Ratio" = true := (He.ba (He.ba (He.ba h).2).2).1
theorem exb_su {K : PySem.W.Frag} (h : exB K = true) : suB K "Ratio" = true := (He.ba (He.ba (He.ba (He.ba h).2).2).2).1
theorem exb_od {K : PySem.W.Frag} (h : exB K = true) : odB K "Ratio" = true := (He.ba (He.ba (He.ba (He.ba h).2).2).2).2
abbrev RR : PySem.W.OpenRow := PySem.W.OpenLaw.row PySem.Challenge.rw_rainvalleys_k03_fractions_in_order
abbrev hk : PySem.W.Hook := hookR 6 fa fn gts exB
def ob (s : PySem.W.SharedT) : AlR := obsRG 6 fa fn gts exB (HandSHeadRun.getT s)
theorem ob_eq (s : PySem.W.SharedT) : ob s = hk.obs s.abs := obsRG_eq (HandSHeadRun.getT_eq s)
theorem run (w : World) : HandSHeadRun.RunEq RR (PySem.W.view RR.prog [16]) hk ob 6000 loose w := by
  intro os
  kernel_rfl
theorem facts {P : Program} {w : World} {K : PySem.W.Frag} {h : Heap} {mg : Str → Option Value} {f : Addr} (X : K.In h) (G : h.Ns mainGlobals mg) (hfa : mg ("law" : Str) = some (.ref f)) (c : SaysR fa fn gts exB K) :
    ∃ fd : FuncData, (∀ (s : Shared) (v : Value), BindsTo s fd ⟨[v], []⟩ [("_law_script", v)]) ∧ (RCls K (He.ga K "Ratio") ∧ OdC K (He.ga K "Ratio")) ∧ ∀ base : Heap, K.In base → base.Ns mainGlobals mg → FnOk P w K mg base CX0 8 f fd ["_law_script"] (spLaw03 K (He.ga K "Ratio")) := by
  obtain ⟨fd0, F0⟩ := c.d.def_ 0 (d := D_is_whole) rfl
  obtain ⟨fd1, F1⟩ := c.d.def_ 1 (d := D_common_divisor) rfl
  obtain ⟨fd2, F2⟩ := c.d.def_ 2 (d := D_gap) rfl
  obtain ⟨fd3, F3⟩ := c.d.def_ 3 (d := D_Ratio___init__) rfl
  obtain ⟨fd4, F4⟩ := c.d.def_ 4 (d := D_as_ratio) rfl
  obtain ⟨fd5, F5⟩ := c.d.def_ 5 (d := D_Ratio___eq__) rfl
  obtain ⟨fd6, F6⟩ := c.d.def_ 6 (d := D_Ratio___ne__) rfl
  obtain ⟨fd7, F7⟩ := c.d.def_ 7 (d := D_Ratio___lt__) rfl
  obtain ⟨fd8, F8⟩ := c.d.def_ 8 (d := D_Ratio___le__) rfl
  obtain ⟨fd9, F9⟩ := c.d.def_ 9 (d := D_Ratio___gt__) rfl
  obtain ⟨fd10, F10⟩ := c.d.def_ 10 (d := D_Ratio___ge__) rfl
  obtain ⟨fd11, F11⟩ := c.d.def_ 11 (d := D__law_pool) rfl
  obtain ⟨fd12, F12⟩ := c.d.def_ 12 (d := D__law_take) rfl
  obtain ⟨fd13, F13⟩ := c.d.def_ 13 (d := D__law_whole) rfl
  obtain ⟨fd14, F14⟩ := c.d.def_ 14 (d := D__law_right) rfl
  obtain ⟨fd15, F15⟩ := c.d.def_ 15 (d := D_law) rfl
  have e := hfa.symm.trans (He.glo_ok X G (c.d.fact 28 (f := .glo "law") rfl))
  cases e
  have b := FunD.bindsA (ps := ["_law_script"]) F15 fun _ _ _ _ _ _ us hl => match us, hl with | [_], _ => rfl
  have sdR : RCls K (He.ga K "Ratio") := rcls_of (He.cls_ok (c.d.fact 10 (f := .cls "Ratio") rfl)) (He.noat_ok (c.d.fact 11 (f := .noat "Ratio" "reduced_top") rfl)) (He.noat_ok (c.d.fact 12 (f := .noat "Ratio" "reduced_bottom") rfl)) (exb_clsR c.x) (exb_ki c.x)
  have sd := And.intro sdR (odc_of (exb_od c.x))
  refine ⟨fd15, fun s v => b s [v] rfl, sd, fun base _ _ => ?_⟩
  have m_int := He.free_ok X G (c.d.fact 0 (f := .free "int") rfl)
  have m_isinstance := He.free_ok X G (c.d.fact 1 (f := .free "isinstance") rfl)
  have m_bool := He.free_ok X G (c.d.fact 2 (f := .free "bool") rfl)
  have m_abs := He.free_ok X G (c.d.fact 3 (f := .free "abs") rfl)
  have m_len := He.free_ok X G (c.d.fact 4 (f := .free "len") rfl)
  have m_min := He.free_ok X G (c.d.fact 5 (f := .free "min") rfl)
  have m_max := He.free_ok X G (c.d.fact 6 (f := .free "max") rfl)
  have m_range := He.free_ok X G (c.d.fact 7 (f := .free "range") rfl)
  have m_str := He.free_ok X G (c.d.fact 8 (f := .free "str") rfl)
  have g_Ratio := He.glo_ok X G (c.d.fact 9 (f := .glo "Ratio") rfl)
  have k_Ratio := He.cls_ok (c.d.fact 10 (f := .cls "Ratio") rfl)
  have nT := He.noat_ok (c.d.fact 11 (f := .noat "Ratio" "reduced_top") rfl)
  have nB := He.noat_ok (c.d.fact 12 (f := .noat "Ratio" "reduced_bottom") rfl)
  have mkR := He.mkr_ok (c.d.fact 13 (f := .mkr "Ratio") rfl)
  have oc_R := opc_of (exb_opc c.x)
  have su_R : PySem.W.subIn K (.ref (He.ga K "Ratio")) (.type "int") = some false := of_decide_eq_true (exb_su c.x)
  have c_is_whole : Cal P w K mg base CX0 1 "is_whole" ["value"] (spWhole K) := ⟨_, fd0, ok_is_whole F0 m_int m_isinstance m_bool, He.glo_ok X G (c.d.fact 14 (f := .glo "is_whole") rfl), F0.kp, F0.bindsN fun _ _ _ _ _ _ us hl => match us, hl with | [_], _ => rfl⟩
  have c_common_divisor : Cal P w K mg base CX0 1 "common_divisor" ["first", "second"] (spGcd K) := ⟨_, fd1, ok_common_divisor F1 , He.glo_ok X G (c.d.fact 15 (f := .glo "common_divisor") rfl), F1.kp, F1.bindsN fun _ _ _ _ _ _ us hl => match us, hl with | [_, _], _ => rfl⟩
  have c_gap : Cal P w K mg base CX0 1 "gap" ["left", "right"] (spGap K (He.ga K "Ratio")) := ⟨_, fd2, ok_gap F2 , He.glo_ok X G (c.d.fact 16 (f := .glo "gap") rfl), F2.kp, F2.bindsN fun _ _ _ _ _ _ us hl => match us, hl with | [_, _], _ => rfl⟩
  obtain ⟨dr1, vr1, br1⟩ := F3.binds1 (ps := ["self", "numerator", "denominator"]) 2 0 (show ([V.int 1] : List V) ≠ [] from List.cons_ne_nil _ _) rfl (fun _ _ _ _ _ _ _ us its h1 h2 => match us, its, h1, h2 with | [_, _], [_], _, _ => ⟨_, rfl, rfl⟩)
  obtain ⟨dr2, vr2, br2⟩ := F3.binds1 (ps := ["self", "numerator", "denominator"]) 3 1 (show ([V.int 1] : List V) ≠ [] from List.cons_ne_nil _ _) rfl (fun _ _ _ _ _ _ _ us its h1 h2 => match us, its, h1, h2 with | [_, _, _], [_], _, _ => ⟨_, rfl, rfl⟩)
  have cm1_Ratio : CalM P w K mg base CX0 2 "Ratio" (He.ga K "Ratio") ["self", "numerator", "denominator"] (spRInit K (He.ga K "Ratio")) [.int 1] := ⟨_, fd3, dr1, ok_Ratio___init__ F3 c_is_whole m_abs c_common_divisor, mkR, g_Ratio, br1, vr1⟩
  have cm2_Ratio : CalM P w K mg base CX0 2 "Ratio" (He.ga K "Ratio") ["self", "numerator", "denominator"] (spRInit K (He.ga K "Ratio")) [] := ⟨_, fd3, dr2, ok_Ratio___init__ F3 c_is_whole m_abs c_common_divisor, mkR, g_Ratio, br2, vr2⟩
  have c_as_ratio : Cal P w K mg base CX0 4 "as_ratio" ["value"] (spAsR K (He.ga K "Ratio")) := ⟨_, fd4, ok_as_ratio F4 g_Ratio m_isinstance c_is_whole cm1_Ratio, He.glo_ok X G (c.d.fact 17 (f := .glo "as_ratio") rfl), F4.kp, F4.bindsN fun _ _ _ _ _ _ us hl => match us, hl with | [_], _ => rfl⟩
  have me_eq := He.meth_ok (c.d.fact 18 (f := .meth "Ratio" "__eq__") rfl)
  have co_eq : CalO P w K mg base CX0 5 (He.ga K "Ratio") "__eq__" (spEqR K (He.ga K "Ratio")) := ⟨_, fd5, ok_Ratio___eq__ F5 g_Ratio m_isinstance c_is_whole, me_eq.at_, me_eq.fn, F5.bindsN fun _ _ _ _ _ _ us hl => match us, hl with | [_, _], _ => rfl⟩
  have me_ne := He.meth_ok (c.d.fact 19 (f := .meth "Ratio" "__ne__") rfl)
  have co_ne : CalO P w K mg base CX0 6 (He.ga K "Ratio") "__ne__" (spNeR K (He.ga K "Ratio")) := ⟨_, fd6, ok_Ratio___ne__ F6 co_eq oc_R su_R, me_ne.at_, me_ne.fn, F6.bindsN fun _ _ _ _ _ _ us hl => match us, hl with | [_, _], _ => rfl⟩
  have me_lt := He.meth_ok (c.d.fact 20 (f := .meth "Ratio" "__lt__") rfl)
  have co_lt : CalO P w K mg base CX0 5 (He.ga K "Ratio") "__lt__" (spLt K (He.ga K "Ratio")) := ⟨_, fd7, ok_Ratio___lt__ F7 c_as_ratio c_gap, me_lt.at_, me_lt.fn, F7.bindsN fun _ _ _ _ _ _ us hl => match us, hl with | [_, _], _ => rfl⟩
  have me_le := He.meth_ok (c.d.fact 21 (f := .meth "Ratio" "__le__") rfl)
  have co_le : CalO P w K mg base CX0 5 (He.ga K "Ratio") "__le__" (spLe K (He.ga K "Ratio")) := ⟨_, fd8, ok_Ratio___le__ F8 c_as_ratio c_gap, me_le.at_, me_le.fn, F8.bindsN fun _ _ _ _ _ _ us hl => match us, hl with | [_, _], _ => rfl⟩
  have me_gt := He.meth_ok (c.d.fact 22 (f := .meth "Ratio" "__gt__") rfl)
  have co_gt : CalO P w K mg base CX0 5 (He.ga K "Ratio") "__gt__" (spGt K (He.ga K "Ratio")) := ⟨_, fd9, ok_Ratio___gt__ F9 c_as_ratio c_gap, me_gt.at_, me_gt.fn, F9.bindsN fun _ _ _ _ _ _ us hl => match us, hl with | [_, _], _ => rfl⟩
  have me_ge := He.meth_ok (c.d.fact 23 (f := .meth "Ratio" "__ge__") rfl)
  have co_ge : CalO P w K mg base CX0 5 (He.ga K "Ratio") "__ge__" (spGe K (He.ga K "Ratio")) := ⟨_, fd10, ok_Ratio___ge__ F10 c_as_ratio c_gap, me_ge.at_, me_ge.fn, F10.bindsN fun _ _ _ _ _ _ us hl => match us, hl with | [_, _], _ => rfl⟩
  have c__law_pool : Cal P w K mg base CX0 1 "_law_pool" ["_law_script", "_law_k"] (spPool K) := ⟨_, fd11, ok__law_pool F11 m_int, He.glo_ok X G (c.d.fact 24 (f := .glo "_law_pool") rfl), F11.kp, F11.bindsN fun _ _ _ _ _ _ us hl => match us, hl with | [_, _], _ => rfl⟩
  have c__law_take : Cal P w K mg base CX0 1 "_law_take" ["_law_pool_here", "_law_many"] (spTake K) := ⟨_, fd12, ok__law_take F12 , He.glo_ok X G (c.d.fact 25 (f := .glo "_law_take") rfl), F12.kp, F12.bindsN fun _ _ _ _ _ _ us hl => match us, hl with | [_, _], _ => rfl⟩
  have c__law_whole : Cal P w K mg base CX0 2 "_law_whole" ["_law_pool_here"] (spLWhole K) := ⟨_, fd13, ok__law_whole F13 c__law_take, He.glo_ok X G (c.d.fact 26 (f := .glo "_law_whole") rfl), F13.kp, F13.bindsN fun _ _ _ _ _ _ us hl => match us, hl with | [_], _ => rfl⟩
  have c__law_right : Cal P w K mg base CX0 7 "_law_right" ["_law_one", "_law_other", "_law_a", "_law_b", "_law_c", "_law_d"] (spRight K (He.ga K "Ratio")) := ⟨_, fd14, ok__law_right F14 co_ne oc_R su_R co_eq co_ge co_le co_gt co_lt, He.glo_ok X G (c.d.fact 27 (f := .glo "_law_right") rfl), F14.kp, F14.bindsN fun _ _ _ _ _ _ us hl => match us, hl with | [_, _, _, _, _, _], _ => rfl⟩
  exact ok_law F15 m_len m_min m_max m_range c__law_pool c__law_take c__law_whole cm2_Ratio c__law_right m_str co_eq oc_R su_R cm1_Ratio
end Rv
open PySem PySem.W PySem.Calls PyProof.Rows
theorem PySem.Challenge.cw_rainvalleys_k03_fractions_in_order_holds : PySem.Challenge.rw_rainvalleys_k03_fractions_in_order.Holds := by
  w_on; o_law
  refine HandSHeadRun.head_any (r := OpenLaw.row PySem.Challenge.rw_rainvalleys_k03_fractions_in_order) (q := view (OpenLaw.row PySem.Challenge.rw_rainvalleys_k03_fractions_in_order).prog [16]) (H := Rv.hk) (ob := Rv.ob) (M := 6000) (loose := Rv.loose) (d := HandSHeadRun.topDef (OpenLaw.row PySem.Challenge.rw_rainvalleys_k03_fractions_in_order).prog 16) (kwd := []) Rv.ob_eq
    (by kernel_rfl) (fun s => by kernel_rfl) Rv.run (by kernel_rfl) (by kernel_rfl) (by kernel_rfl) (by rfl) (by first | assumption | decide +kernel) (by decide +kernel) ⟨rfl, rfl, rfl, rfl, rfl, by decide +kernel⟩ ?hw ?hc
  case hw => w_witness2
  case hc =>
    refine L2.walk_ofE (l := PySem.Challenge.rw_rainvalleys_k03_fractions_in_order) (n := 63) (k := 8) (x := "_law_script") (CX := L2.CX0) rfl (by decide) (by kernel_rfl) ⟨rfl, by decide, by decide⟩ ?F (fun _ _ _ _ z => z)
    intro w mg fa h Y G hmg0
    obtain ⟨K, KX, c⟩ := Y
    have hmg : mg ("law" : PySem.Str) = some (.ref fa) := by
      have e : (HandSHeadRun.topDef (OpenLaw.row PySem.Challenge.rw_rainvalleys_k03_fractions_in_order).prog 16).name = ("law" : PySem.Str) := by kernel_rfl
      rw [← e]
      exact hmg0
    obtain ⟨fd, hb, sd, hF⟩ := Rv.facts (P := (PySem.Challenge.rw_rainvalleys_k03_fractions_in_order).prog) (w := w) KX G hmg c
    exact ⟨K, fd, _, KX, hb, fun H a ns hl hO hS => ⟨a, ns, rfl, hl, hS, sd.1, sd.2, fun _ => rfl⟩, hF⟩
